import PyProof.Rows.All
import Wide.All
import OpenK.AllK
import Wide.FinOn
import Lean
import PyProof.EqAt
import PyProof.EqKinds
import PyProof.TupleCall
import PySem.Challenge.RW_sealhouse_k22_normal_kinds
set_option Elab.async false
set_option linter.all false
set_option maxRecDepth 100000
/-! THE HAND LAYER, for ints, bools, texts, own classes, LISTS and tuples (index, slices, in, append, pop ..), calls, loops. Paste it whole ahead of your own text; what your proof does not reach may be deleted. -/
namespace L2
open PySem PySem.Spec PyProof.Rows

/-- a key: an int or a str -/
abbrev Key := Sum Int Str
def keyIs : Key → Value → Bool
  | .inl k, v => Value.isInt k v
  | .inr x, v => Value.isStrOf x v
def keyH (w : World) : Key → Int
  | .inl k => hashInt k
  | .inr x => hashStr w x
theorem keyIs_shape : ∀ {k : Key} {v : Value}, keyIs k v = true → (∃ i t, k = Sum.inl i ∧ v = Value.int i t) ∨ (∃ x t, k = Sum.inr x ∧ v = Value.str x t)
  | .inl i, v, h => by
    obtain ⟨t, e⟩ := Value.isInt_shape (k := i) (v := v) h
    exact .inl ⟨i, t, rfl, e⟩
  | .inr x, v, h => by
    obtain ⟨t, e⟩ := Value.isStrOf_shape (x := x) (v := v) h
    exact .inr ⟨x, t, rfl, e⟩
theorem keyIs_int (i : Int) (t : Tok) : keyIs (.inl i) (.int i t) = true := by simp [keyIs, Value.isInt]
theorem keyIs_str (x : Str) (t : Tok) : keyIs (.inr x) (.str x t) = true := by simp [keyIs, Value.isStrOf]
theorem key_ll (a b : Int) : decide ((Sum.inl a : Key) = Sum.inl b) = (a == b) := by
  by_cases e : a = b
  · subst e; simp
  · have h : ¬ (Sum.inl a : Key) = Sum.inl b := fun q => e (Sum.inl.inj q)
    rw [decide_eq_false h]
    exact (beq_eq_false_iff_ne.mpr e).symm
theorem key_rr (a b : Str) : decide ((Sum.inr a : Key) = Sum.inr b) = decide (a = b) := by
  by_cases e : a = b
  · subst e; simp
  · have h : ¬ (Sum.inr a : Key) = Sum.inr b := fun q => e (Sum.inr.inj q)
    rw [decide_eq_false h, decide_eq_false e]
theorem key_lr (a : Int) (b : Str) : decide ((Sum.inl a : Key) = Sum.inr b) = false := decide_eq_false (fun q => nomatch q)
theorem key_rl (a : Str) (b : Int) : decide ((Sum.inr a : Key) = Sum.inl b) = false := decide_eq_false (fun q => nomatch q)

def mixKind (prog : Program) (w : World) : PySem.KeyKind prog w Key where
  is := keyIs
  hash := keyH w
  inj := fun v a b ha hb => by
    rcases keyIs_shape ha with ⟨i, t, rfl, rfl⟩ | ⟨x, t, rfl, rfl⟩
    · rcases keyIs_shape hb with ⟨j, u, rfl, e⟩ | ⟨y, u, rfl, e⟩
      · injection e with e1 _; rw [e1]
      · exact nomatch e
    · rcases keyIs_shape hb with ⟨j, u, rfl, e⟩ | ⟨y, u, rfl, e⟩
      · exact nomatch e
      · injection e with e1 _; rw [e1]
  byValue := fun k v h => by
    rcases keyIs_shape h with ⟨i, t, rfl, rfl⟩ | ⟨x, t, rfl, rfl⟩ <;> rfl
  pyHash := fun hv h => by
    rcases keyIs_shape hv with ⟨i, t, rfl, rfl⟩ | ⟨x, t, rfl, rfl⟩
    · exact wpAny_pyHash_int h
    · exact wpAny_pyHash_str h
  eqBool := fun hu hv h => by
    rcases keyIs_shape hu with ⟨i, t, rfl, rfl⟩ | ⟨x, t, rfl, rfl⟩
    · rcases keyIs_shape hv with ⟨j, u, rfl, rfl⟩ | ⟨y, u, rfl, rfl⟩
      · rw [key_ll] at h; exact wpAny_eqBool_int h
      · rw [key_lr] at h; exact SeqAt.EqAt.int_str i t y u _ _ _ _ h
    · rcases keyIs_shape hv with ⟨j, u, rfl, rfl⟩ | ⟨y, u, rfl, rfl⟩
      · rw [key_rl] at h; exact SeqAt.EqAt.str_int x t j u _ _ _ _ h
      · rw [key_rr] at h; exact wpAny_eqBool_str h
  «strs» := fun k x t v h => by
    rcases keyIs_shape h with ⟨i, u, rfl, e⟩ | ⟨y, u, rfl, e⟩
    · exact nomatch e
    · injection e with e1 _
      subst e1
      cases v <;> rfl

theorem mixKind_is (prog : Program) (w : World) (k : Key) (v : Value) : (mixKind prog w).is k v = keyIs k v := rfl
theorem mixKind_int (prog : Program) (w : World) (i : Int) (t : Tok) : (mixKind prog w).is (.inl i) (.int i t) = true := keyIs_int i t
theorem mixKind_str (prog : Program) (w : World) (x : Str) (t : Tok) : (mixKind prog w).is (.inr x) (.str x t) = true := keyIs_str x t
end L2

namespace L2
open PySem PySem.Spec PyProof.Rows

/-- a value, without the heap -/
inductive V where
  | non | bl (b : Bool) | int (i : Int) | str (x : Str) | byt (b : Array UInt8) | flt (b : UInt64) | ref (a : Addr) | ty (n : String)
  deriving DecidableEq

def RelV : V → Value → Prop
  | .non, u => u = Value.none
  | .bl b, u => u = Value.bool b
  | .int i, u => ∃ t, u = Value.int i t
  | .str x, u => ∃ t, u = Value.str x t
  | .byt b, u => ∃ t, u = Value.bytes b t
  | .flt b, u => ∃ t, u = Value.float b t
  | .ref a, u => u = Value.ref a
  | .ty n, u => u = Value.type n

abbrev Vals : List V → List Value → Prop := Paired RelV
theorem Vals.length {xs : List V} {us : List Value} (r : Vals xs us) : xs.length = us.length := Paired.length r
theorem Vals.get : ∀ {xs : List V} {us : List Value} {i : Nat} {x : V}, Vals xs us → xs[i]? = some x → ∃ u, us[i]? = some u ∧ RelV x u
  | _, _, _, _, .nil, e => by simp at e
  | _, _, 0, _, .cons r _, e => by simp at e; subst e; exact ⟨_, rfl, r⟩
  | _, _, i + 1, x, .cons _ t, e => by
    obtain ⟨u, h1, h2⟩ := Vals.get (i := i) (x := x) t (by simpa using e)
    exact ⟨u, by simpa using h1, h2⟩
theorem Vals.set {x : V} {u : Value} (r : RelV x u) : ∀ {xs : List V} {us : List Value} (i : Nat), Vals xs us → Vals (xs.set i x) (us.set i u)
  | _, _, _, .nil => .nil
  | _, _, 0, .cons _ t => .cons r t
  | _, _, i + 1, .cons q t => .cons q (Vals.set r i t)
theorem Vals.append : ∀ {xs ys : List V} {us ws : List Value}, Vals xs us → Vals ys ws → Vals (xs ++ ys) (us ++ ws)
  | _, _, _, _, .nil, s => s
  | _, _, _, _, .cons r t, s => .cons r (Vals.append t s)
theorem Vals.take : ∀ {xs : List V} {us : List Value} (n : Nat), Vals xs us → Vals (xs.take n) (us.take n)
  | _, _, 0, _ => .nil
  | _, _, _ + 1, .nil => .nil
  | _, _, n + 1, .cons r t => .cons r (Vals.take n t)
theorem Vals.drop : ∀ {xs : List V} {us : List Value} (n : Nat), Vals xs us → Vals (xs.drop n) (us.drop n)
  | _, _, 0, r => r
  | _, _, _ + 1, .nil => .nil
  | _, _, n + 1, .cons _ t => Vals.drop n t
theorem Vals.none_of : ∀ {xs : List V} {us : List Value} {i : Nat}, Vals xs us → xs[i]? = none → us[i]? = none := fun {xs us i} r e => by
  have h1 := r.length
  have h2 : xs.length ≤ i := List.getElem?_eq_none_iff.mp e
  exact List.getElem?_eq_none_iff.mpr (by omega)

def RelO : Option V → Option Value → Prop
  | some v, some u => RelV v u
  | none, none => True
  | _, _ => False
def KV {κ : Type} : List (κ × V) → List (κ × Value) → Prop := Paired fun (p : κ × V) (q : κ × Value) => p.1 = q.1 ∧ RelV p.2 q.2

/-- a key of a dict (00_mix): an int or a text -/
def kV : Key → V
  | .inl i => .int i
  | .inr x => .str x

/-- what stands at a tracked address -/
inductive HO where
  /-- a list -/
  | lst (xs : List V)
  /-- a tuple (never changes) -/
  | tup (xs : List V)
  /-- a dict whose keys are ints and texts; one whose keys are tuples of ints and texts (the empty one is both) -/
  | dK (kvs : List (Key × V)) | dT (kvs : List (List Key × V))
  /-- a set of ints: its members, its size -/
  | set (S : Int → Bool) (n : Nat)
  /-- an instance of the class at C, its dict at dx, its attributes -/
  | ins (C dx : Addr) (fs : List (Str × V))
  /-- the dict of the instance at x -/
  | own (x : Addr)
  /-- the dict of an exception -/
  | xd (fs : List (Str × V))
  /-- a bound method, f of x -/
  | met (f x : Addr)
  /-- a range object lo, lo + 1, .. below hi -/
  | rng (lo hi : Int)
  /-- a thing that is known to the object (the script; a dict while a loop walks it): read, never written while it is so -/
  | frz (o : Obj) (u : HO)
  /-- a code object's table -/
  | tbl (ps : Array Value)
  /-- any other thing, by what is true of its one object (a def of one's own: SetO a S n := HO.ext fun h => ..) -/
  | ext (φ : Heap → Prop)

abbrev Hp := Addr → Option HO
def upd (H : Hp) (a : Addr) (o : HO) : Hp := fun b => if b = a then some o else H b
theorem upd_same {H : Hp} {a : Addr} {o : HO} : upd H a o a = some o := by unfold upd; rw [if_pos rfl]
theorem upd_ne {H : Hp} {a b : Addr} {o : HO} (h : b ≠ a) : upd H a o b = H b := by unfold upd; rw [if_neg h]
theorem upd_upd {H : Hp} {a : Addr} {o u : HO} : upd (upd H a o) a u = upd H a u := by
  funext b; unfold upd; split <;> rfl
/-- two objects of different content stand apart -/
theorem ne_of {H : Hp} {a b : Addr} {o u : HO} (h : H a = some o) (h' : H b = some u) (d : o ≠ u) : a ≠ b := by
  intro e; subst e; rw [h] at h'; exact d (Option.some.inj h')
theorem ne_of_none {H : Hp} {a b : Addr} {o : HO} (h : H a = some o) (h' : H b = none) : a ≠ b := by
  intro e; subst e; rw [h] at h'; cases h'

section
variable (P : Program) (w : World)
def ObjOk (H : Hp) (h : Heap) (a : Addr) : HO → Prop
  | .lst xs => xs.length ≤ sizeLine ∧ ∃ (its : List Value) (n : Nat), Vals xs its ∧ h.get? a = some { cls := .type "list", data := .seq its.toArray n }
  | .tup xs => xs.length ≤ sizeLine ∧ ∃ its : List Value, Vals xs its ∧ IsTup h a its.toArray
  | .dK kvs => kvs.length ≤ sizeLine ∧ (a == sysModules) = false ∧ ∃ vs, KV kvs vs ∧ h.DictOf (mixKind P w) a vs
  | .dT kvs => kvs.length ≤ sizeLine ∧ (a == sysModules) = false ∧ ∃ xs : List (List Key × Addr × Value),
      Paired (fun (p : List Key × V) (q : List Key × Addr × Value) => p.1 = q.1 ∧ H q.2.1 = some (.tup (p.1.map kV)) ∧ RelV p.2 q.2.2) kvs xs ∧
      ∃ o es ep, h.get? a = some o ∧ o.ExactDict ∧ o.data = .dict es ep ∧ es.toList = xs.map (entryOfKey (tupleKind (mixKind P w))) ∧ (xs.map (·.1)).Nodup
  | .set S n => h.SetOf (intKind P w) a S n
  | .ins C dx fs => H dx = some (.own a) ∧ fs.length ≤ 1000 ∧ dx ≠ a ∧ h.get? a = some (PySem.W.instObj C dx) ∧
      ∃ mA, h.Ns1 dx mA ∧ (∀ f, RelO (fs.lookup f) (mA f)) ∧ PySem.Within mA (fs.map (·.1))
  | .own _ => ∃ o, h.get? a = some o
  | .xd fs => ∃ mA, h.Ns1 a mA ∧ ∀ f, RelO (fs.lookup f) (mA f)
  | .rng lo hi => ∃ t u v, h.get? a = some { cls := .type "range", data := .fields #[.int lo t, .int hi u, .int 1 v] }
  | .frz o u => h.get? a = some o ∧ ObjOk H h a u
  | .tbl ps => h.get? a = some { cls := .none, data := .fields ps }
  | .met f x => h.get? a = some (PySem.W.methodObj (.ref f) (.ref x))
  | .ext φ => φ h ∧ (∃ o, h.get? a = some o) ∧ ∀ h1 h2 : Heap, φ h1 → (∀ o, h1.get? a = some o → h2.get? a = some o) → φ h2
/-- the abstract heap is held -/
def HOk (H : Hp) (h : Heap) : Prop := ∀ a o, H a = some o → ObjOk P w H h a o
end

section
variable {P : Program} {w : World} {H H' : Hp} {h h' : Heap} {a : Addr} {o : HO}
theorem ObjOk.lt (x : ObjOk P w H h a o) : a < h.objs.size := by
  cases o with
  | lst xs => obtain ⟨_, _, _, _, e⟩ := x; exact Heap.lt_size e
  | tup xs => obtain ⟨_, _, _, p⟩ := x; exact p.lt
  | dK kvs => obtain ⟨_, _, _, _, o, _, _, e, _⟩ := x; exact Heap.lt_size e
  | dT kvs => obtain ⟨_, _, _, _, o, _, _, e, _⟩ := x; exact Heap.lt_size e
  | set S n => obtain ⟨o, _, _, _, e, _⟩ := x; exact Heap.lt_size e
  | ins C dx fs => obtain ⟨_, _, _, e, _⟩ := x; exact Heap.lt_size e
  | own y => obtain ⟨_, e⟩ := x; exact Heap.lt_size e
  | xd fs => obtain ⟨_, ⟨_, _, _, e, _⟩, _⟩ := x; exact Heap.lt_size e
  | rng lo hi => obtain ⟨_, _, _, e⟩ := x; exact Heap.lt_size e
  | frz ob u => obtain ⟨e, _⟩ := x; exact Heap.lt_size e
  | tbl ps => exact Heap.lt_size (show h.get? a = some _ from x)
  | met f y => exact Heap.lt_size (show h.get? a = some _ from x)
  | ext φ => obtain ⟨_, ⟨_, e⟩, _⟩ := x; exact Heap.lt_size e
theorem Paired.mapP {α β : Type} {F G : α → β → Prop} : ∀ {l₁ : List α} {l₂ : List β}, Paired F l₁ l₂ → (∀ a b, F a b → G a b) → Paired G l₁ l₂
  | _, _, .nil, _ => .nil
  | _, _, .cons r t, f => .cons (f _ _ r) (Paired.mapP t f)
theorem Paired.imp' {α β : Type} {F G : α → β → Prop} (f : ∀ a b, F a b → G a b) {l₁ : List α} {l₂ : List β} (r : Paired F l₁ l₂) : Paired G l₁ l₂ := Paired.mapP r f
/-- what an object's description leans on: its own object, its own dict, the tuples -/
theorem ObjOk.stay (x : ObjOk P w H h a o) (k : ∀ b u, (b = a ∨ H b = some (.own a)) → h.get? b = some u → h'.get? b = some u)
    (ho : ∀ b, H b = some (.own a) → H' b = some (.own a)) (ht : ∀ b xs, H b = some (.tup xs) → H' b = some (.tup xs)) : ObjOk P w H' h' a o := by
  induction o with
  | lst xs => obtain ⟨z, its, n, r, e⟩ := x; exact ⟨z, its, n, r, k _ _ (.inl rfl) e⟩
  | tup xs => obtain ⟨z, its, r, ob, e, c⟩ := x; exact ⟨z, its, r, ob, k _ _ (.inl rfl) e, c⟩
  | dK kvs => obtain ⟨z, y, vs, r, ob, es, ep, e, c⟩ := x; exact ⟨z, y, vs, r, ob, es, ep, k _ _ (.inl rfl) e, c⟩
  | dT kvs =>
    obtain ⟨z, y, xs, r, ob, es, ep, e, c⟩ := x
    exact ⟨z, y, xs, Paired.mapP r fun p q z => ⟨z.1, ht _ _ z.2.1, z.2.2⟩, ob, es, ep, k _ _ (.inl rfl) e, c⟩
  | set S n => obtain ⟨ob, es, ep, t, e, c⟩ := x; exact ⟨ob, es, ep, t, k _ _ (.inl rfl) e, c⟩
  | ins C dx fs =>
    obtain ⟨d, z, ne, e, mA, ⟨od, es, ep, e2, c⟩, r⟩ := x
    exact ⟨ho _ d, z, ne, k _ _ (.inl rfl) e, mA, ⟨od, es, ep, k _ _ (.inr d) e2, c⟩, r⟩
  | own y => obtain ⟨ob, e⟩ := x; exact ⟨ob, k _ _ (.inl rfl) e⟩
  | xd fs => obtain ⟨mA, ⟨od, es, ep, e, c⟩, r⟩ := x; exact ⟨mA, ⟨od, es, ep, k _ _ (.inl rfl) e, c⟩, r⟩
  | rng lo hi => obtain ⟨t, u, v, e⟩ := x; exact ⟨t, u, v, k _ _ (.inl rfl) e⟩
  | frz ob u ih => obtain ⟨e, q⟩ := x; exact ⟨k _ _ (.inl rfl) e, ih q⟩
  | tbl ps =>
    have e : h.get? a = some { cls := .none, data := .fields ps } := x
    show h'.get? a = some { cls := .none, data := .fields ps }
    exact k a _ (.inl rfl) e
  | met f y =>
    have e : h.get? a = some (PySem.W.methodObj (.ref f) (.ref y)) := x
    show h'.get? a = some (PySem.W.methodObj (.ref f) (.ref y))
    exact k a _ (.inl rfl) e
  | ext φ => obtain ⟨p, ⟨o, e⟩, st⟩ := x; exact ⟨st _ _ p fun o q => k _ _ (.inl rfl) q, ⟨o, k _ _ (.inl rfl) e⟩, st⟩
theorem HOk.lt (x : HOk P w H h) (e : H a = some o) : a < h.objs.size := (x a o e).lt
theorem HOk.fresh (x : HOk P w H h) (e : h.objs.size ≤ a) : H a = none := by
  cases q : H a with
  | none => rfl
  | some u => exact absurd (Nat.lt_of_lt_of_le (x.lt q) e) (Nat.lt_irrefl _)
/-- every object of the heap is kept -/
theorem HOk.kept (x : HOk P w H h) (k : ∀ b u, h.get? b = some u → h'.get? b = some u) : HOk P w H h' := fun a o e =>
  (x a o e).stay (fun b u _ q => k b u q) (fun _ q => q) fun _ _ q => q
/-- a new object is laid and tracked -/
theorem HOk.laid (x : HOk P w H h) (k : ∀ b u, h.get? b = some u → h'.get? b = some u) (hp : h.objs.size ≤ a) (new : ObjOk P w (upd H a o) h' a o) : HOk P w (upd H a o) h' := fun b u e => by
  have hn := x.fresh hp
  by_cases hb : b = a
  · subst hb; rw [upd_same] at e; cases e; exact new
  · rw [upd_ne hb] at e
    exact (x b u e).stay (fun c v _ q => k c v q) (fun c q => by rw [upd_ne (ne_of_none q hn)]; exact q) fun c xs q => by rw [upd_ne (ne_of_none q hn)]; exact q
end

/-- what may be read as u: it is u, or a known u -/
def Rd (H : Hp) (a : Addr) (u : HO) : Prop := H a = some u ∨ ∃ o, H a = some (.frz o u)
theorem Rd.of {H : Hp} {a : Addr} {u : HO} (h : H a = some u) : Rd H a u := .inl h
theorem Rd.ok {P : Program} {w : World} {H : Hp} {h : Heap} {a : Addr} {u : HO} (r : Rd H a u) (x : HOk P w H h) : ObjOk P w H h a u := by
  rcases r with r | ⟨o, r⟩
  · exact x a u r
  · obtain ⟨_, q⟩ := x a _ r
    exact q
/-- what may be written -/
def Mut : Option HO → Prop
  | some (.lst _) => True
  | some (.dK _) => True
  | some (.dT _) => True
  | some (.set _ _) => True
  | some (.ins _ _ _) => True
  | some (.ext _) => True
  | _ => False
section
variable {P : Program} {w : World} {H : Hp} {h h' : Heap} {x e : Addr} {o' : HO}
/-- the object at e is changed: x itself, or the dict of the instance x -/
theorem HOk.write (ok : HOk P w H h) (mu : Mut (H x)) (he : e = x ∨ H e = some (.own x)) (k : ∀ b u, b ≠ e → h.get? b = some u → h'.get? b = some u) (heo : ∃ u, h'.get? e = some u)
    (new : ObjOk P w (upd H x o') h' x o') : HOk P w (upd H x o') h' := fun b u q => by
  have nown : ∀ c y, H c = some (.own y) → c ≠ x := fun c y r z => by subst z; rw [r] at mu; exact mu
  have ntup : ∀ c xs, H c = some (.tup xs) → c ≠ x := fun c xs r z => by subst z; rw [r] at mu; exact mu
  by_cases hb : b = x
  · subst hb; rw [upd_same] at q; cases q; exact new
  · rw [upd_ne hb] at q
    by_cases hbe : b = e
    · have q' : H b = some (.own x) := by
        rcases he with z | z
        · exact absurd (hbe.trans z) hb
        · rw [hbe]; exact z
      rw [q] at q'; cases q'
      obtain ⟨v, hv⟩ := heo
      exact ⟨v, by rw [hbe]; exact hv⟩
    · refine (ok b u q).stay (fun c v hc r => k c v ?_ r) (fun c r => by rw [upd_ne (nown c b r)]; exact r) fun c xs r => by rw [upd_ne (ntup c xs r)]; exact r
      rcases hc with rfl | hc
      · exact hbe
      · rintro rfl
        rcases he with z | z
        · exact nown c b hc z
        · rw [hc] at z; cases z; exact hb rfl
end

/-! ### kept unless tracked; of the frames at fs (the callers') the slots may change (an exception that passes writes there); of the records at ex (iterators) nothing is said -/
structure Un (fs ex : List Addr) (H H' : Hp) (h h' : Heap) : Prop where
  keep : ∀ b o, h.get? b = some o → H b = none → b ∉ fs → b ∉ ex → h'.get? b = some o
  slot : ∀ b o, h.get? b = some o → H b = none → b ∈ fs → b ∉ ex → ∃ sl, h'.get? b = some { o with slots := sl }
  free : ∀ b o, h.get? b = some o → H b = none → b ∉ ex → H' b = none
  there : ∀ b o, h.get? b = some o → b ∉ ex → ∃ o', h'.get? b = some o'
  tups : ∀ b xs, H b = some (.tup xs) → H' b = some (.tup xs)
  frzs : ∀ b o u, H b = some (.frz o u) → H' b = some (.frz o u)
  tbls : ∀ b ps, H b = some (.tbl ps) → ∃ more, H' b = some (.tbl (ps ++ more))
section
variable {fs fs' ex ex' : List Addr} {H H1 H2 : Hp} {h h1 h2 h' : Heap} {a x e : Addr} {o : HO}
theorem Un.any (u : Un fs ex H H1 h h1) {b : Addr} {ob : Obj} (q : h.get? b = some ob) (n : H b = none) (hx : b ∉ ex) : ∃ sl, h1.get? b = some { ob with slots := sl } := by
  by_cases hb : b ∈ fs
  · exact u.slot b ob q n hb hx
  · exact ⟨ob.slots, u.keep b ob q n hb hx⟩
theorem Un.trans (a : Un fs ex H H1 h h1) (b : Un fs ex H1 H2 h1 h2) : Un fs ex H H2 h h2 where
  keep := fun c ob q n hc hx => b.keep c ob (a.keep c ob q n hc hx) (a.free c ob q n hx) hc hx
  slot := fun c ob q n hc hx => by
    obtain ⟨sl, e1⟩ := a.slot c ob q n hc hx
    obtain ⟨sl', e2⟩ := b.slot c _ e1 (a.free c ob q n hx) hc hx
    exact ⟨sl', e2⟩
  free := fun c ob q n hx => by
    obtain ⟨o', e1⟩ := a.there c ob q hx
    exact b.free c o' e1 (a.free c ob q n hx) hx
  there := fun c ob q hx => by
    obtain ⟨o', e1⟩ := a.there c ob q hx
    exact b.there c o' e1 hx
  tups := fun c xs q => b.tups c xs (a.tups c xs q)
  frzs := fun c ob xs q => b.frzs c ob xs (a.frzs c ob xs q)
  tbls := fun c ps q => by
    obtain ⟨m1, e1⟩ := a.tbls c ps q
    obtain ⟨m2, e2⟩ := b.tbls c _ e1
    exact ⟨m1 ++ m2, by rw [e2, Array.append_assoc]⟩
theorem Un.kept (k : ∀ b u, h.get? b = some u → h'.get? b = some u) : Un fs ex H H h h' :=
  ⟨fun b ob q _ _ _ => k b ob q, fun b ob q _ _ _ => ⟨ob.slots, k b ob q⟩, fun _ _ _ n _ => n, fun b ob q _ => ⟨ob, k b ob q⟩, fun _ _ q => q, fun _ _ _ q => q, fun _ ps q => ⟨#[], by rw [q]; simp⟩⟩
theorem Un.refl : Un fs ex H H h h := Un.kept fun _ _ q => q
theorem Un.laid (k : ∀ b u, h.get? b = some u → h'.get? b = some u) (hp : h.objs.size ≤ a) (hn : H a = none) : Un fs ex H (upd H a o) h h' where
  keep := fun b u q _ _ _ => k b u q
  slot := fun b u q _ _ _ => ⟨u.slots, k b u q⟩
  free := fun b u q n _ => by rw [upd_ne (Nat.ne_of_lt (Nat.lt_of_lt_of_le (Heap.lt_size q) hp))]; exact n
  there := fun b u q _ => ⟨u, k b u q⟩
  tups := fun b xs q => by rw [upd_ne (ne_of_none q hn)]; exact q
  frzs := fun b u xs q => by rw [upd_ne (ne_of_none q hn)]; exact q
  tbls := fun b ps q => ⟨#[], by rw [upd_ne (ne_of_none q hn), q]; simp⟩
theorem Un.write (mu : Mut (H x)) (he : e = x ∨ H e = some (.own x)) (k : ∀ b u, b ≠ e → h.get? b = some u → h'.get? b = some u) (heo : ∃ u, h'.get? e = some u) : Un fs ex H (upd H x o) h h' := by
  have hx : ∀ b, H b = none → b ≠ x := fun b n z => by subst z; rw [n] at mu; exact mu
  have hb : ∀ b, H b = none → b ≠ e := fun b n z => by
    subst z
    rcases he with r | r
    · exact hx b n r
    · rw [n] at r; cases r
  have hm : ∀ b u, H b = some u → ¬ Mut (some u) → b ≠ x := fun b u q nm z => by subst z; rw [q] at mu; exact nm mu
  refine ⟨fun b u q n _ _ => k b u (hb b n) q, fun b u q n _ _ => ⟨u.slots, k b u (hb b n) q⟩, fun b u q n _ => by rw [upd_ne (hx b n)]; exact n, fun b u q _ => ?_,
    fun b xs q => by rw [upd_ne (hm b _ q fun z => z)]; exact q, fun b u xs q => by rw [upd_ne (hm b _ q fun z => z)]; exact q, fun b ps q => ⟨#[], by rw [upd_ne (hm b _ q fun z => z), q]; simp⟩⟩
  by_cases hbe : b = e
  · subst hbe; exact heo
  · exact ⟨u, k b u hbe q⟩
theorem Un.mono (u : Un fs ex H H1 h h1) (hs : ∀ b ∈ fs, b ∈ fs') (hx : ∀ b ∈ ex, b ∈ ex') : Un fs' ex' H H1 h h1 :=
  ⟨fun b ob q n hb he => u.keep b ob q n (fun z => hb (hs b z)) fun z => he (hx b z), fun _ _ q n _ he => u.any q n fun z => he (hx _ z), fun b ob q n he => u.free b ob q n fun z => he (hx b z), fun b ob q he => u.there b ob q fun z => he (hx b z), u.tups, u.frzs, u.tbls⟩
end

/-! ### the heap without what is tracked -/
def trk (h : Heap) (H : Hp) : List Addr := (List.range h.objs.size).filter fun a => (H a).isSome
def hidT (h : Heap) (H : Hp) : Heap := PySem.W.hideAll h (trk h H)
theorem hidT_size (h : Heap) (H : Hp) : (hidT h H).objs.size = h.objs.size := PySem.W.hideAll_size _ _
theorem hidT_get {h : Heap} {H : Hp} {b : Addr} {o : Obj} (e : h.get? b = some o) (n : H b = none) : (hidT h H).get? b = some o :=
  PySem.W.hideAll_get _ e fun hm => by
    have q : (H b).isSome = true := (List.mem_filter.mp hm).2
    rw [n] at q; simp at q
theorem of_hidT {h : Heap} {H : Hp} {b : Addr} {o : Obj} (e : (hidT h H).get? b = some o) : h.get? b = some o ∧ H b = none := by
  have e' : h.get? b = some o := PySem.W.of_hideAll (trk h H) e
  refine ⟨e', ?_⟩
  cases q : H b with
  | none => rfl
  | some x =>
    have hm : b ∈ trk h H := List.mem_filter.mpr ⟨List.mem_range.mpr (Heap.lt_size e'), by simp [q]⟩
    have z : (hidT h H).get? b = none := PySem.W.hideAll_none (trk h H) hm
    rw [z] at e; cases e

/-! ### OpenK's ledger, filled with every new object but one -/
def allNews (g h : Heap) (L : Addr) : List (Addr × Obj) := (List.range h.objs.size).filterMap fun a => if a = L ∨ (g.get? a).isSome = true then none else (h.get? a).map fun o => (a, o)
theorem mem_allNews {g h : Heap} {L a : Addr} {o : Obj} (h1 : a ≠ L) (h2 : g.get? a = none) (h3 : h.get? a = some o) : (a, o) ∈ allNews g h L :=
  List.mem_filterMap.mpr ⟨a, List.mem_range.mpr (Heap.lt_size h3), by simp [h1, h2, h3]⟩
theorem of_mem_allNews {g h : Heap} {L : Addr} {p : Addr × Obj} (hp : p ∈ allNews g h L) : p.1 ≠ L ∧ g.get? p.1 = none ∧ h.get? p.1 = some p.2 := by
  obtain ⟨b, _, e⟩ := List.mem_filterMap.mp hp
  split at e
  · cases e
  · rename_i hn
    cases q : h.get? b with
    | none => rw [q] at e; simp at e
    | some u =>
      rw [q] at e
      simp only [Option.map_some, Option.some.injEq] at e
      subst e
      refine ⟨fun z => hn (.inl z), ?_, q⟩
      show g.get? b = none
      cases r : g.get? b with
      | none => rfl
      | some v => exact (hn (.inr (by simp [r]))).elim
def rest (g h : Heap) (L d : Addr) : List (Addr × Obj) := (allNews g h L).filter fun p => decide (p.1 ≠ d)
theorem rest_ne {g h : Heap} {L d : Addr} : ∀ p ∈ rest g h L d, p.1 ≠ d := fun p hp => of_decide_eq_true (List.mem_filter.mp hp).2
theorem mem_rest {g h : Heap} {L d a : Addr} {o : Obj} (h1 : a ≠ L) (h2 : g.get? a = none) (h3 : h.get? a = some o) (h4 : a ≠ d) : (a, o) ∈ rest g h L d :=
  List.mem_filter.mpr ⟨mem_allNews h1 h2 h3, decide_eq_true h4⟩
theorem news_all {g h : Heap} {L : Addr} : News g L h (allNews g h L) := fun p hp => let ⟨a, b, c⟩ := of_mem_allNews hp; ⟨c, a, b⟩
theorem news_at {g h : Heap} {L d : Addr} {o : Obj} (h1 : d ≠ L) (h2 : g.get? d = none) (h3 : h.get? d = some o) : News g L h ((d, o) :: rest g h L d) := fun p hp => by
  rcases List.mem_cons.mp hp with rfl | hp
  · exact ⟨h3, h1, h2⟩
  · exact news_all p (List.mem_filter.mp hp).1
/-- behind a rule that changed d alone: all else but the frame is kept -/
theorem kept_of_news {g h h' : Heap} {L d : Addr} {m : Str → Option Value} (k : ∀ b o, g.get? b = some o → h.get? b = some o) (F : Fr g L h' m) (N : News g L h' (rest g h L d)) :
    ∀ b o, b ≠ L → b ≠ d → h.get? b = some o → h'.get? b = some o := fun b o h1 h2 e => by
  cases q : g.get? b with
  | some u =>
    have := k b u q
    rw [e] at this; cases this
    exact F.keep b _ q
  | none => exact (N (b, o) (mem_rest h1 q e h2)).1
end L2

namespace L2
open PySem PySem.Spec PyProof.Rows

/-- the module's facts, over the base: the heap at the law's entry without what is tracked there -/
structure Mod (K : PySem.W.Frag) (mg : Str → Option Value) (base : Heap) : Prop where
  kin : K.In base
  glob : base.Ns mainGlobals mg
  blt : ∃ mb, base.Ns builtinsNs mb ∧ ∀ x : Str, x ≠ "__name__" → mb x = bootBuiltins x
  nolimit : base.NoLimit

/-- the context: a def's body (or a comprehension's block) running. base: fixed through the whole law; s₀, H₀: the entry; outer: the frames whose slots others may change (a def's callers); stack: all frames that run;
   ex: iterators that were made ahead of the entry and are walked here (a comprehension's); fn: the names whose cells were made at the entry (a def: all; a comprehension's block: its own); calm: not within an except suite; pn: pins that every state bears; xe: what is wanted of an exception that leaves the code -/
structure Cx where
  prog : Program
  w : World
  K : PySem.W.Frag
  mg : Str → Option Value
  base : Heap
  A : Around
  N : List Str
  s₀ : Shared
  H₀ : Hp
  env : Env
  outer : List Env
  stack : List Env
  ex : List Addr
  fn : Str → Bool
  calm : Bool
  pn : List (Addr × Obj)
  xe : Value → Shared → Prop
/-- the callers' frames -/
def frs (l : List Env) : List Addr := l.filterMap (·.frame)
abbrev Cx.fs (X : Cx) : List Addr := frs X.outer

def Vis (sc : Scope) (x : Str) : Prop := sc.names.lookup x = some .local ∨ sc.names.lookup x = some .cell ∨ sc.names.lookup x = some .free
def Loc (sc : Scope) (x : Str) : Prop := sc.names.lookup x = some .local ∨ sc.names.lookup x = some .cell
def Look (env : Env) (h : Heap) (m : Str → Option Value) (x : Str) (u : Value) : Prop :=
  (env.kindOf x = some .local ∧ m x = some u) ∨ ((env.kindOf x = some .cell ∨ env.kindOf x = some .free) ∧ ∃ c, env.cells.lookup x = some c ∧ h.IsCell c (some u))

structure Cx.Ok (X : Cx) : Prop where
  mod : Mod X.K X.mg X.base
  kind : X.env.scope.kind = .function
  glob : X.env.globals = mainGlobals
  blt : X.env.builtins = builtinsNs
  above : X.s₀.heap.objs.size ≤ X.env.locals
  inj : ∀ x y c, X.env.cells.lookup x = some c → X.env.cells.lookup y = some c → x = y
  has : ∀ x, (X.env.kindOf x = some .cell ∨ X.env.kindOf x = some .free) → ∃ c, X.env.cells.lookup x = some c
  cab : ∀ x c, X.fn x = true → X.env.cells.lookup x = some c → X.s₀.heap.objs.size ≤ c
  hd : X.calm = true → X.A.handled = none
  frames : X.A.frames = some X.stack
  stk : X.stack = X.outer ∨ (X.stack = X.env :: X.outer ∧ X.env.frame = some X.env.locals)
  exf : ∀ b ∈ X.ex, b ≠ X.env.locals ∧ ∀ x c, X.env.cells.lookup x = some c → c ≠ b
  bs : ∀ b o, X.base.get? b = some o → X.s₀.heap.get? b = some o ∧ X.H₀ b = none
  bsz : X.base.objs.size ≤ X.s₀.heap.objs.size
  noex : ∀ b o, X.base.get? b = some o → b ∉ X.ex
  exfs : ∀ b ∈ X.ex, b ∉ X.fs
  funs : X.s₀.heap.FunFrames X.base X.outer
  frf : ∀ b ∈ X.fs, X.H₀ b = none

structure Inv (X : Cx) (pins : List (Addr × Obj)) (σ : List (Option V)) (H : Hp) (s : Shared) : Prop where
  ok : X.Ok
  os : s.os = X.s₀.os
  bare : AllBare s.gens
  base : Un X.fs X.ex X.H₀ H X.s₀.heap s.heap
  loc : ∃ m, s.heap.Ns X.env.locals m ∧ ∀ (i : Nat) (x : Str) (v : V), X.N[i]? = some x → σ[i]? = some (some v) → Vis X.env.scope x → ∃ u, RelV v u ∧ Look X.env s.heap m x u
  cell : ∀ x c, X.env.cells.lookup x = some c → ∃ v, s.heap.IsCell c v
  free : H X.env.locals = none
  freeC : ∀ x c, X.env.cells.lookup x = some c → H c = none
  pin : ∀ p ∈ X.pn ++ pins, s.heap.get? p.1 = some p.2 ∧ H p.1 = none ∧ p.1 ≠ X.env.locals ∧ p.1 ∉ X.fs ∧ ∀ v, p.2.data ≠ .cell v
  hok : HOk X.prog X.w H s.heap
  len : σ.length = X.N.length

section
variable {X : Cx} {pins : List (Addr × Obj)} {σ : List (Option V)} {H H' : Hp} {s : Shared} {h' : Heap}

theorem Cx.Ok.nofr (ok : X.Ok) {b : Addr} {o : Obj} (e : X.base.get? b = some o) : b ∉ X.fs := fun hb => by
  have := (ok.funs.mem hb).1
  rw [e] at this; cases this
theorem Inv.bs (I : Inv X pins σ H s) : ∀ b o, X.base.get? b = some o → s.heap.get? b = some o ∧ H b = none := fun b o e =>
  ⟨I.base.keep b o (I.ok.bs b o e).1 (I.ok.bs b o e).2 (I.ok.nofr e) (I.ok.noex b o e), I.base.free b o (I.ok.bs b o e).1 (I.ok.bs b o e).2 (I.ok.noex b o e)⟩
theorem Inv.bk (I : Inv X pins σ H s) : ∀ b o, X.base.get? b = some o → s.heap.get? b = some o := fun b o e => (I.bs b o e).1
theorem Inv.mod (I : Inv X pins σ H s) : Mod X.K X.mg X.base := I.ok.mod
theorem Inv.kIn (I : Inv X pins σ H s) : X.K.In s.heap := I.ok.mod.kin.keeps I.bk
theorem Inv.nolimit (I : Inv X pins σ H s) : s.heap.NoLimit := I.ok.mod.nolimit.keeps I.bk
/-- the frame over the base: for OpenK's rules (K.In X.base is I.mod.kin) -/
theorem Inv.fr (I : Inv X pins σ H s) : ∃ m, Fr X.base X.env.locals s.heap m :=
  let ⟨m, hn, _⟩ := I.loc
  ⟨m, hn, I.bk, Nat.le_trans I.ok.bsz I.ok.above⟩
theorem Inv.lt (I : Inv X pins σ H s) : X.env.locals < s.heap.objs.size := let ⟨_, hn, _⟩ := I.loc; hn.lt
theorem Inv.sz (I : Inv X pins σ H s) : X.s₀.heap.objs.size ≤ s.heap.objs.size := Nat.le_trans I.ok.above (Nat.le_of_lt I.lt)
theorem Inv.nofs (I : Inv X pins σ H s) {a : Addr} (h : s.heap.objs.size ≤ a) : a ∉ X.fs := fun hb => by
  obtain ⟨_, o, ho, _⟩ := I.ok.funs.mem hb
  exact absurd (Nat.lt_of_lt_of_le (Heap.lt_size ho) (Nat.le_trans I.sz h)) (Nat.lt_irrefl _)
theorem Inv.cne (I : Inv X pins σ H s) : ∀ x c, X.env.cells.lookup x = some c → c ≠ X.env.locals := fun x c e z => by
  obtain ⟨v, o, ho, hd⟩ := I.cell x c e
  obtain ⟨m, ⟨o', es, ep, ho', hd', _⟩, _⟩ := I.loc
  rw [z, ho'] at ho; cases ho; rw [hd'] at hd; cases hd
theorem Inv.funs (I : Inv X pins σ H s) : s.heap.FunFrames X.base X.outer := by
  have all : ∀ (l : List Env), (∀ b ∈ frs l, b ∈ X.fs) → X.s₀.heap.FunFrames X.base l → s.heap.FunFrames X.base l := by
    intro l
    induction l with
    | nil => intro _ _; trivial
    | cons env r ih =>
      intro hs hl
      obtain ⟨hk, ⟨L, o, hf, hn, ho, hd⟩, hr⟩ := hl
      have hL : L ∈ X.fs := hs L (by unfold frs; rw [List.filterMap_cons, hf]; exact List.mem_cons_self)
      obtain ⟨sl, e⟩ := I.base.slot L o ho (I.ok.frf L hL) hL fun z => I.ok.exfs L z hL
      exact ⟨hk, ⟨L, _, hf, hn, e, hd⟩, ih (fun b hb => hs b (by unfold frs; rw [List.filterMap_cons, hf]; exact List.mem_cons_of_mem _ hb)) hr⟩
  exact all X.outer (fun _ hb => hb) I.ok.funs

/-- the frames that run, for a call -/
theorem Inv.stack (I : Inv X pins σ H s) : s.heap.FunFrames X.base X.stack := by
  rcases I.ok.stk with e | ⟨e, hf⟩
  · rw [e]; exact I.funs
  · rw [e]
    obtain ⟨m, hn, _⟩ := I.loc
    refine .cons (by rw [I.ok.kind]; decide) hf hn ?_ I.funs
    exact Heap.get?_none_of_le (Nat.le_trans I.ok.bsz I.ok.above)
theorem Inv.stkSub (I : Inv X pins σ H s) : ∀ b ∈ frs X.stack, b ∈ X.env.locals :: X.fs := fun b hb => by
  rcases I.ok.stk with e | ⟨e, hf⟩
  · rw [e] at hb; exact List.mem_cons_of_mem _ hb
  · rw [e] at hb
    unfold frs at hb
    rw [List.filterMap_cons, hf] at hb
    exact hb
theorem Inv.stkFree (I : Inv X pins σ H s) : ∀ b ∈ frs X.stack, H b = none := fun b hb => by
  rcases List.mem_cons.mp (I.stkSub b hb) with e | hb
  · rw [e]; exact I.free
  · obtain ⟨_, o, ho, _⟩ := I.ok.funs.mem hb
    exact I.base.free b o ho (I.ok.frf b hb) fun z => I.ok.exfs b z hb

/-- THE STEP: the untracked objects but the frame and the records at ch are kept (the callers' frames up to slots), the frame's map is kept, the new abstract heap is held -/
theorem Inv.step {g' : Array GenState} {t' : Nat} {d' : Drawn} {ch : List Addr} (I : Inv X pins σ H s)
    (hch : ∀ b ∈ ch, (b ∈ X.ex ∨ X.s₀.heap.objs.size ≤ b) ∧ b ≠ X.env.locals ∧ (∀ x c, X.env.cells.lookup x = some c → c ≠ b) ∧ ∀ p ∈ X.pn ++ pins, p.1 ≠ b)
    (keep : ∀ b o, b ≠ X.env.locals → b ∉ X.fs → b ∉ ch → s.heap.get? b = some o → H b = none → h'.get? b = some o)
    (slot : ∀ b o, b ≠ X.env.locals → b ∈ X.fs → b ∉ ch → s.heap.get? b = some o → H b = none → ∃ sl, h'.get? b = some { o with slots := sl }) (free : ∀ b o, b ∉ ch → s.heap.get? b = some o → H b = none → H' b = none)
    (there : ∀ b o, b ∉ ch → s.heap.get? b = some o → ∃ o', h'.get? b = some o')
    (tups : ∀ b xs, H b = some (.tup xs) → H' b = some (.tup xs)) (frzs : ∀ b o u, H b = some (.frz o u) → H' b = some (.frz o u)) (tbls : ∀ b ps, H b = some (.tbl ps) → ∃ more, H' b = some (.tbl (ps ++ more)))
    (ns : ∀ m, s.heap.Ns X.env.locals m → h'.Ns X.env.locals m) (hok : HOk X.prog X.w H' h') (hg : AllBare g') :
    Inv X pins σ H' { s with heap := h', gens := g', drawn := d', toks := t' } := by
  have neL : ∀ b o, X.s₀.heap.get? b = some o → b ≠ X.env.locals := fun b o e => Nat.ne_of_lt (Nat.lt_of_lt_of_le (Heap.lt_size e) I.ok.above)
  have neC : ∀ b o, X.s₀.heap.get? b = some o → b ∉ X.ex → b ∉ ch := fun b o e hx hb => by
    rcases (hch b hb).1 with z | z
    · exact hx z
    · exact absurd (Nat.lt_of_lt_of_le (Heap.lt_size e) z) (Nat.lt_irrefl _)
  have cellK : ∀ x c, X.env.cells.lookup x = some c → ∀ v, s.heap.IsCell c v → h'.IsCell c v := fun x c e v ⟨o, ho, hd⟩ => by
    have nch : c ∉ ch := fun z => (hch c z).2.2.1 x c e rfl
    by_cases hc : c ∈ X.fs
    · obtain ⟨sl, q⟩ := slot c o (I.cne x c e) hc nch ho (I.freeC x c e)
      exact ⟨_, q, hd⟩
    · exact ⟨o, keep c o (I.cne x c e) hc nch ho (I.freeC x c e), hd⟩
  refine ⟨I.ok, I.os, hg, ⟨fun b o e n hb hx => ?_, fun b o e n hb hx => ?_, fun b o e n hx => ?_, fun b o e hx => ?_, fun b xs e => tups b xs (I.base.tups b xs e), fun b o xs e => frzs b o xs (I.base.frzs b o xs e), fun b ps e => ?_⟩, ?_, fun x c e => ?_, ?_, fun x c e => ?_, fun p hp => ?_, hok, I.len⟩
  · exact keep b o (neL b o e) hb (neC b o e hx) (I.base.keep b o e n hb hx) (I.base.free b o e n hx)
  · obtain ⟨sl, e1⟩ := I.base.slot b o e n hb hx
    obtain ⟨sl', e2⟩ := slot b _ (neL b o e) hb (neC b o e hx) e1 (I.base.free b o e n hx)
    exact ⟨sl', e2⟩
  · obtain ⟨o', e1⟩ := I.base.there b o e hx
    exact free b o' (neC b o e hx) e1 (I.base.free b o e n hx)
  · obtain ⟨o', e1⟩ := I.base.there b o e hx
    exact there b o' (neC b o e hx) e1
  · obtain ⟨m1, e1⟩ := I.base.tbls b ps e
    obtain ⟨m2, e2⟩ := tbls b _ e1
    exact ⟨m1 ++ m2, by rw [e2, Array.append_assoc]⟩
  · obtain ⟨m, hn, hl⟩ := I.loc
    refine ⟨m, ns m hn, fun i x v e1 e2 e3 => ?_⟩
    obtain ⟨u, r, l⟩ := hl i x v e1 e2 e3
    refine ⟨u, r, ?_⟩
    rcases l with l | ⟨k, c, e, z⟩
    · exact .inl l
    · exact .inr ⟨k, c, e, cellK x c e _ z⟩
  · obtain ⟨v, z⟩ := I.cell x c e
    exact ⟨v, cellK x c e v z⟩
  · obtain ⟨m, ⟨o, _, _, ho, _⟩, _⟩ := I.loc
    exact free _ o (fun z => (hch _ z).2.1 rfl) ho I.free
  · obtain ⟨v, o, ho, hd⟩ := I.cell x c e
    exact free c o (fun z => (hch c z).2.2.1 x c e rfl) ho (I.freeC x c e)
  · obtain ⟨e, n, ne, nf, d⟩ := I.pin p hp
    have nch : p.1 ∉ ch := fun z => (hch p.1 z).2.2.2 p hp rfl
    exact ⟨keep p.1 p.2 ne nf nch e n, free p.1 p.2 nch e n, ne, nf, d⟩
/-- .. where the frame's own object is kept too -/
theorem Inv.un {t' : Nat} (I : Inv X pins σ H s) (u : Un X.fs [] H H' s.heap h') (hok : HOk X.prog X.w H' h') : Inv X pins σ H' { s with heap := h', toks := t' } := by
  obtain ⟨m, ⟨o, es, ep, ho, r⟩, _⟩ := id I.loc
  obtain ⟨sl, hL⟩ := u.any ho I.free (by simp)
  exact I.step (g' := s.gens) (d' := s.drawn) (ch := []) (fun _ z => nomatch z) (fun b o _ hb _ e n => u.keep b o e n hb (by simp)) (fun b o _ hb _ e n => u.slot b o e n hb (by simp)) (fun b o _ e n => u.free b o e n (by simp)) (fun b o _ e => u.there b o e (by simp)) u.tups u.frzs u.tbls (fun m' hm => by
    obtain ⟨o', es', ep', ho', r'⟩ := hm
    rw [ho] at ho'; cases ho'
    exact ⟨_, es', ep', hL, r'⟩) hok I.bare
/-- behind a call (or a comprehension's block): the slots of this frame may have changed too, the records at ch may have turned -/
theorem Inv.call {g' : Array GenState} {t' : Nat} {d' : Drawn} {ch : List Addr} (I : Inv X pins σ H s) (u : Un (frs X.stack) ch H H' s.heap h') (hok : HOk X.prog X.w H' h') (hg : AllBare g')
    (hch : ∀ b ∈ ch, (b ∈ X.ex ∨ X.s₀.heap.objs.size ≤ b) ∧ b ≠ X.env.locals ∧ (∀ x c, X.env.cells.lookup x = some c → c ≠ b) ∧ ∀ p ∈ X.pn ++ pins, p.1 ≠ b) :
    Inv X pins σ H' { s with heap := h', gens := g', drawn := d', toks := t' } := by
  obtain ⟨m, ⟨o, es, ep, ho, r⟩, _⟩ := id I.loc
  obtain ⟨sl, hL⟩ := u.any ho I.free fun z => (hch _ z).2.1 rfl
  exact I.step (ch := ch) hch (fun b o hL hb hc e n => u.keep b o e n (fun z => (List.mem_cons.mp (I.stkSub b z)).elim hL hb) hc) (fun b o _ _ hc e n => u.any e n hc) (fun b o hc e n => u.free b o e n hc) (fun b o hc e => u.there b o e hc) u.tups u.frzs u.tbls (fun m' hm => by
    obtain ⟨o', es', ep', ho', r'⟩ := hm
    rw [ho] at ho'; cases ho'
    exact ⟨_, es', ep', hL, r'⟩) hok hg
/-- an untracked record of ours (an iterator) has turned -/
theorem Inv.turned {t' : Nat} {it : Addr} (I : Inv X pins σ H s) (k : ∀ b o, b ≠ it → s.heap.get? b = some o → h'.get? b = some o) (hn : H it = none) (hL : it ≠ X.env.locals)
    (h1 : it ∈ X.ex ∨ X.s₀.heap.objs.size ≤ it) (h2 : ∀ x c, X.env.cells.lookup x = some c → c ≠ it) (h3 : ∀ p ∈ X.pn ++ pins, p.1 ≠ it) : Inv X pins σ H { s with heap := h', toks := t' } := by
  have nit : ∀ b u, H b = some u → b ≠ it := fun b u e z => by rw [z, hn] at e; cases e
  refine I.step (g' := s.gens) (d' := s.drawn) (ch := [it]) (fun b hb => ?_) (fun b o _ _ hc e _ => k b o (fun z => hc (by simp [z])) e) (fun b o _ _ hc e _ => ⟨o.slots, k b o (fun z => hc (by simp [z])) e⟩) (fun _ _ _ _ n => n)
    (fun b o hc e => ⟨o, k b o (fun z => hc (by simp [z])) e⟩) (fun _ _ e => e) (fun _ _ _ e => e) (fun b ps e => ⟨#[], by rw [e]; simp⟩) (fun m hm => ?_) (fun b u e => ?_) I.bare
  · have e : b = it := by simpa using hb
    subst e
    exact ⟨h1, hL, h2, h3⟩
  · obtain ⟨o, es, ep, ho, r⟩ := hm
    exact ⟨o, es, ep, k _ o (Ne.symm hL) ho, r⟩
  · refine (I.hok b u e).stay (fun c v hc q => k c v ?_ q) (fun _ q => q) fun _ _ q => q
    rcases hc with z | z
    · rw [z]; exact nit b u e
    · exact nit c _ z
theorem Inv.tok (I : Inv X pins σ H s) (t : Nat) : Inv X pins σ H { s with toks := t } := I.un (h' := s.heap) (t' := t) Un.refl I.hok
/-- all objects kept -/
theorem Inv.kept {t' : Nat} (I : Inv X pins σ H s) (k : ∀ b u, s.heap.get? b = some u → h'.get? b = some u) : Inv X pins σ H { s with heap := h', toks := t' } := I.un (Un.kept k) (I.hok.kept k)
/-- a new object laid and tracked -/
theorem Inv.laid {a : Addr} {o : HO} {t' : Nat} (I : Inv X pins σ H s) (k : ∀ b u, s.heap.get? b = some u → h'.get? b = some u) (hp : s.heap.objs.size ≤ a) (new : ObjOk X.prog X.w (upd H a o) h' a o) :
    Inv X pins σ (upd H a o) { s with heap := h', toks := t' } := I.un (Un.laid k hp (I.hok.fresh hp)) (I.hok.laid k hp new)
/-- an object written -/
theorem Inv.write {x e : Addr} {o : HO} {t' : Nat} (I : Inv X pins σ H s) (mu : Mut (H x)) (he : e = x ∨ H e = some (.own x)) (k : ∀ b u, b ≠ e → s.heap.get? b = some u → h'.get? b = some u) (heo : ∃ u, h'.get? e = some u)
    (new : ObjOk X.prog X.w (upd H x o) h' x o) : Inv X pins σ (upd H x o) { s with heap := h', toks := t' } := I.un (Un.write mu he k heo) (I.hok.write mu he k heo new)
/-- forgetting slots, pins -/
theorem Inv.weak {σ' : List (Option V)} (I : Inv X pins σ H s) (hl : σ'.length = σ.length) (w : ∀ (i : Nat) v, σ'[i]? = some (some v) → σ[i]? = some (some v)) : Inv X pins σ' H s :=
  ⟨I.ok, I.os, I.bare, I.base, let ⟨m, hn, hl'⟩ := I.loc; ⟨m, hn, fun i x v e1 e2 e3 => hl' i x v e1 (w i v e2) e3⟩, I.cell, I.free, I.freeC, I.pin, I.hok, hl.trans I.len⟩
theorem Inv.pins_of {pins' : List (Addr × Obj)} (I : Inv X pins σ H s) (h : ∀ p ∈ pins', s.heap.get? p.1 = some p.2 ∧ H p.1 = none ∧ p.1 ≠ X.env.locals ∧ p.1 ∉ X.fs ∧ ∀ v, p.2.data ≠ .cell v) : Inv X pins' σ H s :=
  ⟨I.ok, I.os, I.bare, I.base, I.loc, I.cell, I.free, I.freeC, fun p hp => (List.mem_append.mp hp).elim (fun z => I.pin p (List.mem_append_left _ z)) (h p), I.hok, I.len⟩

theorem nodup_ix {N : List Str} (hN : N.Nodup) {i j : Nat} {x : Str} (a : N[i]? = some x) (b : N[j]? = some x) : i = j := by
  obtain ⟨h1, e1⟩ := List.getElem?_eq_some_iff.mp a
  obtain ⟨h2, e2⟩ := List.getElem?_eq_some_iff.mp b
  exact (List.getElem_inj hN).mp (e1.trans e2.symm)

/-- a name is stored; what changed -/
theorem store_ok2 {M : Model} {A : Around} {E : Value → Shared → Prop} {i : Nat} {x : Str} {v : V} {u : Value} {Q : Unit → Shared → Prop} (I : Inv X pins σ H s) (hN : X.N.Nodup) (hi : X.N[i]? = some x) (hx : Loc X.env.scope x) (r : RelV v u)
    (h : ∀ s', Inv X pins (σ.set i (some v)) H s' → (∃ a, Heap.SameBut a s.heap s'.heap ∧ (a = X.env.locals ∨ X.env.cells.lookup x = some a)) → Q () s') (hf : X.fn x = true ∨ X.env.scope.names.lookup x = some .local := by first | exact .inl rfl | exact .inr rfl | assumption) : wpAny M A (storeName X.env x u) Q E s := by
  obtain ⟨m, hn, hl⟩ := id I.loc
  have hcls : (X.env.scope.kind == .class || (X.env.scope.kind == .module && X.env.locals != X.env.globals)) = false := by rw [I.ok.kind]; rfl
  have hiσ : i < σ.length := by rw [I.len]; exact (List.getElem?_eq_some_iff.mp hi).1
  have cne := I.cne
  have tracked : ∀ {a : Addr} {h' : Heap}, (∃ o, s.heap.get? a = some o ∧ H a = none) → Heap.SameBut a s.heap h' → HOk X.prog X.w H h' := fun {a h'} ha hs b ob e => by
    obtain ⟨_, _, hfree⟩ := ha
    refine (I.hok b ob e).stay (fun c w' hc q => (hs.2 c ?_).trans q) (fun _ q => q) fun _ _ q => q
    rintro rfl
    rcases hc with rfl | hc
    · rw [hfree] at e; cases e
    · rw [hfree] at hc; cases hc
  rcases hx with hk | hk
  · refine wpAny_storeName_local hk hn (fun h' hn' hs => ?_) hcls
    obtain ⟨oL, _, _, hoL, _⟩ := id hn
    refine h _ ⟨I.ok, I.os, I.bare, ⟨fun b o e n hb hx => ?_, fun b o e n hb hx => ?_, I.base.free, fun b o e hx => ?_, I.base.tups, I.base.frzs, I.base.tbls⟩, ⟨_, hn', fun j y v' e1 e2 e3 => ?_⟩, fun y c e => ?_, I.free, I.freeC, fun p hp => ?_, tracked ⟨oL, hoL, I.free⟩ hs, by simpa using I.len⟩ ⟨_, hs, .inl rfl⟩
    · exact (hs.2 b (Nat.ne_of_lt (Nat.lt_of_lt_of_le (Heap.lt_size e) I.ok.above))).trans (I.base.keep b o e n hb hx)
    · obtain ⟨sl, e1⟩ := I.base.slot b o e n hb hx
      exact ⟨sl, (hs.2 b (Nat.ne_of_lt (Nat.lt_of_lt_of_le (Heap.lt_size e) I.ok.above))).trans e1⟩
    · obtain ⟨o', e1⟩ := I.base.there b o e hx
      exact ⟨o', (hs.2 b (Nat.ne_of_lt (Nat.lt_of_lt_of_le (Heap.lt_size e) I.ok.above))).trans e1⟩
    · by_cases hj : j = i
      · subst hj
        rw [hi] at e1; cases e1
        rw [List.getElem?_set_self hiσ] at e2
        cases e2
        exact ⟨u, r, .inl ⟨hk, by simp⟩⟩
      · rw [List.getElem?_set_ne (Ne.symm hj)] at e2
        obtain ⟨u', r', q⟩ := hl j y v' e1 e2 e3
        refine ⟨u', r', ?_⟩
        rcases q with ⟨k, e⟩ | ⟨k, c, e, z⟩
        · refine .inl ⟨k, ?_⟩
          have : y ≠ x := fun e => hj (nodup_ix hN e1 (e ▸ hi))
          simp [this, e]
        · exact .inr ⟨k, c, e, z.sameBut hs (cne y c e)⟩
    · obtain ⟨w', z⟩ := I.cell y c e
      exact ⟨w', z.sameBut hs (cne y c e)⟩
    · obtain ⟨e, n, ne, nf, d⟩ := I.pin p hp
      exact ⟨(hs.2 p.1 ne).trans e, n, ne, nf, d⟩
  · have hfn : X.fn x = true := by
      rcases hf with z | z
      · exact z
      · rw [z] at hk; cases hk
    obtain ⟨c, hc⟩ := I.ok.has x (.inl hk)
    obtain ⟨w', z⟩ := I.cell x c hc
    refine wpAny_storeName_cell I.ok.kind hk hc z (fun h' hc' hs => ?_)
    obtain ⟨oc, hoc, hocd⟩ := id z
    refine h { s with heap := h' } ⟨I.ok, I.os, I.bare, ⟨fun b o e n hb hx => ?_, fun b o e n hb hx => ?_, I.base.free, fun b o e hx => ?_, I.base.tups, I.base.frzs, I.base.tbls⟩, ⟨m, hn.sameBut hs (Ne.symm (cne x c hc)), fun j y v' e1 e2 e3 => ?_⟩, fun y c' e => ?_, I.free, I.freeC, fun p hp => ?_, tracked ⟨oc, hoc, I.freeC x c hc⟩ hs, by simpa using I.len⟩ ⟨c, hs, .inr hc⟩
    · exact (hs.2 b (Nat.ne_of_lt (Nat.lt_of_lt_of_le (Heap.lt_size e) (I.ok.cab x c hfn hc)))).trans (I.base.keep b o e n hb hx)
    · obtain ⟨sl, e1⟩ := I.base.slot b o e n hb hx
      exact ⟨sl, (hs.2 b (Nat.ne_of_lt (Nat.lt_of_lt_of_le (Heap.lt_size e) (I.ok.cab x c hfn hc)))).trans e1⟩
    · obtain ⟨o', e1⟩ := I.base.there b o e hx
      exact ⟨o', (hs.2 b (Nat.ne_of_lt (Nat.lt_of_lt_of_le (Heap.lt_size e) (I.ok.cab x c hfn hc)))).trans e1⟩
    · by_cases hj : j = i
      · subst hj
        rw [hi] at e1; cases e1
        rw [List.getElem?_set_self hiσ] at e2
        cases e2
        exact ⟨u, r, .inr ⟨.inl hk, c, hc, hc'⟩⟩
      · rw [List.getElem?_set_ne (Ne.symm hj)] at e2
        obtain ⟨u', r', q⟩ := hl j y v' e1 e2 e3
        refine ⟨u', r', ?_⟩
        rcases q with q | ⟨k, c', e, z'⟩
        · exact .inl q
        · refine .inr ⟨k, c', e, z'.sameBut hs ?_⟩
          rintro rfl
          exact hj (nodup_ix hN e1 (I.ok.inj _ _ _ e hc ▸ hi))
    · by_cases hcc : c' = c
      · subst hcc; exact ⟨_, hc'⟩
      · obtain ⟨w2, z2⟩ := I.cell y c' e
        exact ⟨w2, z2.sameBut hs hcc⟩
    · obtain ⟨e, n, ne, nf, d⟩ := I.pin p hp
      refine ⟨(hs.2 p.1 ?_).trans e, n, ne, nf, d⟩
      intro q
      rw [q, hoc] at e
      have q' : oc = p.2 := Option.some.inj e
      exact d w' (by rw [← q']; exact hocd)
theorem store_ok {M : Model} {A : Around} {E : Value → Shared → Prop} {i : Nat} {x : Str} {v : V} {u : Value} {Q : Unit → Shared → Prop} (I : Inv X pins σ H s) (hN : X.N.Nodup) (hi : X.N[i]? = some x) (hx : Loc X.env.scope x) (r : RelV v u)
    (h : ∀ s', Inv X pins (σ.set i (some v)) H s' → Q () s') (hf : X.fn x = true ∨ X.env.scope.names.lookup x = some .local := by first | exact .inl rfl | exact .inr rfl | assumption) : wpAny M A (storeName X.env x u) Q E s :=
  store_ok2 I hN hi hx r (fun s' I' _ => h s' I') hf
/-- behind a call or a block, the state as it is -/
theorem Inv.call' {s' : Shared} {ch : List Addr} (I : Inv X pins σ H s) (ho : s'.os = s.os) (u : Un (frs X.stack) ch H H' s.heap s'.heap) (hok : HOk X.prog X.w H' s'.heap) (hg : AllBare s'.gens)
    (hch : ∀ b ∈ ch, (b ∈ X.ex ∨ X.s₀.heap.objs.size ≤ b) ∧ b ≠ X.env.locals ∧ (∀ x c, X.env.cells.lookup x = some c → c ≠ b) ∧ ∀ p ∈ X.pn ++ pins, p.1 ≠ b) : Inv X pins σ H' s' := by
  obtain ⟨h', g', d', t', o'⟩ := s'
  have e : o' = s.os := ho
  subst e
  exact I.call (g' := g') (t' := t') (d' := d') u hok hg hch
end

/-! ### the judgements -/
/-- an exception: its class, its own dict's address (where it has one), the abstract heap behind it -/
abbrev XK := Value → Option Addr → Hp → Prop
abbrev St := List (Option V)
abbrev VK := V → Hp → Prop
/-- an expression's reading; a test's; an argument list's -/
abbrev TE := St → Hp → VK → Prop
abbrev TT := St → Hp → (Bool → Hp → Prop) → Prop
abbrev TA := St → Hp → (List V → Hp → Prop) → Prop
/-- what is wanted behind a statement -/
structure Ends where
  nx : St → Hp → Prop
  rt : VK
  bk : St → Hp → Prop := fun _ _ => False
  ct : St → Hp → Prop := fun _ _ => False
abbrev TS := Ends → St → Hp → Prop

def EP (X : Cx) (pins : List (Addr × Obj)) (σ : St) (Q : VK) (u : Value) (s' : Shared) : Prop := ∃ v H', Inv X pins σ H' s' ∧ RelV v u ∧ Q v H'
def TP (X : Cx) (pins : List (Addr × Obj)) (σ : St) (Q : Bool → Hp → Prop) (b : Bool) (s' : Shared) : Prop := ∃ H', Inv X pins σ H' s' ∧ Q b H'
def AP (X : Cx) (pins : List (Addr × Obj)) (σ : St) (Q : List V → Hp → Prop) (us : List Value) (s' : Shared) : Prop := ∃ vs H', Inv X pins σ H' s' ∧ Vals vs us ∧ Q vs H'
def SP (X : Cx) (pins : List (Addr × Obj)) (D : Ends) (f : Flow) (s' : Shared) : Prop :=
  match f with
  | .next => ∃ σ' H', Inv X pins σ' H' s' ∧ D.nx σ' H'
  | .brk => ∃ σ' H', Inv X pins σ' H' s' ∧ D.bk σ' H'
  | .cont => ∃ σ' H', Inv X pins σ' H' s' ∧ D.ct σ' H'
  | .ret u => ∃ v σ' H', Inv X pins σ' H' s' ∧ RelV v u ∧ D.rt v H'

def PE (X : Cx) (e : Expr) (t : TE) : Prop :=
  ∀ (pins : List (Addr × Obj)) (s : Shared) (σ : St) (H : Hp) (Q : VK), Inv X pins σ H s → t σ H Q → wpAny (model X.prog X.w) X.A (eval e X.env) (EP X pins σ Q) X.xe s
def PT (X : Cx) (e : Expr) (t : TT) : Prop :=
  ∀ (pins : List (Addr × Obj)) (s : Shared) (σ : St) (H : Hp) (Q : Bool → Hp → Prop), Inv X pins σ H s → t σ H Q → wpAny (model X.prog X.w) X.A (isTrue e X.env (eval e X.env)) (TP X pins σ Q) X.xe s
/-- a test whatever its 'whole' is (and, or) -/
def PW (X : Cx) (e : Expr) (t : TT) : Prop :=
  ∀ (whole : Sem Value) (pins : List (Addr × Obj)) (s : Shared) (σ : St) (H : Hp) (Q : Bool → Hp → Prop), Inv X pins σ H s → t σ H Q → wpAny (model X.prog X.w) X.A (isTrue e X.env whole) (TP X pins σ Q) X.xe s
theorem PW.pt {X : Cx} {e : Expr} {t : TT} (h : PW X e t) : PT X e t := h _
/-- an argument list (no star), from the left -/
def PA (X : Cx) (es : List Expr) (t : TA) : Prop :=
  ∀ (pos : Pos) (pins : List (Addr × Obj)) (s : Shared) (σ : St) (H : Hp) (Q : List V → Hp → Prop), Inv X pins σ H s → t σ H Q → wpAny (model X.prog X.w) X.A (spliced (backTo pos (starEach es X.env))) (AP X pins σ Q) X.xe s
def PS (X : Cx) (st : Stmt) (t : TS) : Prop :=
  ∀ (pins : List (Addr × Obj)) (s : Shared) (σ : St) (H : Hp) (D : Ends), Inv X pins σ H s → t D σ H → wpAny (model X.prog X.w) X.A (exec st X.env) (SP X pins D) X.xe s
def PSs (X : Cx) (st : List Stmt) (t : TS) : Prop :=
  ∀ (pins : List (Addr × Obj)) (s : Shared) (σ : St) (H : Hp) (D : Ends), Inv X pins σ H s → t D σ H → wpAny (model X.prog X.w) X.A (execs st X.env) (SP X pins D) X.xe s
/-- weaken the end -/
theorem thn {α : Type} {t : Sem α} {Q Q' : α → Shared → Prop} {M : Model} {A : Around} {E : Value → Shared → Prop} {s : Shared} (h : wpAny M A t Q E s) (hQ : ∀ a s, Q a s → Q' a s) : wpAny M A t Q' E s := wpAny_mono h hQ fun _ _ x => x
end L2

namespace L2
open PySem PySem.Spec PyProof.Rows
section
variable {X : Cx}

/-- two expressions in a row -/
theorem bin {a b : Expr} {ta tb : TE} (ha : PE X a ta) (hb : PE X b tb) {pins : List (Addr × Obj)} {s : Shared} {σ : St} {H : Hp} {R : V → V → Hp → Prop} (I : Inv X pins σ H s) (h : ta σ H fun x H1 => tb σ H1 fun y H2 => R x y H2)
    {α : Type} {Q : α → Shared → Prop} {f : Value → Value → Sem α}
    (hf : ∀ v u s2 x y H2, Inv X pins σ H2 s2 → RelV x v → RelV y u → R x y H2 → wpAny (model X.prog X.w) X.A (f v u) Q X.xe s2) :
    wpAny (model X.prog X.w) X.A (eval a X.env) (fun v s₁ => wpAny (model X.prog X.w) X.A (eval b X.env) (fun u s₂ => wpAny (model X.prog X.w) X.A (f v u) Q X.xe s₂) X.xe s₁) X.xe s := by
  refine thn (ha pins s σ H _ I h) fun v s1 ⟨x, H1, I1, r1, q1⟩ => ?_
  refine thn (hb pins s1 σ H1 _ I1 q1) fun u s2 ⟨y, H2, I2, r2, q2⟩ => ?_
  exact hf v u s2 x y H2 I2 r1 r2 q2

/-! ### names and constants -/
def tVar (i : Nat) : TE := fun σ H Q => ∃ v, σ[i]? = some (some v) ∧ Q v H
def tC (v : V) : TE := fun _ H Q => Q v H
theorem pe_var {i : Nat} {x : Str} {pos : Pos} (hN : X.N[i]? = some x) (hv : Vis X.env.scope x) (hd : (x == ("__debug__" : Str)) = false := by decide) (hcd : (x == ("__classdict__" : Str)) = false := by decide) : PE X (.Name x pos) (tVar i) := by
  intro pins s σ H Q I h
  obtain ⟨v, e, h⟩ := h
  obtain ⟨m, hn, hl⟩ := I.loc
  obtain ⟨u, r, l⟩ := hl i x v hN e hv
  have fin : EP X pins σ Q u s := ⟨v, H, I, r, h⟩
  rcases l with ⟨hk, hm⟩ | ⟨hk, c, hc, hcell⟩
  · exact wpAny_Name (wpAny_loadName_local I.ok.kind hk hn hm fin) hd
  · rcases hk with hk | hk
    · exact wpAny_Name (wpAny_loadName_cell I.ok.kind hk hc hcell fin) hd
    · exact wpAny_Name (wpAny_loadName_free I.ok.kind hk hc hcell fin hcd) hd
theorem pe_int {i j pos} : PE X (.Constant (.int i) j pos) (tC (.int i)) := fun _ _ _ H _ I h => wpAny_Constant_int ⟨.int i, H, I.tok _, ⟨_, rfl⟩, h⟩
theorem pe_bl {b j pos} : PE X (.Constant (.bool b) j pos) (tC (.bl b)) := fun _ _ _ H _ I h => Constant_bool ⟨.bl b, H, I, rfl, h⟩
theorem pe_non {j pos} : PE X (.Constant .none j pos) (tC .non) := fun _ _ _ H _ I h => Constant_none ⟨.non, H, I, rfl, h⟩
theorem pe_str {x j pos} : PE X (.Constant (.str x) j pos) (tC (.str x)) := fun _ _ _ H _ I h => Calls.Constant_str ⟨.str x, H, I.tok _, ⟨_, rfl⟩, h⟩

/-- a global name of the def -/
def Gl (X : Cx) (x : Str) : Prop := X.env.kindOf x = some .globalImplicit
theorem ld_glob {E : Value → Shared → Prop} {pins : List (Addr × Obj)} {s : Shared} {σ : St} {H : Hp} {x : Str} {u : Value} {pos : Pos} {Q : Value → Shared → Prop} (I : Inv X pins σ H s) (hg : Gl X x) (hm : X.mg x = some u) (h : Q u s)
    (hd : (x == ("__debug__" : Str)) = false := by decide) : wpAny (model X.prog X.w) X.A (eval (.Name x pos) X.env) Q E s :=
  Calls.Name_function_global I.ok.kind hg (Calls.loadGlobal_global (by rw [I.ok.glob]; exact I.mod.glob.keeps I.bk) hm h) hd
theorem ld_blt {E : Value → Shared → Prop} {pins : List (Addr × Obj)} {s : Shared} {σ : St} {H : Hp} {x : Str} {u : Value} {pos : Pos} {Q : Value → Shared → Prop} (I : Inv X pins σ H s) (hg : Gl X x) (hm : X.mg x = none) (hv : bootBuiltins x = some u) (h : Q u s)
    (hn : x ≠ "__name__" := by decide) (hd : (x == ("__debug__" : Str)) = false := by decide) : wpAny (model X.prog X.w) X.A (eval (.Name x pos) X.env) Q E s := by
  obtain ⟨mb, h1, h2⟩ := I.mod.blt
  exact Calls.Name_function_global I.ok.kind hg (Calls.loadGlobal_builtin (by rw [I.ok.glob]; exact I.mod.glob.keeps I.bk) hm (by rw [I.ok.blt]; exact h1.keeps I.bk) ((h2 x hn).trans hv) h) hd
/-- a module's constant, a class, a function, as a value -/
theorem pe_glob {x : Str} {v : V} {u : Value} {pos : Pos} (hg : Gl X x) (hm : X.mg x = some u) (r : RelV v u) (hd : (x == ("__debug__" : Str)) = false := by decide) : PE X (.Name x pos) (tC v) :=
  fun _ _ _ H _ I h => ld_glob I hg hm ⟨v, H, I, r, h⟩ hd
theorem pe_bltn {x : Str} {v : V} {u : Value} {pos : Pos} (hg : Gl X x) (hm : X.mg x = none) (hv : bootBuiltins x = some u) (r : RelV v u) (hn : x ≠ "__name__" := by decide) (hd : (x == ("__debug__" : Str)) = false := by decide) : PE X (.Name x pos) (tC v) :=
  fun _ _ _ H _ I h => ld_blt I hg hm hv ⟨v, H, I, r, h⟩ hn hd

/-! ### arithmetic -/
/-- two ints -/
def t2I (ta tb : TE) (k : Int → Int → Hp → Prop) : St → Hp → Prop := fun σ H => ta σ H fun x H1 => tb σ H1 fun y H2 => ∃ i j, x = .int i ∧ y = .int j ∧ k i j H2
def tAdd (ta tb : TE) : TE := fun σ H Q => t2I ta tb (fun i j H2 => Q (.int (i + j)) H2) σ H
def tSub (ta tb : TE) : TE := fun σ H Q => t2I ta tb (fun i j H2 => Q (.int (i - j)) H2) σ H
/-- the left factor below 2^64 -/
def tMul (ta tb : TE) : TE := fun σ H Q => t2I ta tb (fun i j H2 => (-(2 ^ 64) < i ∧ i < 2 ^ 64) ∧ Q (.int (i * j)) H2) σ H
variable {a b : Expr} {ta tb : TE} {pos : Pos}
theorem pe_add (ha : PE X a ta) (hb : PE X b tb) : PE X (.BinOp a .Add b pos) (tAdd ta tb) := by
  intro pins s σ H Q I h
  refine wpAny_BinOp (bin ha hb I h fun v u s2 x y H2 I2 rx ry q => ?_)
  obtain ⟨i, j, rfl, rfl, q⟩ := q
  obtain ⟨t, rfl⟩ := rx
  obtain ⟨t', rfl⟩ := ry
  exact add_int ⟨.int _, H2, I2.tok _, ⟨_, rfl⟩, q⟩
theorem pe_sub (ha : PE X a ta) (hb : PE X b tb) : PE X (.BinOp a .Sub b pos) (tSub ta tb) := by
  intro pins s σ H Q I h
  refine wpAny_BinOp (bin ha hb I h fun v u s2 x y H2 I2 rx ry q => ?_)
  obtain ⟨i, j, rfl, rfl, q⟩ := q
  obtain ⟨t, rfl⟩ := rx
  obtain ⟨t', rfl⟩ := ry
  exact sub_int ⟨.int _, H2, I2.tok _, ⟨_, rfl⟩, q⟩
theorem pe_mul (ha : PE X a ta) (hb : PE X b tb) : PE X (.BinOp a .Mult b pos) (tMul ta tb) := by
  intro pins s σ H Q I h
  refine wpAny_BinOp (bin ha hb I h fun v u s2 x y H2 I2 rx ry q => ?_)
  obtain ⟨i, j, rfl, rfl, ⟨q1, q2⟩, q⟩ := q
  obtain ⟨t, rfl⟩ := rx
  obtain ⟨t', rfl⟩ := ry
  exact mul_int ⟨.int _, H2, I2.tok _, ⟨_, rfl⟩, q⟩ (.of_left (intBits_le_64 q1 q2))

/-! ### comparisons -/
def PC (X : Cx) (op : CmpOp) (a b : Expr) (t : TE) : Prop :=
  ∀ (pins : List (Addr × Obj)) (s : Shared) (σ : St) (H : Hp) (Q : VK), Inv X pins σ H s → t σ H Q →
    wpAny (model X.prog X.w) X.A (eval a X.env) (fun v s₁ => wpAny (model X.prog X.w) X.A (eval b X.env) (fun u s₂ => wpAny (model X.prog X.w) X.A (compareOp op v u) (EP X pins σ Q) X.xe s₂) X.xe s₁) X.xe s
theorem nobehind (b : Expr) {op : CmpOp} (h : op ≠ .In) (h2 : op ≠ .NotIn) : behindInMarks op b = false := by
  have e1 : (op == CmpOp.In) = false := by cases op <;> first | rfl | exact absurd rfl h
  have e2 : (op == CmpOp.NotIn) = false := by cases op <;> first | rfl | exact absurd rfl h2
  cases b <;> simp [behindInMarks, e1, e2]
def tCmp (p : Int → Int → Bool) (ta tb : TE) : TE := fun σ H Q => t2I ta tb (fun i j H2 => Q (.bl (p i j)) H2) σ H
abbrev tLt : TE → TE → TE := tCmp fun i j => decide (i < j)
abbrev tLe : TE → TE → TE := tCmp fun i j => decide (i ≤ j)
abbrev tGt : TE → TE → TE := tCmp fun i j => decide (j < i)
abbrev tGe : TE → TE → TE := tCmp fun i j => decide (j ≤ i)
abbrev tEqI : TE → TE → TE := tCmp fun i j => decide (i = j)
abbrev tNeI : TE → TE → TE := tCmp fun i j => !decide (i = j)
/-- a comparison of two ints, by its rule -/
theorem pc_int {op : CmpOp} {p : Int → Int → Bool} (ha : PE X a ta) (hb : PE X b tb)
    (rule : ∀ (i j : Int) (t u : Tok) (Q : Value → Shared → Prop) (s : Shared), Q (.bool (p i j)) s → wpAny (model X.prog X.w) X.A (compareOp op (.int i t) (.int j u)) Q X.xe s) : PC X op a b (tCmp p ta tb) := by
  intro pins s σ H Q I h
  refine bin ha hb I h fun v u s2 x y H2 I2 rx ry q => ?_
  obtain ⟨i, j, rfl, rfl, q⟩ := q
  obtain ⟨t, rfl⟩ := rx
  obtain ⟨t', rfl⟩ := ry
  exact rule i j t t' _ s2 ⟨.bl _, H2, I2, rfl, q⟩
theorem pc_lt (ha : PE X a ta) (hb : PE X b tb) : PC X .Lt a b (tLt ta tb) := pc_int ha hb fun _ _ _ _ _ _ h => lt_int h
theorem pc_le (ha : PE X a ta) (hb : PE X b tb) : PC X .LtE a b (tLe ta tb) := pc_int ha hb fun _ _ _ _ _ _ h => le_int h
theorem pc_gt (ha : PE X a ta) (hb : PE X b tb) : PC X .Gt a b (tGt ta tb) := pc_int ha hb fun _ _ _ _ _ _ h => gt_int h
theorem pc_ge (ha : PE X a ta) (hb : PE X b tb) : PC X .GtE a b (tGe ta tb) := pc_int ha hb fun _ _ _ _ _ _ h => ge_int h
theorem pc_eqI (ha : PE X a ta) (hb : PE X b tb) : PC X .Eq a b (tEqI ta tb) := pc_int ha hb fun _ _ _ _ _ _ h => eq_int (by rw [Bool.beq_eq_decide_eq]; exact h)
theorem pc_neI (ha : PE X a ta) (hb : PE X b tb) : PC X .NotEq a b (tNeI ta tb) := pc_int ha hb fun _ _ _ _ _ _ h => ne_int (by rw [bne, Bool.beq_eq_decide_eq]; exact h)
/-- is None -/
def tIsN (ta : TE) : TE := fun σ H Q => ta σ H fun x H1 => Q (.bl (decide (x = .non))) H1
def tNotN (ta : TE) : TE := fun σ H Q => ta σ H fun x H1 => Q (.bl (!decide (x = .non))) H1
theorem RelV.none_iff {x : V} {v : Value} (r : RelV x v) : (v == Value.none) = decide (x = .non) := by
  cases x with
  | non => cases r; rfl
  | bl _ => cases r; rfl
  | int _ => obtain ⟨t, rfl⟩ := r; rfl
  | str _ => obtain ⟨t, rfl⟩ := r; rfl
  | byt _ => obtain ⟨t, rfl⟩ := r; rfl
  | flt _ => obtain ⟨t, rfl⟩ := r; rfl
  | ref _ => cases r; rfl
  | ty _ => cases r; rfl
theorem pc_isN {j pos'} (ha : PE X a ta) : PC X .Is a (.Constant .none j pos') (tIsN ta) := by
  intro pins s σ H Q I h
  refine thn (ha pins s σ H _ I h) fun v s1 ⟨x, H1, I1, r1, q1⟩ => ?_
  exact Constant_none (is_none_gen ⟨.bl _, H1, I1, by rw [r1.none_iff]; rfl, q1⟩)
theorem pc_notN {j pos'} (ha : PE X a ta) : PC X .IsNot a (.Constant .none j pos') (tNotN ta) := by
  intro pins s σ H Q I h
  refine thn (ha pins s σ H _ I h) fun v s1 ⟨x, H1, I1, r1, q1⟩ => ?_
  exact Constant_none (isnot_none_gen ⟨.bl _, H1, I1, by rw [r1.none_iff]; rfl, q1⟩)
/-- a comparison as a value, as a test -/
def tB (t : TE) : TT := fun σ H Q => t σ H fun x H1 => ∃ c, x = .bl c ∧ Q c H1
theorem pe_cmp {op : CmpOp} {t : TE} (h : PC X op a b t) (h1 : behindInMarks op b = false := by first | exact nobehind _ (by decide) (by decide) | rfl) : PE X (.Compare a [op] [b] pos) t := fun pins s σ H Q I hw => wpAny_Compare1 (h pins s σ H Q I hw) h1
theorem pt_cmp {op : CmpOp} {t : TE} (h : PC X op a b t) (h1 : behindInMarks op b = false := by first | exact nobehind _ (by decide) (by decide) | rfl) : PT X (.Compare a [op] [b] pos) (tB t) := by
  intro pins s σ H Q I hw
  refine wpAny_isTrue_Compare1 (thn (h pins s σ H _ I hw) fun v s1 h1 => thn h1 fun u s2 h2 => thn h2 fun c s3 ⟨x, H1, I1, r1, q1⟩ => ?_) h1
  obtain ⟨d, rfl, q⟩ := q1
  cases r1
  exact wpAny_truthy_bool ⟨H1, I1, q⟩
/-- an expression whose value is a bool, as a test -/
theorem pt_val {e : Expr} {t : TE} (h : PE X e t) (he : ∀ whole, isTrue e X.env whole = (do let v ← whole; standAt e.pos; holding [v] (truthy v)) := by intro _; rfl) : PT X e (tB t) := by
  intro pins s σ H Q I hw
  refine isTrue_plain (thn (h pins s σ H _ I hw) fun v s1 ⟨x, H1, I1, r1, q1⟩ => ?_) (he _)
  obtain ⟨d, rfl, q⟩ := q1
  cases r1
  exact wpAny_truthy_bool ⟨H1, I1, q⟩

/-! ### and, or, not -/
variable {tA tB' : TT} {rest : List Expr}
def tAnd (t u : TT) : TT := fun σ H Q => t σ H fun c H1 => if c = true then u σ H1 Q else Q false H1
def tOr (t u : TT) : TT := fun σ H Q => t σ H fun c H1 => if c = true then Q true H1 else u σ H1 Q
def tNot (t : TT) : TT := fun σ H Q => t σ H fun c H1 => Q (!c) H1
theorem pw_and1 (ha : PT X a tA) : PW X (.BoolOp .And [a] pos) tA := by
  intro wh pins s σ H Q I h
  refine isTrue_and (thn (ha pins s σ H Q I h) fun c s1 e => ?_)
  cases c with
  | true => exact isTrue_and_nil e
  | false => exact e
theorem pw_or1 (ha : PT X a tA) : PW X (.BoolOp .Or [a] pos) tA := by
  intro wh pins s σ H Q I h
  refine isTrue_or (thn (ha pins s σ H Q I h) fun c s1 e => ?_)
  cases c with
  | false => exact isTrue_or_nil e
  | true => exact e
theorem pw_and (ha : PT X a tA) (hb : PW X (.BoolOp .And (b :: rest) pos) tB') : PW X (.BoolOp .And (a :: b :: rest) pos) (tAnd tA tB') := by
  intro wh pins s σ H Q I h
  refine isTrue_and (thn (ha pins s σ H _ I h) fun c s1 ⟨H1, I1, q1⟩ => ?_)
  cases c with
  | true => exact hb wh pins s1 σ H1 Q I1 q1
  | false => exact ⟨H1, I1, q1⟩
theorem pw_or (ha : PT X a tA) (hb : PW X (.BoolOp .Or (b :: rest) pos) tB') : PW X (.BoolOp .Or (a :: b :: rest) pos) (tOr tA tB') := by
  intro wh pins s σ H Q I h
  refine isTrue_or (thn (ha pins s σ H _ I h) fun c s1 ⟨H1, I1, q1⟩ => ?_)
  cases c with
  | true => exact ⟨H1, I1, q1⟩
  | false => exact hb wh pins s1 σ H1 Q I1 q1
theorem pt_not (ha : PT X a tA) : PT X (.UnaryOp .Not a pos) (tNot tA) := by
  intro pins s σ H Q I h
  exact isTrue_not (ha pins s σ H (fun c H1 => Q (!c) H1) I h)
/-- .. as values (bools) -/
def tAndV (ta tb : TE) : TE := fun σ H Q => ta σ H fun x H1 => ∃ c, x = .bl c ∧ if c = true then tb σ H1 Q else Q (.bl false) H1
def tOrV (ta tb : TE) : TE := fun σ H Q => ta σ H fun x H1 => ∃ c, x = .bl c ∧ if c = true then Q (.bl true) H1 else tb σ H1 Q
def tNotV (ta : TE) : TE := fun σ H Q => ta σ H fun x H1 => ∃ c, x = .bl c ∧ Q (.bl (!c)) H1
theorem pe_one {op} {t : TE} (h : PE X a t) : PE X (.BoolOp op [a] pos) t := fun pins s σ H Q I hw => BoolOp_one (h pins s σ H Q I hw)
theorem pe_and (ha : PE X a ta) (hb : PE X (.BoolOp .And (b :: rest) pos) tb) : PE X (.BoolOp .And (a :: b :: rest) pos) (tAndV ta tb) := by
  intro pins s σ H Q I h
  refine BoolOp_and (thn (ha pins s σ H _ I h) fun v s1 ⟨x, H1, I1, r1, q1⟩ => ?_)
  obtain ⟨c, rfl, q1⟩ := q1
  cases r1
  refine wpAny_truthy_bool ?_
  cases c with
  | true => exact hb pins s1 σ H1 Q I1 q1
  | false => exact ⟨.bl false, H1, I1, rfl, q1⟩
theorem pe_or (ha : PE X a ta) (hb : PE X (.BoolOp .Or (b :: rest) pos) tb) : PE X (.BoolOp .Or (a :: b :: rest) pos) (tOrV ta tb) := by
  intro pins s σ H Q I h
  refine BoolOp_or (thn (ha pins s σ H _ I h) fun v s1 ⟨x, H1, I1, r1, q1⟩ => ?_)
  obtain ⟨c, rfl, q1⟩ := q1
  cases r1
  refine wpAny_truthy_bool ?_
  cases c with
  | false => exact hb pins s1 σ H1 Q I1 q1
  | true => exact ⟨.bl true, H1, I1, rfl, q1⟩
theorem pe_not (ha : PE X a ta) : PE X (.UnaryOp .Not a pos) (tNotV ta) := by
  intro pins s σ H Q I h
  refine UnaryOp_ (thn (ha pins s σ H _ I h) fun v s1 ⟨x, H1, I1, r1, q1⟩ => ?_)
  obtain ⟨c, rfl, q1⟩ := q1
  cases r1
  exact not_of (wpAny_truthy_bool ⟨.bl (!c), H1, I1, rfl, q1⟩)
/-- a if t else b -/
def tIf (t : TT) (ta tb : TE) : TE := fun σ H Q => t σ H fun c H1 => if c = true then ta σ H1 Q else tb σ H1 Q
theorem pe_ifExp {c : Expr} (hc : PT X c tA) (ha : PE X a ta) (hb : PE X b tb) : PE X (.IfExp c a b pos) (tIf tA ta tb) := by
  intro pins s σ H Q I h
  refine wpAny_IfExp (thn (hc pins s σ H _ I h) fun d s1 ⟨H1, I1, q1⟩ => ?_)
  cases d with
  | true => exact ha pins s1 σ H1 Q I1 q1
  | false => exact hb pins s1 σ H1 Q I1 q1
end
end L2

namespace L2
open PySem PySem.Spec PyProof.Rows

/-! ### a list, a tuple that is read: tracked, frozen, or an object of the module -/
def SqL (K : PySem.W.Frag) (H : Hp) (a : Addr) (xs : List V) : Prop :=
  Rd H a (.lst xs) ∨
    ∃ (o : Obj) (its : Array Value) (n : Nat), K.lookup a = some o ∧ o.cls = .type "list" ∧ o.dict = none ∧ o.data = .seq its n ∧ its.size ≤ sizeLine ∧ Vals xs its.toList
def SqT (K : PySem.W.Frag) (H : Hp) (a : Addr) (xs : List V) : Prop :=
  Rd H a (.tup xs) ∨
    ∃ (o : Obj) (its : Array Value) (n : Nat), K.lookup a = some o ∧ o.cls = .type "tuple" ∧ o.data = .seq its n ∧ its.size ≤ sizeLine ∧ Vals xs its.toList
def absV : Value → Option V
  | .none => some .non
  | .bool b => some (.bl b)
  | .int i _ => some (.int i)
  | .str x _ => some (.str x)
  | .bytes b _ => some (.byt b)
  | .float b _ => some (.flt b)
  | .ref a => some (.ref a)
  | .type n => some (.ty n)
  | _ => none
theorem RelV.abs {x : V} {u : Value} (r : RelV x u) : absV u = some x := by
  cases x with
  | non => cases r; rfl
  | bl _ => cases r; rfl
  | int _ => obtain ⟨t, rfl⟩ := r; rfl
  | str _ => obtain ⟨t, rfl⟩ := r; rfl
  | byt _ => obtain ⟨t, rfl⟩ := r; rfl
  | flt _ => obtain ⟨t, rfl⟩ := r; rfl
  | ref _ => cases r; rfl
  | ty _ => cases r; rfl
theorem RelV.inj {x y : V} {u : Value} (r : RelV x u) (q : RelV y u) : x = y := Option.some.inj (r.abs.symm.trans q.abs)
theorem Vals.inj : ∀ {xs ys : List V} {us : List Value}, Vals xs us → Vals ys us → xs = ys
  | _, _, _, .nil, .nil => rfl
  | _, _, _, .cons r t, .cons r' t' => by rw [r.inj r', Vals.inj t t']
section
variable {X : Cx} {pins : List (Addr × Obj)} {σ : St} {H : Hp} {s : Shared} {a : Addr} {xs ys : List V}
theorem SqL.of {K : PySem.W.Frag} (h : H a = some (.lst xs)) : SqL K H a xs := .inl (.inl h)
theorem SqT.of {K : PySem.W.Frag} (h : H a = some (.tup xs)) : SqT K H a xs := .inl (.inl h)
theorem Inv.list (I : Inv X pins σ H s) (h : SqL X.K H a xs) : ∃ its : List Value, Vals xs its ∧ PlainL s.heap a its.toArray ∧ xs.length ≤ sizeLine := by
  rcases h with h | ⟨o, its, n, hk, hc, hd, hs, hz, r⟩
  · obtain ⟨z, its, n, r, e⟩ := h.ok I.hok
    exact ⟨its, r, ⟨_, n, e, rfl, rfl, rfl⟩, z⟩
  · refine ⟨its.toList, r, ⟨o, n, I.kIn a o hk, hc, hd, by simpa using hs⟩, ?_⟩
    have e := r.length
    simp only [Array.length_toList] at e
    omega
theorem Inv.tuple (I : Inv X pins σ H s) (h : SqT X.K H a xs) : ∃ its : List Value, Vals xs its ∧ IsTup s.heap a its.toArray ∧ xs.length ≤ sizeLine := by
  rcases h with h | ⟨o, its, n, hk, hc, hs, hz, r⟩
  · obtain ⟨z, its, r, p⟩ := h.ok I.hok
    exact ⟨its, r, p, z⟩
  · refine ⟨its.toList, r, ⟨o, I.kIn a o hk, hc, n, by simpa using hs⟩, ?_⟩
    have e := r.length
    simp only [Array.length_toList] at e
    omega
theorem Inv.list_inj (I : Inv X pins σ H s) (h : SqL X.K H a xs) (h' : SqL X.K H a ys) : xs = ys := by
  obtain ⟨its, r, ⟨o, n, e, _, _, d⟩, _⟩ := I.list h
  obtain ⟨its', r', ⟨o', n', e', _, _, d'⟩, _⟩ := I.list h'
  rw [e] at e'; cases e'
  rw [d] at d'
  injection d' with d1 _
  have : its = its' := by simpa using congrArg Array.toList d1
  subst this
  exact r.inj r'
theorem Inv.tuple_inj (I : Inv X pins σ H s) (h : SqT X.K H a xs) (h' : SqT X.K H a ys) : xs = ys := by
  obtain ⟨its, r, ⟨o, e, _, n, d⟩, _⟩ := I.tuple h
  obtain ⟨its', r', ⟨o', e', _, n', d'⟩, _⟩ := I.tuple h'
  rw [e] at e'; cases e'
  rw [d] at d'
  injection d' with d1 _
  have : its = its' := by simpa using congrArg Array.toList d1
  subst this
  exact r.inj r'
end

/-! ### another wish about exceptions -/
abbrev Cx.wish (X : Cx) (E : Value → Shared → Prop) : Cx := { X with xe := E }
/-- no exception leaves -/
abbrev Cx.nox (X : Cx) : Cx := X.wish fun _ _ => False
theorem Cx.Ok.wish {X : Cx} (ok : X.Ok) (E : Value → Shared → Prop) : (X.wish E).Ok :=
  ⟨ok.mod, ok.kind, ok.glob, ok.blt, ok.above, ok.inj, ok.has, ok.cab, ok.hd, ok.frames, ok.stk, ok.exf, ok.bs, ok.bsz, ok.noex, ok.exfs, ok.funs, ok.frf⟩
theorem Cx.Ok.unwish {X : Cx} {E : Value → Shared → Prop} (ok : (X.wish E).Ok) : X.Ok :=
  ⟨ok.mod, ok.kind, ok.glob, ok.blt, ok.above, ok.inj, ok.has, ok.cab, ok.hd, ok.frames, ok.stk, ok.exf, ok.bs, ok.bsz, ok.noex, ok.exfs, ok.funs, ok.frf⟩
section
variable {X : Cx} {pins : List (Addr × Obj)} {σ : St} {H : Hp} {s : Shared} {E : Value → Shared → Prop}
theorem Inv.wish (I : Inv X pins σ H s) (E : Value → Shared → Prop) : Inv (X.wish E) pins σ H s := ⟨I.ok.wish E, I.os, I.bare, I.base, I.loc, I.cell, I.free, I.freeC, I.pin, I.hok, I.len⟩
theorem Inv.unwish (I : Inv (X.wish E) pins σ H s) : Inv X pins σ H s := ⟨I.ok.unwish, I.os, I.bare, I.base, I.loc, I.cell, I.free, I.freeC, I.pin, I.hok, I.len⟩
theorem SP.unwish {D : Ends} {f : Flow} {s' : Shared} (h : SP (X.wish E) pins D f s') : SP X pins D f s' := by
  cases f with
  | next => obtain ⟨σ', H', I, q⟩ := h; exact ⟨σ', H', I.unwish, q⟩
  | brk => obtain ⟨σ', H', I, q⟩ := h; exact ⟨σ', H', I.unwish, q⟩
  | cont => obtain ⟨σ', H', I, q⟩ := h; exact ⟨σ', H', I.unwish, q⟩
  | ret u => obtain ⟨v, σ', H', I, r, q⟩ := h; exact ⟨v, σ', H', I.unwish, r, q⟩
theorem PE.nox {e : Expr} {t : TE} (h : PE X.nox e t) : PE X e t := fun pins s σ H Q I hw =>
  wpAny_mono (h pins s σ H Q (I.wish _) hw) (fun _ _ ⟨v, H', I', r, q⟩ => ⟨v, H', I'.unwish, r, q⟩) fun _ _ z => False.elim z
theorem PT.nox {e : Expr} {t : TT} (h : PT X.nox e t) : PT X e t := fun pins s σ H Q I hw =>
  wpAny_mono (h pins s σ H Q (I.wish _) hw) (fun _ _ ⟨H', I', q⟩ => ⟨H', I'.unwish, q⟩) fun _ _ z => False.elim z
theorem PSs.nox {st : List Stmt} {t : TS} (h : PSs X.nox st t) : PSs X st t := fun pins s σ H D I hw =>
  wpAny_mono (h pins s σ H D (I.wish _) hw) (fun _ _ q => q.unwish) fun _ _ z => False.elim z
end

/-! ### blocks and small statements -/
section
variable {X : Cx} {st : Stmt} {rest : List Stmt} {t u : TS} {e : Expr} {te : TE} {pos : Pos}
def tNext : TS := fun D σ H => D.nx σ H
def tSeq (t u : TS) : TS := fun D σ H => t { D with nx := u D } σ H
theorem pss_nil : PSs X [] tNext := fun _ _ σ H _ I h => wpAny_execs_nil ⟨σ, H, I, h⟩
theorem pss_cons (h1 : PS X st t) (h2 : PSs X rest u) : PSs X (st :: rest) (tSeq t u) := by
  intro pins s σ H D I h
  refine wpAny_execs_cons (thn (h1 pins s σ H { D with nx := u D } I h) fun f s1 q => ?_)
  cases f with
  | next =>
    obtain ⟨σ', H', I', q⟩ := q
    exact h2 pins s1 σ' H' D I' q
  | ret v => exact q
  | brk => exact q
  | cont => exact q
theorem pss_one (h1 : PS X st t) : PSs X [st] t := by
  intro pins s σ H D I h
  refine wpAny_execs_cons (thn (h1 pins s σ H D I h) fun f s1 q => ?_)
  cases f with
  | next => exact wpAny_execs_nil q
  | ret v => exact q
  | brk => exact q
  | cont => exact q
def tBreak : TS := fun D σ H => D.bk σ H
def tCont : TS := fun D σ H => D.ct σ H
theorem ps_pass : PS X (.Pass pos) tNext := fun _ _ σ H _ I h => wpAny_Pass ⟨σ, H, I, h⟩
theorem ps_break : PS X (.Break pos) tBreak := fun _ _ σ H _ I h => wpAny_Break ⟨σ, H, I, h⟩
theorem ps_continue : PS X (.Continue pos) tCont := fun _ _ σ H _ I h => wpAny_Continue ⟨σ, H, I, h⟩
/-- in a def's body nothing is shown -/
theorem Inv.quiet {pins : List (Addr × Obj)} {σ : St} {H : Hp} {s : Shared} (I : Inv X pins σ H s) : interactive X.env = false := by simp [interactive, I.ok.kind]
/-- a docstring -/
theorem ps_doc {x j pos pos'} : PS X (.Expr (.Constant (.str x) j pos) pos') tNext := fun _ s σ H _ I h => wpAny_Expr (Calls.Constant_str (show SP X _ _ .next { s with toks := s.toks + 1 } from ⟨σ, H, I.tok _, h⟩)) I.quiet
/-- an expression whose value is dropped -/
def tDrop (te : TE) : TS := fun D σ H => te σ H fun _ H1 => D.nx σ H1
theorem ps_expr (he : PE X e te) (hs : swapsWith e none pos.line X.env = pure false := by rfl) : PS X (.Expr e pos) (tDrop te) := by
  intro pins s σ H D I h
  exact wpAny_Expr_any (thn (he pins s σ H _ I h) fun v s1 ⟨x, H1, I1, r1, q1⟩ => ⟨σ, H1, I1, q1⟩) I.quiet hs
def tRet (te : TE) : TS := fun D σ H => te σ H D.rt
theorem ps_ret (he : PE X e te) : PS X (.Return (some e) pos) (tRet te) := by
  intro pins s σ H D I h
  exact wpAny_Return_some (thn (he pins s σ H _ I h) fun v s1 ⟨x, H1, I1, r1, q1⟩ => ⟨x, σ, H1, I1, r1, q1⟩)
def tRetN : TS := fun D _ H => D.rt .non H
theorem ps_retN : PS X (.Return none pos) tRetN := fun _ _ σ H _ I h => wpAny_Return_none ⟨.non, σ, H, I, rfl, h⟩
def tIfS (c : TT) (t u : TS) : TS := fun D σ H => c σ H fun b H1 => if b = true then t D σ H1 else u D σ H1
theorem ps_if {c : Expr} {a b : List Stmt} {tc : TT} (hc : PT X c tc) (ha : PSs X a t) (hb : PSs X b u) : PS X (.If c a b pos) (tIfS tc t u) := by
  intro pins s σ H D I h
  refine wpAny_If (thn (hc pins s σ H _ I h) fun d s1 ⟨H1, I1, q1⟩ => ?_)
  cases d with
  | true => exact ha pins s1 σ H1 D I1 q1
  | false => exact hb pins s1 σ H1 D I1 q1
/-- code that the proof never comes to -/
def tNever : TS := fun _ _ _ => False
theorem ps_never : PS X st tNever := fun _ _ _ _ _ _ h => h.elim
theorem pss_never {sts : List Stmt} : PSs X sts tNever := fun _ _ _ _ _ _ h => h.elim
end

/-! ### targets -/
abbrev TG := V → St → Hp → (St → Hp → Prop) → Prop
abbrev TGs := List V → St → Hp → (St → Hp → Prop) → Prop
def PG (X : Cx) (target : Expr) (t : TG) : Prop :=
  ∀ (pins : List (Addr × Obj)) (s : Shared) (σ : St) (H : Hp) (v : V) (u : Value) (Q : St → Hp → Prop), Inv X pins σ H s → RelV v u → t v σ H Q →
    wpAny (model X.prog X.w) X.A (assign target X.env u) (fun _ s' => ∃ σ' H', Inv X pins σ' H' s' ∧ Q σ' H') X.xe s
/-- several targets, one after another -/
def PGs (X : Cx) (ts : List Expr) (t : TGs) : Prop :=
  ∀ (pins : List (Addr × Obj)) (s : Shared) (σ : St) (H : Hp) (vs : List V) (us : List Value) (Q : St → Hp → Prop), Inv X pins σ H s → Vals vs us → t vs σ H Q →
    wpAny (model X.prog X.w) X.A (assignInOrder ((assignEach ts X.env).map (·.2)) us) (fun _ s' => ∃ σ' H', Inv X pins σ' H' s' ∧ Q σ' H') X.xe s
/-- o[i] = v, by values -/
abbrev TSet := V → V → V → Hp → (Hp → Prop) → Prop
def PSet (X : Cx) (t : TSet) : Prop :=
  ∀ (pins : List (Addr × Obj)) (s : Shared) (σ : St) (H : Hp) (o i v : V) (ov iv u : Value) (Q : Hp → Prop), Inv X pins σ H s → RelV o ov → RelV i iv → RelV v u → t o i v H Q →
    wpAny (model X.prog X.w) X.A (setItem ov iv u) (fun _ s' => ∃ H', Inv X pins σ H' s' ∧ Q H') X.xe s
/-- a op= b, by values -/
abbrev TIp := V → V → Hp → VK → Prop
def PIp (X : Cx) (op : Operator) (t : TIp) : Prop :=
  ∀ (pins : List (Addr × Obj)) (s : Shared) (σ : St) (H : Hp) (x y : V) (v u : Value) (Q : VK), Inv X pins σ H s → RelV x v → RelV y u → t x y H Q →
    wpAny (model X.prog X.w) X.A (inplaceOp op v u) (EP X pins σ Q) X.xe s
section
variable {X : Cx} {pos : Pos}
def gName (i : Nat) : TG := fun v σ H Q => Q (σ.set i (some v)) H
theorem pg_name {i : Nat} {x : Str} (hN : X.N.Nodup) (hi : X.N[i]? = some x) (hx : Loc X.env.scope x) (hf : X.fn x = true ∨ X.env.scope.names.lookup x = some .local := by first | exact .inl rfl | exact .inr rfl | assumption) : PG X (.Name x pos) (gName i) := by
  intro pins s σ H v u Q I r h
  exact wpAny_assign_Name (store_ok I hN hi hx r (fun s' I' => ⟨_, H, I', h⟩) hf)
def gNil : TGs := fun vs σ H Q => vs = [] ∧ Q σ H
def gCons (t : TG) (u : TGs) : TGs := fun vs σ H Q => ∃ v r, vs = v :: r ∧ t v σ H fun σ' H' => u r σ' H' Q
theorem pgs_nil : PGs X [] gNil := by
  intro pins s σ H vs us Q I r h
  obtain ⟨e, h⟩ := h
  subst e
  cases r
  exact assignInOrder_nil ⟨σ, H, I, h⟩
theorem pgs_cons {e : Expr} {es : List Expr} {t : TG} {u : TGs} (h1 : PG X e t) (h2 : PGs X es u)
    (hs : (assignEach (e :: es) X.env).map (·.2) = assign e X.env :: (assignEach es X.env).map (·.2) := by rfl) : PGs X (e :: es) (gCons t u) := by
  intro pins s σ H vs us Q I r h
  obtain ⟨v, vr, e1, h⟩ := h
  subst e1
  cases r with
  | cons r rr =>
    rw [hs]
    refine assignInOrder_cons (thn (h1 pins s σ H _ _ _ I r h) fun _ s1 ⟨σ1, H1, I1, q1⟩ => ?_)
    exact h2 pins s1 σ1 H1 _ _ Q I1 rr q1
/-- (a, b, ..) = a tuple of that length -/
def gTup (K : PySem.W.Frag) (n : Nat) (t : TGs) : TG := fun v σ H Q => ∃ a xs, v = .ref a ∧ SqT K H a xs ∧ xs.length = n ∧ t xs σ H Q
theorem pg_tup {es : List Expr} {k : Nat} {t : TGs} {n : Nat} (hc : X.calm = true) (h : PGs X es t)
    (hn : (assignEach es X.env).length = n := by rfl) (hst : (assignEach es X.env).findIdx? (·.1) = none := by rfl) : PG X (.Tuple es k pos) (gTup X.K n t) := by
  intro pins s σ H v u Q I r hw
  obtain ⟨a, xs, e1, hq, hl, hw⟩ := hw
  subst e1
  cases r
  obtain ⟨its, rv, ht, hz⟩ := I.tuple hq
  refine assign_Tuple_tuple (I.ok.hd hc) ht (by simp [hn, ← hl, rv.length]) hst fun h' hx => ?_
  have I1 : Inv X pins σ H { s with heap := h' } := I.kept (t' := s.toks) fun b o e => hx b o (Nat.ne_of_lt (Heap.lt_size e)) e
  exact h pins _ σ H xs _ Q I1 (by simpa using rv) hw
/-- o[i] = .. -/
def gSub (to ti : TE) (t : TSet) : TG := fun v σ H Q => to σ H fun o H1 => ti σ H1 fun i H2 => t o i v H2 fun H3 => Q σ H3
theorem pg_sub {o i : Expr} {to ti : TE} {t : TSet} (ho : PE X o to) (hi : PE X i ti) (hs : PSet X t)
    (ha : ∀ v, assign (.Subscript o i pos) X.env v = (do
      let ov ← holding [v] (eval o X.env)
      let iv ← holding [v, ov] (eval i X.env)
      standAt pos
      holding [v, ov, iv] (setItem ov iv v)
      release [v, ov, iv] []) := by intro _; rfl) : PG X (.Subscript o i pos) (gSub to ti t) := by
  intro pins s σ H v u Q I r h
  rw [ha]
  refine wpAny_bind (wpAny_holding (thn (ho pins s σ H _ I h) fun ov s1 ⟨x, H1, I1, r1, q1⟩ => ?_))
  refine wpAny_bind (wpAny_holding (thn (hi pins s1 σ H1 _ I1 q1) fun iv s2 ⟨y, H2, I2, r2, q2⟩ => ?_))
  refine wpAny_bind (wpAny_standAt (wpAny_bind (wpAny_holding (thn (hs pins s2 σ H2 x y v ov iv u _ I2 r1 r2 r q2) fun _ s3 ⟨H3, I3, q3⟩ => ?_))))
  exact wpAny_release ⟨σ, H3, I3, q3⟩
/-- target = value -/
def tAsg (te : TE) (g : TG) : TS := fun D σ H => te σ H fun x H1 => g x σ H1 D.nx
theorem ps_asg {tg e : Expr} {te : TE} {g : TG} (he : PE X e te) (hg : PG X tg g) (hs : swapsWithSole [tg] e pos.line X.env = pure false := by rfl) (hw : swappedStores [tg] e X.env = pure none := by rfl)
    (h1 : (assignEach [tg] X.env).map (·.2) = [assign tg X.env] := by rfl) : PS X (.Assign [tg] e pos) (tAsg te g) := by
  intro pins s σ H D I h
  refine wpAny_Assign_stores (thn (he pins s σ H _ I h) fun v s1 ⟨x, H1, I1, r1, q1⟩ => ?_) hs hw
  rw [h1]
  exact thn (hg pins s1 σ H1 x v _ I1 r1 q1) fun _ s2 q => q
/-- name = value -/
theorem ps_set {i : Nat} {x : Str} {e : Expr} {te : TE} {pos' : Pos} (hN : X.N.Nodup) (hi : X.N[i]? = some x) (hx : Loc X.env.scope x) (he : PE X e te) (hs : swapsWith e (some (.Name x pos')) pos.line X.env = pure false := by rfl) (hf : X.fn x = true ∨ X.env.scope.names.lookup x = some .local := by first | exact .inl rfl | exact .inr rfl | assumption) :
    PS X (.Assign [.Name x pos'] e pos) (tAsg te (gName i)) := by
  intro pins s σ H D I h
  refine wpAny_Assign_Name (thn (he pins s σ H _ I h) fun v s1 ⟨y, H1, I1, r1, q1⟩ => ?_) hs
  exact store_ok I1 hN hi hx r1 (fun s2 I2 => ⟨_, H1, I2, q1⟩) hf
/-- a, b = x, y with plain local names: stored from the right; the pair itself is not tracked (the opening rows as in PyProof/Rows/TupAssign.lean:23) -/
def tPar (i j : Nat) (ta : TA) : TS := fun D σ H => ta σ H fun vs H1 => ∃ v w, vs = [v, w] ∧ D.nx ((σ.set i (some v)).set j (some w)) H1
theorem ps_par {i j : Nat} {x y : Str} {a b : Expr} {ta : TA} {px py pt : Pos} {kt k2 pt2} (hc : X.calm = true) (hN : X.N.Nodup) (hi : X.N[i]? = some x) (hj : X.N[j]? = some y) (hij : i ≠ j)
    (hx : X.env.scope.names.lookup x = some .local) (hy : X.env.scope.names.lookup y = some .local) (ha : PA X [a, b] ta)
    (hw : swappedStores [.Tuple [.Name x px, .Name y py] kt pt] (.Tuple [a, b] k2 pt2) X.env = pure (some [x, y]))
    (hs : swapsWithSole [.Tuple [.Name x px, .Name y py] kt pt] (.Tuple [a, b] k2 pt2) pos.line X.env = pure false := by rfl) :
    PS X (.Assign [.Tuple [.Name x px, .Name y py] kt pt] (.Tuple [a, b] k2 pt2) pos) (tPar i j ta) := by
  intro pins s σ H D I h
  rw [exec_Assign_arm]
  refine wpAny_bind (wpAny_standAt ?_)
  rw [hs]
  refine wpAny_bind (wpAny_pure ?_)
  rw [if_neg (by decide)]
  refine wpAny_bind (Tuple_ (thn (ha _ pins s σ H _ I h) fun us s1 ⟨vs, H1, I1, r1, q1⟩ => ?_))
  obtain ⟨v, w, e1, q1⟩ := q1
  subst e1
  obtain ⟨u1, u2, rfl, rv, rw'⟩ : ∃ u1 u2, us = [u1, u2] ∧ RelV v u1 ∧ RelV w u2 := by
    cases r1 with
    | cons p q =>
      cases q with
      | cons p' q' =>
        cases q'
        exact ⟨_, _, rfl, p, p'⟩
  refine wpAny_newObj_type ?_ (by show 2 ≤ sizeLine; decide)
  have I2 : Inv X pins σ H1 { s1 with heap := s1.heap.push { cls := .type "tuple", data := .seq [u1, u2].toArray } } := I1.kept (t' := s1.toks) fun b o e => Heap.get?_push_of_some _ e
  rw [hw]
  refine wpAny_bind (wpAny_pure ?_)
  show wpAny (model X.prog X.w) X.A (do rule "assign.swapped-stores"; let items ← unpackItems (.ref s1.heap.objs.size) 2 none; assignInOrder [fun v => bindName X.env y v, fun v => bindName X.env x v] items.reverse; pure Flow.next) _ _ _
  refine wpAny_bind (wpAny_rule (wpAny_bind (unpackItems_tuple (items := #[u1, u2]) (I.ok.hd hc) (IsTup.new s1.heap _) fun h' hx' => ?_)))
  have I3 := I2.kept (h' := h') (t' := s1.toks) fun b o e => hx' b o (Nat.ne_of_lt (Heap.lt_size e)) e
  show wpAny _ _ (assignInOrder [fun v => bindName X.env y v, fun v => bindName X.env x v] [u2, u1] >>= fun _ => pure Flow.next) _ _ _
  refine wpAny_bind (assignInOrder_cons (wpAny_bindName (store_ok I3 hN hj (.inl hy) rw' (fun s2 I4 => ?_) (.inr hy))))
  refine assignInOrder_cons (wpAny_bindName (store_ok I4 hN hi (.inl hx) rv (fun s3 I5 => assignInOrder_nil (wpAny_pure ?_)) (.inr hx)))
  rw [List.set_comm _ _ (Ne.symm hij)] at I5
  exact ⟨_, H1, I5, q1⟩
/-- name op= e -/
def tAug (i : Nat) (te : TE) (ti : TIp) : TS := fun D σ H => ∃ x, σ[i]? = some (some x) ∧ te σ H fun y H1 => ti x y H1 fun z H2 => D.nx (σ.set i (some z)) H2
theorem ps_aug {i : Nat} {x : Str} {e : Expr} {te : TE} {op : Operator} {ti : TIp} {pos' : Pos} (hN : X.N.Nodup) (hi : X.N[i]? = some x) (hx : Loc X.env.scope x) (he : PE X e te) (ho : PIp X op ti) (hf : X.fn x = true ∨ X.env.scope.names.lookup x = some .local := by first | exact .inl rfl | exact .inr rfl | assumption) :
    PS X (.AugAssign (.Name x pos') op e pos) (tAug i te ti) := by
  intro pins s σ H D I h
  obtain ⟨v, e1, h⟩ := h
  obtain ⟨m, hn, hl⟩ := I.loc
  have vis : Vis X.env.scope x := by rcases hx with k | k; exact .inl k; exact .inr (.inl k)
  obtain ⟨u, r, l⟩ := hl i x v hi e1 vis
  refine wpAny_AugAssign_Name ?_
  have go : wpAny (model X.prog X.w) X.A (eval e X.env) (fun w s₂ => wpAny (model X.prog X.w) X.A (inplaceOp op u w) (fun r s₃ => wpAny (model X.prog X.w) X.A (storeName X.env x r) (fun _ => SP X pins D .next) X.xe s₃) X.xe s₂) X.xe s := by
    refine thn (he pins s σ H _ I h) fun w s1 ⟨y, H1, I1, r1, q1⟩ => ?_
    refine thn (ho pins s1 σ H1 v y u w _ I1 r r1 q1) fun z s2 ⟨zv, H2, I2, r2, q2⟩ => ?_
    exact store_ok I2 hN hi hx r2 (fun s3 I3 => ⟨_, H2, I3, q2⟩) hf
  rcases l with ⟨hk, hm⟩ | ⟨hk, c, hc, hcell⟩
  · exact wpAny_loadName_local I.ok.kind hk hn hm go
  · rcases hk with hk | hk
    · exact wpAny_loadName_cell I.ok.kind hk hc hcell go
    · rcases hx with k | k
      · have : X.env.scope.names.lookup x = some .free := hk
        rw [k] at this; cases this
      · have : X.env.scope.names.lookup x = some .free := hk
        rw [k] at this; cases this
/-- o[i] op= e -/
def tAugS (to ti te : TE) (tget : V → V → Hp → VK → Prop) (tip : TIp) (tset : TSet) : TS := fun D σ H => to σ H fun o H1 => ti σ H1 fun i H2 => tget o i H2 fun x H3 => te σ H3 fun y H4 => tip x y H4 fun z H5 => tset o i z H5 fun H6 => D.nx σ H6
/-- o[i], by values -/
def PGet (X : Cx) (t : V → V → Hp → VK → Prop) : Prop :=
  ∀ (pins : List (Addr × Obj)) (s : Shared) (σ : St) (H : Hp) (o i : V) (ov iv : Value) (Q : VK), Inv X pins σ H s → RelV o ov → RelV i iv → t o i H Q →
    wpAny (model X.prog X.w) X.A (getItem ov iv) (EP X pins σ Q) X.xe s
theorem ps_augS {o i e : Expr} {to ti te : TE} {tget : V → V → Hp → VK → Prop} {tip : TIp} {tset : TSet} {op : Operator} {tpos : Pos} (ho : PE X o to) (hi : PE X i ti) (hg : PGet X tget) (he : PE X e te) (hp : PIp X op tip) (hs : PSet X tset)
    (ha : ∀ ov iv new, augStore i ov iv new = (do holding [new, ov, iv] (setItem ov iv new); release [new, ov, iv] []; pure .next) := by intros; rfl) : PS X (.AugAssign (.Subscript o i tpos) op e pos) (tAugS to ti te tget tip tset) := by
  intro pins s σ H D I h
  refine wpAny_AugAssign_SubscriptAny (thn (ho pins s σ H _ I h) fun ov s1 ⟨x1, H1, I1, r1, q1⟩ => ?_) ha
  refine thn (hi pins s1 σ H1 _ I1 q1) fun iv s2 ⟨x2, H2, I2, r2, q2⟩ => ?_
  refine thn (hg pins s2 σ H2 x1 x2 ov iv _ I2 r1 r2 q2) fun old s3 ⟨x3, H3, I3, r3, q3⟩ => ?_
  refine thn (he pins s3 σ H3 _ I3 q3) fun v s4 ⟨x4, H4, I4, r4, q4⟩ => ?_
  refine thn (hp pins s4 σ H4 x3 x4 old v _ I4 r3 r4 q4) fun new s5 ⟨x5, H5, I5, r5, q5⟩ => ?_
  exact thn (hs pins s5 σ H5 x1 x2 x5 ov iv new _ I5 r1 r2 r5 q5) fun _ s6 ⟨H6, I6, q6⟩ => ⟨σ, H6, I6, q6⟩
/-- ints -/
def ipI (f : Int → Int → Int) : TIp := fun x y H Q => ∃ i j, x = .int i ∧ y = .int j ∧ Q (.int (f i j)) H
theorem ip_add : PIp X .Add (ipI fun i j => i + j) := by
  intro pins s σ H x y v u Q I r1 r2 h
  obtain ⟨i, j, e1, e2, q⟩ := h
  subst e1; subst e2
  obtain ⟨t, rfl⟩ := r1
  obtain ⟨t', rfl⟩ := r2
  exact iadd_int ⟨.int _, H, I.tok _, ⟨_, rfl⟩, q⟩
theorem ip_sub : PIp X .Sub (ipI fun i j => i - j) := by
  intro pins s σ H x y v u Q I r1 r2 h
  obtain ⟨i, j, e1, e2, q⟩ := h
  subst e1; subst e2
  obtain ⟨t, rfl⟩ := r1
  obtain ⟨t', rfl⟩ := r2
  exact isub_int ⟨.int _, H, I.tok _, ⟨_, rfl⟩, q⟩
end

/-! ### while -/
section
variable {X : Cx} {pos : Pos}
/-- the invariant W with its measure -/
def tWhile (c : TT) (tb : TS) : TS := fun D σ H => ∃ W : Nat → St → Hp → Prop, (∃ m, W m σ H) ∧ ∀ m σ H, W m σ H →
  c σ H fun b H1 => if b = true then ∃ N : St → Hp → Prop, (∀ σ' H', N σ' H' → ∃ m', m' < m ∧ W m' σ' H') ∧ tb { D with nx := N, ct := N, bk := D.nx } σ H1 else D.nx σ H1
theorem ps_while {c : Expr} {body : List Stmt} {tc : TT} {tb : TS} (hp : PassesOwn (model X.prog X.w) X.A X.env X.xe) (hc : PT X c tc) (hb : PSs X body tb) : PS X (.While c body [] pos) (tWhile tc tb) := by
  intro pins s σ H D I h
  obtain ⟨W, ⟨m0, w0⟩, turn⟩ := h
  refine wpAny_While (codeAny_whileLoop (fun n s' => ∃ σ' H', Inv X pins σ' H' s' ∧ W n σ' H') ?_ m0 ⟨σ, H, I, w0⟩)
  rintro n s1 ⟨σ1, H1, I1, w1⟩
  refine wpAny_passesOwn hp (thn (hc pins s1 σ1 H1 _ I1 (turn n σ1 H1 w1)) fun b s2 ⟨H2, I2, q2⟩ => ?_)
  cases b with
  | true =>
    obtain ⟨N, hN, q2⟩ := q2
    rw [if_pos rfl]
    refine wpAny_passesOwn hp (thn (hb pins s2 σ1 H2 _ I2 q2) fun f s3 q3 => ?_)
    cases f with
    | next =>
      obtain ⟨σ3, H3, I3, n3⟩ := q3
      obtain ⟨m', hm, w3⟩ := hN σ3 H3 n3
      exact ⟨m', hm, σ3, H3, I3, w3⟩
    | cont =>
      obtain ⟨σ3, H3, I3, n3⟩ := q3
      obtain ⟨m', hm, w3⟩ := hN σ3 H3 n3
      exact ⟨m', hm, σ3, H3, I3, w3⟩
    | brk => exact q3
    | ret v => exact q3
  | false =>
    rw [if_neg Bool.false_ne_true]
    exact wpAny_execs_nil ⟨σ1, H2, I2, q2⟩
end

/-! ### what a loop or a comprehension walks -/
/-- at turn i: it yields x (the heap may grow), or it stops -/
structure It where
  go : Nat → Hp → Prop
  yld : Nat → Hp → V → Hp → Prop
  stop : Nat → Hp → Prop
/-- the iterator's own objects may turn: they are not the frame's, not pinned, younger than the entry (or a comprehension's own) -/
def FpOk (X : Cx) (pins : List (Addr × Obj)) (H : Hp) (b : Addr) : Prop :=
  H b = none ∧ b ≠ X.env.locals ∧ b ∉ X.fs ∧ (b ∈ X.ex ∨ X.s₀.heap.objs.size ≤ b) ∧ (∀ x c, X.env.cells.lookup x = some c → c ≠ b) ∧ ∀ p ∈ X.pn ++ pins, p.1 ≠ b
theorem Inv.fpOk {X : Cx} {pins : List (Addr × Obj)} {σ : St} {H H' : Hp} {s : Shared} {b : Addr} (I : Inv X pins σ H s) (hb : s.heap.objs.size ≤ b) (hn : H' b = none) : FpOk X pins H' b := by
  refine ⟨hn, Nat.ne_of_gt (Nat.lt_of_lt_of_le I.lt hb), I.nofs hb, .inr (Nat.le_trans I.sz hb), fun x c e z => ?_, fun p hp z => ?_⟩
  · obtain ⟨v, q⟩ := I.cell x c e
    exact absurd (Nat.lt_of_lt_of_le q.lt (by rw [z]; exact hb)) (Nat.lt_irrefl _)
  · exact absurd (Nat.lt_of_lt_of_le (Heap.lt_size (I.pin p hp).1) (by rw [z]; exact hb)) (Nat.lt_irrefl _)
structure Turn (P : Program) (w : World) (K : PySem.W.Frag) (tg : Expr) (J : It) (fp : List Addr) (it : Addr) (tn : Nat → Heap → Prop) : Prop where
  mem : it ∈ fp
  obj : ∀ i h, tn i h → ∀ b ∈ fp, ∃ o, h.get? b = some o ∧ ∀ v, o.data ≠ .cell v
  keep : ∀ i h h', tn i h → (∀ b ∈ fp, ∀ o, h.get? b = some o → h'.get? b = some o) → tn i h'
  item : ∀ (X : Cx), X.prog = P → X.w = w → X.K = K → X.calm = true → ∀ (i : Nat) (pins : List (Addr × Obj)) (s : Shared) (σ : St) (H : Hp) (E : Value → Shared → Prop), Inv X pins σ H s → (∀ b ∈ fp, FpOk X pins H b) → tn i s.heap → J.go i H →
    wpAny (model P w) X.A (pyNext (.ref it)) (fun r s1 => ∃ u, r = some u ∧
      wpAny (model P w) X.A (letOwnedTupleGo tg (.ref it) u) (fun _ s2 => ∃ x H', Inv X pins σ H' s2 ∧ RelV x u ∧ J.yld i H x H' ∧ tn (i + 1) s2.heap ∧ ∀ b ∈ fp, H' b = none) E s1) E s
  done : ∀ (X : Cx), X.prog = P → X.w = w → X.K = K → X.calm = true → ∀ (i : Nat) (pins : List (Addr × Obj)) (s : Shared) (σ : St) (H : Hp) (E : Value → Shared → Prop), Inv X pins σ H s → (∀ b ∈ fp, FpOk X pins H b) → tn i s.heap → J.stop i H →
    wpAny (model P w) X.A (pyNext (.ref it)) (fun r s1 => r = none ∧ Inv X pins σ H s1) E s
  self : ∀ (A : Around) (i : Nat) (s : Shared) (Q : Value → Shared → Prop) (E : Value → Shared → Prop), tn i s.heap → Q (.ref it) s → wpAny (model P w) A (pyIter (.ref it)) Q E s
abbrev TI := St → Hp → (It → Hp → Prop) → Prop
/-- an iterator has come -/
def PIE (X : Cx) (pins : List (Addr × Obj)) (σ : St) (tg : Expr) (R : It → Hp → Prop) (itv : Value) (s2 : Shared) : Prop :=
  ∃ (it : Addr) (fp : List Addr) (tn : Nat → Heap → Prop) (J : It) (H' : Hp), itv = .ref it ∧ Inv X pins σ H' s2 ∧ Turn X.prog X.w X.K tg J fp it tn ∧ tn 0 s2.heap ∧ (∀ b ∈ fp, FpOk X pins H' b) ∧ R J H'
def PI (X : Cx) (tg iter : Expr) (wi : TI) : Prop :=
  ∀ (pins : List (Addr × Obj)) (s : Shared) (σ : St) (H : Hp) (R : It → Hp → Prop), Inv X pins σ H s → wi σ H R →
    wpAny (model X.prog X.w) X.A (eval iter X.env) (fun v s1 => wpAny (model X.prog X.w) X.A (pyIter v) (PIE X pins σ tg R) X.xe s1) X.xe s

/-- the step ahead of the store is nothing for an iterator that keeps no tuple -/
theorem go_of {M : Model} {A : Around} {E : Value → Shared → Prop} {s : Shared} {tg : Expr} {it : Addr} {u : Value} {o : Obj} {n : String} {vs : Array Value} {Q : Unit → Shared → Prop} (ho : s.heap.get? it = some o) (hc : o.cls = .type n) (hd : o.data = .fields vs)
    (hn : ["enumerate", "zip", "dict_itemiterator", "dict_reverseitemiterator", "odict_iterator", "itertools.zip_longest", "itertools.pairwise"].contains n = false) (hQ : Q () s) : wpAny M A (letOwnedTupleGo tg (.ref it) u) Q E s := by
  unfold letOwnedTupleGo
  cases tg <;> first
    | exact wpAny_pure hQ
    | (cases u <;> first
        | exact wpAny_pure hQ
        | (refine wpAny_bind (wpAny_load ho ?_)
           rw [hc, hd]
           show wpAny M A (if (["enumerate", "zip", "dict_itemiterator", "dict_reverseitemiterator", "odict_iterator", "itertools.zip_longest", "itertools.pairwise"].contains n && vs[0]? == some (rawInt _)) = true then _ else _) Q E s
           rw [if_neg (by intro h; rw [hn, Bool.false_and] at h; cases h)]
           exact wpAny_pure hQ))

/-- the list at a, as it stands at each turn (a loop may append to it) -/
def Itl (K : PySem.W.Frag) (a : Addr) : It :=
  ⟨fun i H => ∃ xs x, SqL K H a xs ∧ xs[i]? = some x, fun i H x H' => H' = H ∧ ∀ xs, SqL K H a xs → xs[i]? = some x, fun i H => ∃ xs, SqL K H a xs ∧ xs.length ≤ i⟩
def Itt (K : PySem.W.Frag) (a : Addr) : It :=
  ⟨fun i H => ∃ xs x, SqT K H a xs ∧ xs[i]? = some x, fun i H x H' => H' = H ∧ ∀ xs, SqT K H a xs → xs[i]? = some x, fun i H => ∃ xs, SqT K H a xs ∧ xs.length ≤ i⟩
/-- lo, lo + 1, .. (n of them) -/
def Itr (lo : Int) (n : Nat) : It := ⟨fun i _ => i < n, fun i H x H' => H' = H ∧ x = .int (lo + i), fun i _ => n ≤ i⟩
theorem turn_list {P : Program} {w : World} {K : PySem.W.Frag} {tg : Expr} (a it : Addr) : Turn P w K tg (Itl K a) [it] it (fun i h => h.IsListIter it a i) where
  mem := by simp
  obj := fun i h st b hb => by
    have e : b = it := by simpa using hb
    subst e
    obtain ⟨o, e, c, d⟩ := st
    exact ⟨o, e, fun v z => by rw [d] at z; cases z⟩
  keep := fun i h h' st k => st.at fun o e => k it (by simp) o e
  item := by
    intro X hP hw hK hc i pins s σ H E I hf st hg
    subst hP hw hK
    obtain ⟨xs, x, hq, hx⟩ := hg
    obtain ⟨its, rv, p, hz⟩ := I.list hq
    obtain ⟨u, hu, ru⟩ := rv.get hx
    obtain ⟨f0, f1, f2, f3, f4, f5⟩ := hf it (by simp)
    refine wpAny_pyNext_list_item st p.isList (x := u) (by simpa using hu) fun h' st' sb => ?_
    have I1 : Inv X pins σ H { s with heap := h' } := I.turned (t' := s.toks) (fun b o hb e => (sb.2 b hb).trans e) f0 f1 f3 f4 f5
    obtain ⟨o, e, c, d⟩ := id st'
    exact ⟨u, rfl, go_of (s := { s with heap := h' }) e c d (by decide) ⟨x, H, I1, ru, ⟨rfl, fun ys hy => by rw [I.list_inj hy hq]; exact hx⟩, st', fun b hb => (hf b hb).1⟩⟩
  done := by
    intro X hP hw hK hc i pins s σ H E I hf st hg
    subst hP hw hK
    obtain ⟨xs, hq, hx⟩ := hg
    obtain ⟨its, rv, p, hz⟩ := I.list hq
    obtain ⟨f0, f1, f2, f3, f4, f5⟩ := hf it (by simp)
    have hl := rv.length
    exact wpAny_pyNext_list_end (I.ok.hd hc) st p.isList (by simp; omega) fun h' eb => ⟨rfl, I.turned (t' := s.toks) (fun b o hb e => eb b o hb e) f0 f1 f3 f4 f5⟩
  self := fun _ _ _ _ _ st h => wpAny_pyIter_listiter st h
theorem turn_tuple {P : Program} {w : World} {K : PySem.W.Frag} {tg : Expr} (a it : Addr) : Turn P w K tg (Itt K a) [it] it (fun i h => h.IsTupleIter it a i) where
  mem := by simp
  obj := fun i h st b hb => by
    have e : b = it := by simpa using hb
    subst e
    obtain ⟨o, e, c, d⟩ := st
    exact ⟨o, e, fun v z => by rw [d] at z; cases z⟩
  keep := fun i h h' st k => st.at fun o e => k it (by simp) o e
  item := by
    intro X hP hw hK hc i pins s σ H E I hf st hg
    subst hP hw hK
    obtain ⟨xs, x, hq, hx⟩ := hg
    obtain ⟨its, rv, p, hz⟩ := I.tuple hq
    obtain ⟨u, hu, ru⟩ := rv.get hx
    obtain ⟨f0, f1, f2, f3, f4, f5⟩ := hf it (by simp)
    refine wpAny_pyNext_tuple_item st (show s.heap.IsTuple a its.toArray from p) (x := u) (by simpa using hu) fun h' st' sb => ?_
    have I1 : Inv X pins σ H { s with heap := h' } := I.turned (t' := s.toks) (fun b o hb e => (sb.2 b hb).trans e) f0 f1 f3 f4 f5
    obtain ⟨o, e, c, d⟩ := id st'
    exact ⟨u, rfl, go_of (s := { s with heap := h' }) e c d (by decide) ⟨x, H, I1, ru, ⟨rfl, fun ys hy => by rw [I.tuple_inj hy hq]; exact hx⟩, st', fun b hb => (hf b hb).1⟩⟩
  done := by
    intro X hP hw hK hc i pins s σ H E I hf st hg
    subst hP hw hK
    obtain ⟨xs, hq, hx⟩ := hg
    obtain ⟨its, rv, p, hz⟩ := I.tuple hq
    obtain ⟨f0, f1, f2, f3, f4, f5⟩ := hf it (by simp)
    have hl := rv.length
    exact wpAny_pyNext_tuple_end (I.ok.hd hc) st (show s.heap.IsTuple a its.toArray from p) (by simp; omega) fun h' eb => ⟨rfl, I.turned (t' := s.toks) (fun b o hb e => eb b o hb e) f0 f1 f3 f4 f5⟩
  self := fun _ _ _ _ _ st h => wpAny_pyIter_tupleiter st h
theorem turn_range {P : Program} {w : World} {K : PySem.W.Frag} {tg : Expr} (it : Addr) (lo : Int) (n : Nat) : Turn P w K tg (Itr lo n) [it] it (fun i h => IsRangeIter h it (lo + (i : Nat) * 1) ((n : Int) - (i : Nat)) 1) where
  mem := by simp
  obj := fun i h st b hb => by
    have e : b = it := by simpa using hb
    subst e
    exact ⟨_, st, fun v z => by
      have z' : Data.fields _ = Data.cell v := z
      cases z'⟩
  keep := fun i h h' st k => k it (by simp) _ st
  item := by
    intro X hP hw hK hc i pins s σ H E I hf st hg
    subst hP hw hK
    obtain ⟨f0, f1, f2, f3, f4, f5⟩ := hf it (by simp)
    have W := Walks.range (prog := X.prog) (w := X.w) (I.ok.hd hc) it lo 1 n
    refine W.item i s _ _ hg st fun v h' tk hv st' kk => ?_
    obtain ⟨t, rfl⟩ := hv
    have I1 : Inv X pins σ H { s with heap := h', toks := tk } := I.turned (fun b o hb e => kk b o (by simpa using hb) e) f0 f1 f3 f4 f5
    refine ⟨_, rfl, go_of (s := { s with heap := h', toks := tk }) (n := "range_iterator") st' rfl rfl (by decide) ⟨.int (lo + i), H, I1, ⟨t, ?_⟩, ⟨rfl, rfl⟩, st', fun b hb => (hf b hb).1⟩⟩
    rw [Int.mul_one]
  done := by
    intro X hP hw hK hc i pins s σ H E I hf st hg
    subst hP hw hK
    obtain ⟨f0, f1, f2, f3, f4, f5⟩ := hf it (by simp)
    exact wpAny_pyNext_range_end (I.ok.hd hc) st (by have : n ≤ i := hg; omega) fun h' eb => ⟨rfl, I.turned (t' := s.toks) (fun b o hb e => eb b o hb e) f0 f1 f3 f4 f5⟩
  self := fun _ _ _ _ _ st h => wpAny_pyIter_rangeiter st h
end L2

namespace L2
open PySem PySem.Spec PyProof.Rows
section
variable {X : Cx} {tg : Expr}
def iList (K : PySem.W.Frag) (tl : TE) : TI := fun σ H R => tl σ H fun x H1 => ∃ a, x = .ref a ∧ (∃ xs, SqL K H1 a xs) ∧ R (Itl K a) H1
def iTup (K : PySem.W.Frag) (tl : TE) : TI := fun σ H R => tl σ H fun x H1 => ∃ a, x = .ref a ∧ (∃ xs, SqT K H1 a xs) ∧ R (Itt K a) H1
theorem pi_list {l : Expr} {tl : TE} (hl : PE X l tl) : PI X tg l (iList X.K tl) := by
  intro pins s σ H R I h
  refine thn (hl pins s σ H _ I h) fun v s1 ⟨x, H1, I1, r1, q1⟩ => ?_
  obtain ⟨a, e, ⟨xs, hq⟩, q⟩ := q1
  subst e
  cases r1
  obtain ⟨its, rv, p, hz⟩ := I1.list hq
  refine wpAny_pyIter_list p.isList ?_
  refine ⟨s1.heap.objs.size, [s1.heap.objs.size], _, _, H1, rfl, I1.kept (t' := s1.toks) fun b o e => Heap.get?_push_of_some _ e, turn_list a _, ⟨_, Heap.get?_push_size _ rfl, rfl, rfl⟩, fun b hb => ?_, q⟩
  have e : b = s1.heap.objs.size := by simpa using hb
  subst e
  exact I1.fpOk (Nat.le_refl _) (I1.hok.fresh (Nat.le_refl _))
theorem pi_tup {l : Expr} {tl : TE} (hl : PE X l tl) : PI X tg l (iTup X.K tl) := by
  intro pins s σ H R I h
  refine thn (hl pins s σ H _ I h) fun v s1 ⟨x, H1, I1, r1, q1⟩ => ?_
  obtain ⟨a, e, ⟨xs, hq⟩, q⟩ := q1
  subst e
  cases r1
  obtain ⟨its, rv, p, hz⟩ := I1.tuple hq
  refine wpAny_pyIter_tuple (show s1.heap.IsTuple a its.toArray from p) ?_
  refine ⟨s1.heap.objs.size, [s1.heap.objs.size], _, _, H1, rfl, I1.kept (t' := s1.toks) fun b o e => Heap.get?_push_of_some _ e, turn_tuple a _, ⟨_, Heap.get?_push_size _ rfl, rfl, rfl⟩, fun b hb => ?_, q⟩
  have e : b = s1.heap.objs.size := by simpa using hb
  subst e
  exact I1.fpOk (Nat.le_refl _) (I1.hok.fresh (Nat.le_refl _))
/-- a range object just made, walked -/
theorem range_it {pins : List (Addr × Obj)} {σ : St} {H : Hp} {s : Shared} {R : It → Hp → Prop} {E : Value → Shared → Prop} {lo hi : Int} {t u v : Tok} {tk : Nat} (I : Inv X pins σ H s) (h1 : -(2 ^ 62) ≤ lo) (h2 : lo < 2 ^ 62) (h3 : -(2 ^ 62) ≤ hi) (h4 : hi < 2 ^ 62)
    (q : R (Itr lo (hi - lo).toNat) H) : wpAny (model X.prog X.w) X.A (pyIter (.ref s.heap.objs.size)) (PIE X pins σ tg R) E { s with heap := s.heap.push { cls := .type "range", data := .fields #[.int lo t, .int hi u, .int 1 v] }, toks := tk } := by
  refine wpAny_pyIter_range (IsRange.new ..) (small_one h1 h2 h3 h4) ?_
  have I1 : Inv X pins σ H { s with heap := s.heap.push { cls := .type "range", data := .fields #[.int lo t, .int hi u, .int 1 v] }, toks := tk } := I.kept fun b o e => Heap.get?_push_of_some _ e
  refine ⟨(s.heap.push { cls := .type "range", data := .fields #[.int lo t, .int hi u, .int 1 v] }).objs.size, [(s.heap.push { cls := .type "range", data := .fields #[.int lo t, .int hi u, .int 1 v] }).objs.size], _, _, H, rfl,
    I1.kept (t' := tk) fun b o e => Heap.get?_push_of_some _ e, turn_range _ lo (hi - lo).toNat, ?_, fun b hb => ?_, q⟩
  · have e1 : lo + ((0 : Nat) : Int) * 1 = lo := by simp
    have e2 : (((hi - lo).toNat : Nat) : Int) - ((0 : Nat) : Int) = Builtin.Range.rangeSize lo hi 1 := by rw [rangeSize_one]; split <;> omega
    show IsRangeIter _ _ (lo + ((0 : Nat) : Int) * 1) ((((hi - lo).toNat : Nat) : Int) - ((0 : Nat) : Int)) 1
    rw [e1, e2]
    exact Heap.get?_push_size _ rfl
  · have e : b = (s.heap.push { cls := .type "range", data := .fields #[.int lo t, .int hi u, .int 1 v] }).objs.size := by simpa using hb
    subst e
    exact I1.fpOk (Nat.le_refl _) (I1.hok.fresh (Nat.le_refl _))
def iRng1 (ta : TA) : TI := fun σ H R => ta σ H fun vs H1 => ∃ j : Int, vs = [.int j] ∧ -(2 ^ 62) ≤ j ∧ j < 2 ^ 62 ∧ R (Itr 0 j.toNat) H1
def iRng2 (ta : TA) : TI := fun σ H R => ta σ H fun vs H1 => ∃ i j : Int, vs = [.int i, .int j] ∧ (-(2 ^ 62) ≤ i ∧ i < 2 ^ 62 ∧ -(2 ^ 62) ≤ j ∧ j < 2 ^ 62) ∧ R (Itr i (j - i).toNat) H1
theorem pi_range1 {a : Expr} {ta : TA} {p pos : Pos} (hg : Gl X "range") (hm : X.mg "range" = none) (ha : PA X [a] ta) (hs : starEach [a] X.env = [(false, eval a X.env)] := by rfl) : PI X tg (.Call (.Name "range" p) [a] [] pos) (iRng1 ta) := by
  intro pins s σ H R I h
  refine Call_ (ld_blt I hg hm boot_range (PyProof.Rows.callWith_type1 (thn (ha pos pins s σ H _ I h) fun us s1 ⟨vs, H1, I1, r1, q1⟩ => ?_) hs rfl))
  obtain ⟨j, e, q1, q2, q⟩ := q1
  subst e
  cases r1 with
  | cons r rr =>
    cases rr
    obtain ⟨t, rfl⟩ := r
    exact call_range_1 (range_it I1 (by omega) (by omega) q1 q2 (by simpa using q))
theorem pi_range2 {a b : Expr} {ta : TA} {p pos : Pos} (hg : Gl X "range") (hm : X.mg "range" = none) (ha : PA X [a, b] ta) (hs : starEach [a, b] X.env = [(false, eval a X.env), (false, eval b X.env)] := by rfl) (hs2 : starEach [b] X.env = [(false, eval b X.env)] := by rfl) :
    PI X tg (.Call (.Name "range" p) [a, b] [] pos) (iRng2 ta) := by
  intro pins s σ H R I h
  refine Call_ (ld_blt I hg hm boot_range (PyProof.Rows.callWith_type1 (thn (ha pos pins s σ H _ I h) fun us s1 ⟨vs, H1, I1, r1, q1⟩ => ?_) (by rw [hs, hs2]) (by rw [hs2]; rfl)))
  obtain ⟨i, j, e, ⟨q1, q2, q3, q4⟩, q⟩ := q1
  subst e
  cases r1 with
  | cons r rr =>
    cases rr with
    | cons r' rr =>
      cases rr
      obtain ⟨t, rfl⟩ := r
      obtain ⟨t', rfl⟩ := r'
      exact call_range_2 (range_it I1 q1 q2 q3 q4 q)

/-! ### for -/
/-- W: the invariant by the turn and a measure; N: what the body is to reach -/
def tFor (wi : TI) (g : TG) (tb : TS) : TS := fun D σ H => wi σ H fun J H1 => ∃ W : Nat → Nat → St → Hp → Prop, (∃ m, W 0 m σ H1) ∧ ∀ i m σ H, W i m σ H →
  (J.stop i H ∧ D.nx σ H) ∨ (J.go i H ∧ ∃ N : St → Hp → Prop, (∀ σ' H', N σ' H' → ∃ m', m' < m ∧ W (i + 1) m' σ' H') ∧ ∀ x H', J.yld i H x H' → g x σ H' fun σ2 H2 => tb { D with nx := N, ct := N, bk := D.nx } σ2 H2)
/-- the records at fp as they stand -/
def pinsAt (fp : List Addr) (h : Heap) : List (Addr × Obj) := fp.filterMap fun b => (h.get? b).map fun o => (b, o)
theorem mem_pinsAt {fp : List Addr} {h : Heap} {b : Addr} {o : Obj} (hb : b ∈ fp) (e : h.get? b = some o) : (b, o) ∈ pinsAt fp h := List.mem_filterMap.mpr ⟨b, hb, by rw [e]; rfl⟩
theorem of_pinsAt {fp : List Addr} {h : Heap} {p : Addr × Obj} (hp : p ∈ pinsAt fp h) : p.1 ∈ fp ∧ h.get? p.1 = some p.2 := by
  obtain ⟨b, hb, e⟩ := List.mem_filterMap.mp hp
  cases q : h.get? b with
  | none => rw [q] at e; cases e
  | some o =>
    rw [q] at e
    have e' : (b, o) = p := Option.some.inj e
    subst e'
    exact ⟨hb, q⟩
theorem Inv.pinned {pins : List (Addr × Obj)} {σ : St} {H : Hp} {s : Shared} {fp : List Addr} (I : Inv X pins σ H s) (hf : ∀ b ∈ fp, FpOk X pins H b) (ho : ∀ b ∈ fp, ∃ o, s.heap.get? b = some o ∧ ∀ v, o.data ≠ .cell v) : Inv X (pins ++ pinsAt fp s.heap) σ H s :=
  I.pins_of fun p hp => (List.mem_append.mp hp).elim (fun z => I.pin p (List.mem_append_right _ z)) fun z => by
    obtain ⟨hb, e⟩ := of_pinsAt z
    obtain ⟨f0, f1, f2, _⟩ := hf p.1 hb
    obtain ⟨o, e', d⟩ := ho p.1 hb
    rw [e] at e'; cases e'
    exact ⟨e, f0, f1, f2, d⟩
theorem Inv.unpinned {pins pl : List (Addr × Obj)} {σ : St} {H : Hp} {s : Shared} (I : Inv X (pins ++ pl) σ H s) : Inv X pins σ H s := I.pins_of fun p hp => I.pin p (List.mem_append_right _ (List.mem_append_left _ hp))
theorem ps_for {iter : Expr} {body : List Stmt} {wi : TI} {g : TG} {tb : TS} {pos : Pos} (hp : PassesOwn (model X.prog X.w) X.A X.env X.xe) (hc : X.calm = true) (hi : PI X tg iter wi) (hg : PG X tg g) (hb : PSs X body tb)
    (hs : ∀ x, foldedSetIterable iter X.env x = pure x := by intro _; rfl) : PS X (.For tg iter body [] pos) (tFor wi g tb) := by
  intro pins s σ H D I h
  refine wpAny_For (thn (hi pins s σ H _ I h) fun v s1 h1 => thn h1 fun itv s2 h2 => ?_) hs
  obtain ⟨it, fp, tn, J, H2, e, I2, T, st2, f2, W, ⟨m0, w0⟩, turn⟩ := h2
  subst e
  -- what stays true of the iterator's objects through the loop
  have stat : ∀ {H' : Hp}, (∀ b ∈ fp, H' b = none) → ∀ b ∈ fp, FpOk X pins H' b := fun hn b hb => ⟨hn b hb, (f2 b hb).2⟩
  refine codeAny_forLoop_any (fun n s' => ∃ i σ' H', Inv X pins σ' H' s' ∧ tn i s'.heap ∧ (∀ b ∈ fp, H' b = none) ∧ W i n σ' H') ?_ m0 ⟨0, σ, H2, I2, st2, fun b hb => (f2 b hb).1, w0⟩
  rintro n s3 ⟨i, σ3, H3, I3, st3, fr3, w3⟩
  rcases turn i n σ3 H3 w3 with ⟨stop, qn⟩ | ⟨go, N, hN, step⟩
  · refine wpAny_passesOwn hp (thn (T.done X rfl rfl rfl hc i pins s3 σ3 H3 X.xe I3 (stat fr3) st3 stop) fun r s4 ⟨hr, I4⟩ => ?_)
    subst hr
    exact wpAny_execs_nil ⟨σ3, H3, I4, qn⟩
  · refine wpAny_passesOwn hp (thn (T.item X rfl rfl rfl hc i pins s3 σ3 H3 X.xe I3 (stat fr3) st3 go) fun r s4 ⟨u, hr, h4⟩ => ?_)
    subst hr
    refine wpAny_passesOwn hp (thn h4 fun _ s5 ⟨x, H5, I5, r5, y5, st5, fr5⟩ => ?_)
    have I5' := I5.pinned (stat fr5) (T.obj _ _ st5)
    refine wpAny_passesOwn hp (thn (hg _ s5 σ3 H5 x u _ I5' r5 (step x H5 y5)) fun _ s6 ⟨σ6, H6, I6, q6⟩ => ?_)
    refine wpAny_passesOwn hp (thn (hb _ s6 σ6 H6 _ I6 q6) fun f s7 q7 => ?_)
    have again : ∀ {σ7 : St} {H7 : Hp}, Inv X (pins ++ pinsAt fp s5.heap) σ7 H7 s7 → N σ7 H7 → ∃ m, m < n ∧ ∃ i σ' H', Inv X pins σ' H' s7 ∧ tn i s7.heap ∧ (∀ b ∈ fp, H' b = none) ∧ W i m σ' H' := fun {σ7 H7} I7 n7 => by
      obtain ⟨m', hm, w7⟩ := hN σ7 H7 n7
      refine ⟨m', hm, i + 1, σ7, H7, I7.unpinned, T.keep _ _ _ st5 fun b hb o e => (I7.pin (b, o) (List.mem_append_right _ (List.mem_append_right _ (mem_pinsAt hb e)))).1, fun b hb => ?_, w7⟩
      obtain ⟨o, e, d⟩ := T.obj _ _ st5 b hb
      exact (I7.pin (b, o) (List.mem_append_right _ (List.mem_append_right _ (mem_pinsAt hb e)))).2.1
    cases f with
    | next => obtain ⟨σ7, H7, I7, n7⟩ := q7; exact again I7 n7
    | cont => obtain ⟨σ7, H7, I7, n7⟩ := q7; exact again I7 n7
    | brk => obtain ⟨σ7, H7, I7, q7⟩ := q7; exact ⟨σ7, H7, I7.unpinned, q7⟩
    | ret v => obtain ⟨x7, σ7, H7, I7, r7, q7⟩ := q7; exact ⟨x7, σ7, H7, I7.unpinned, r7, q7⟩
end

/-! ### the forms one uses -/
/-- over a list that the body leaves as it is -/
theorem for_list {K : PySem.W.Frag} {a : Addr} {xs : List V} {g : TG} {tb : TS} {D : Ends} {σ : St} {H : Hp} (Pv : Nat → St → Hp → Prop) (h0 : Pv 0 σ H) (hl : ∀ i σ H, i ≤ xs.length → Pv i σ H → SqL K H a xs)
    (hs : ∀ i x σ H, xs[i]? = some x → Pv i σ H → g x σ H fun σ2 H2 => tb { D with nx := Pv (i + 1), ct := Pv (i + 1), bk := D.nx } σ2 H2) (hd : ∀ σ H, Pv xs.length σ H → D.nx σ H) :
    ∃ W : Nat → Nat → St → Hp → Prop, (∃ m, W 0 m σ H) ∧ ∀ i m σ H, W i m σ H →
      ((Itl K a).stop i H ∧ D.nx σ H) ∨ ((Itl K a).go i H ∧ ∃ N : St → Hp → Prop, (∀ σ' H', N σ' H' → ∃ m', m' < m ∧ W (i + 1) m' σ' H') ∧ ∀ x H', (Itl K a).yld i H x H' → g x σ H' fun σ2 H2 => tb { D with nx := N, ct := N, bk := D.nx } σ2 H2) := by
  refine ⟨fun i m σ H => m = xs.length - i ∧ i ≤ xs.length ∧ Pv i σ H, ⟨xs.length, by simp, Nat.zero_le _, h0⟩, ?_⟩
  rintro i m σ H ⟨rfl, hi, p⟩
  have q := hl i σ H hi p
  by_cases hlt : i < xs.length
  · refine .inr ⟨⟨xs, xs[i], q, by simp [hlt]⟩, Pv (i + 1), fun σ' H' p' => ⟨xs.length - (i + 1), by omega, rfl, hlt, p'⟩, fun x H' y => ?_⟩
    obtain ⟨e, y⟩ := y
    subst e
    exact hs i x σ _ (y xs q) p
  · have e : i = xs.length := by omega
    subst e
    exact .inl ⟨⟨xs, q, Nat.le_refl _⟩, hd σ H p⟩
theorem for_tup {K : PySem.W.Frag} {a : Addr} {xs : List V} {g : TG} {tb : TS} {D : Ends} {σ : St} {H : Hp} (Pv : Nat → St → Hp → Prop) (h0 : Pv 0 σ H) (hl : ∀ i σ H, i ≤ xs.length → Pv i σ H → SqT K H a xs)
    (hs : ∀ i x σ H, xs[i]? = some x → Pv i σ H → g x σ H fun σ2 H2 => tb { D with nx := Pv (i + 1), ct := Pv (i + 1), bk := D.nx } σ2 H2) (hd : ∀ σ H, Pv xs.length σ H → D.nx σ H) :
    ∃ W : Nat → Nat → St → Hp → Prop, (∃ m, W 0 m σ H) ∧ ∀ i m σ H, W i m σ H →
      ((Itt K a).stop i H ∧ D.nx σ H) ∨ ((Itt K a).go i H ∧ ∃ N : St → Hp → Prop, (∀ σ' H', N σ' H' → ∃ m', m' < m ∧ W (i + 1) m' σ' H') ∧ ∀ x H', (Itt K a).yld i H x H' → g x σ H' fun σ2 H2 => tb { D with nx := N, ct := N, bk := D.nx } σ2 H2) := by
  refine ⟨fun i m σ H => m = xs.length - i ∧ i ≤ xs.length ∧ Pv i σ H, ⟨xs.length, by simp, Nat.zero_le _, h0⟩, ?_⟩
  rintro i m σ H ⟨rfl, hi, p⟩
  have q := hl i σ H hi p
  by_cases hlt : i < xs.length
  · refine .inr ⟨⟨xs, xs[i], q, by simp [hlt]⟩, Pv (i + 1), fun σ' H' p' => ⟨xs.length - (i + 1), by omega, rfl, hlt, p'⟩, fun x H' y => ?_⟩
    obtain ⟨e, y⟩ := y
    subst e
    exact hs i x σ _ (y xs q) p
  · have e : i = xs.length := by omega
    subst e
    exact .inl ⟨⟨xs, q, Nat.le_refl _⟩, hd σ H p⟩
theorem for_range {lo : Int} {n : Nat} {g : TG} {tb : TS} {D : Ends} {σ : St} {H : Hp} (Pv : Nat → St → Hp → Prop) (h0 : Pv 0 σ H)
    (hs : ∀ i σ H, i < n → Pv i σ H → g (.int (lo + i)) σ H fun σ2 H2 => tb { D with nx := Pv (i + 1), ct := Pv (i + 1), bk := D.nx } σ2 H2) (hd : ∀ σ H, Pv n σ H → D.nx σ H) :
    ∃ W : Nat → Nat → St → Hp → Prop, (∃ m, W 0 m σ H) ∧ ∀ i m σ H, W i m σ H →
      ((Itr lo n).stop i H ∧ D.nx σ H) ∨ ((Itr lo n).go i H ∧ ∃ N : St → Hp → Prop, (∀ σ' H', N σ' H' → ∃ m', m' < m ∧ W (i + 1) m' σ' H') ∧ ∀ x H', (Itr lo n).yld i H x H' → g x σ H' fun σ2 H2 => tb { D with nx := N, ct := N, bk := D.nx } σ2 H2) := by
  refine ⟨fun i m σ H => m = n - i ∧ i ≤ n ∧ Pv i σ H, ⟨n, by simp, Nat.zero_le _, h0⟩, ?_⟩
  rintro i m σ H ⟨rfl, hi, p⟩
  by_cases hlt : i < n
  · refine .inr ⟨hlt, Pv (i + 1), fun σ' H' p' => ⟨n - (i + 1), by omega, rfl, hlt, p'⟩, fun x H' y => ?_⟩
    obtain ⟨e, y⟩ := y
    subst e y
    exact hs i σ _ hlt p
  · have e : i = n := by omega
    subst e
    exact .inl ⟨Nat.le_refl _, hd σ H p⟩
/-- while, by a word and a measure of the state -/
theorem while_by {c : TT} {tb : TS} {D : Ends} {σ : St} {H : Hp} (Pv : St → Hp → Prop) (μ : St → Hp → Nat) (h0 : Pv σ H)
    (hs : ∀ σ H, Pv σ H → c σ H fun b H1 => if b = true then tb { D with nx := fun σ' H' => Pv σ' H' ∧ μ σ' H' < μ σ H, ct := fun σ' H' => Pv σ' H' ∧ μ σ' H' < μ σ H, bk := D.nx } σ H1 else D.nx σ H1)
    (mono : ∀ σ H Q Q', (∀ b H1, Q b H1 → Q' b H1) → c σ H Q → c σ H Q') : tWhile c tb D σ H := by
  refine ⟨fun m σ H => m = μ σ H ∧ Pv σ H, ⟨_, rfl, h0⟩, ?_⟩
  rintro m σ H ⟨rfl, p⟩
  refine mono σ H _ _ (fun b H1 q => ?_) (hs σ H p)
  cases b with
  | true => exact ⟨_, fun σ' H' ⟨p', l⟩ => ⟨_, l, rfl, p'⟩, q⟩
  | false => exact q
end L2

namespace L2
open PySem PySem.Spec PyProof.Rows

abbrev R2 := V → V → Hp → VK → Prop
/-- a two-place operation on values: f is binaryOp op, inplaceOp op or compareOp op -/
def OpR (X : Cx) (f : Value → Value → Sem Value) (r : R2) : Prop :=
  ∀ (pins : List (Addr × Obj)) (s : Shared) (σ : St) (H : Hp) (x y : V) (v u : Value) (Q : VK), Inv X pins σ H s → RelV x v → RelV y u → r x y H Q →
    wpAny (model X.prog X.w) X.A (f v u) (EP X pins σ Q) X.xe s
/-- a one-place operation -/
def UnR (X : Cx) (f : Value → Sem Value) (r : V → Hp → VK → Prop) : Prop :=
  ∀ (pins : List (Addr × Obj)) (s : Shared) (σ : St) (H : Hp) (x : V) (v : Value) (Q : VK), Inv X pins σ H s → RelV x v → r x H Q →
    wpAny (model X.prog X.w) X.A (f v) (EP X pins σ Q) X.xe s
/-- a call of a value that is known (a builtin, a type) with values -/
def CallR (X : Cx) (f : Value) (r : List V → Hp → VK → Prop) : Prop :=
  ∀ (pins : List (Addr × Obj)) (s : Shared) (σ : St) (H : Hp) (xs : List V) (us : List Value) (Q : VK), Inv X pins σ H s → Vals xs us → r xs H Q →
    wpAny (model X.prog X.w) X.A (call f us) (EP X pins σ Q) X.xe s
/-- a value's truth -/
def TruR (X : Cx) (r : V → Hp → (Bool → Hp → Prop) → Prop) : Prop :=
  ∀ (pins : List (Addr × Obj)) (s : Shared) (σ : St) (H : Hp) (x : V) (v : Value) (Q : Bool → Hp → Prop), Inv X pins σ H s → RelV x v → r x H Q →
    wpAny (model X.prog X.w) X.A (truthy v) (TP X pins σ Q) X.xe s

def tOp (r : R2) (ta tb : TE) : TE := fun σ H Q => ta σ H fun x H1 => tb σ H1 fun y H2 => r x y H2 Q
def tUn (r : V → Hp → VK → Prop) (ta : TE) : TE := fun σ H Q => ta σ H fun x H1 => r x H1 Q
/-- ints in, under C, and a value out -/
def rI (C : Int → Int → Prop) (g : Int → Int → V) : R2 := fun x y H Q => ∃ i j, x = .int i ∧ y = .int j ∧ C i j ∧ Q (g i j) H
def rI0 (g : Int → Int → V) : R2 := fun x y H Q => ∃ i j, x = .int i ∧ y = .int j ∧ Q (g i j) H
def rU (g : Int → V) : V → Hp → VK → Prop := fun x H Q => ∃ i, x = .int i ∧ Q (g i) H

section
variable {X : Cx} {a b c : Expr} {ta tb tc : TE} {pos : Pos}

theorem binT (ha : PE X a ta) (hb : PE X b tb) {pins : List (Addr × Obj)} {s : Shared} {σ : St} {H : Hp} {R : V → V → Hp → Prop} (I : Inv X pins σ H s)
    (h : ta σ H fun x H1 => tb σ H1 fun y H2 => R x y H2) {Q : Value → Shared → Prop} {f : Value → Value → Sem Value}
    (hf : ∀ v u s2 x y H2, Inv X pins σ H2 s2 → RelV x v → RelV y u → R x y H2 → wpAny (model X.prog X.w) X.A (f v u) Q X.xe s2) :
    wpAny (model X.prog X.w) X.A (eval a X.env) (fun v s₁ => wpAny (model X.prog X.w) X.A (eval b X.env) (fun u s₂ => wpAny (model X.prog X.w) X.A (f v u) Q X.xe s₂) X.xe s₁) X.xe s := by
  refine thn (ha pins s σ H _ I h) fun v s1 ⟨x, H1, I1, r1, q1⟩ => ?_
  refine thn (hb pins s1 σ H1 _ I1 q1) fun u s2 ⟨y, H2, I2, r2, q2⟩ => ?_
  exact hf v u s2 x y H2 I2 r1 r2 q2

theorem pe_op {op : Operator} {r : R2} (ho : OpR X (binaryOp op) r) (ha : PE X a ta) (hb : PE X b tb) : PE X (.BinOp a op b pos) (tOp r ta tb) := by
  intro pins s σ H Q I h
  exact wpAny_BinOp (binT ha hb I h fun v u s2 x y H2 I2 rx ry q => ho pins s2 σ H2 x y v u Q I2 rx ry q)
theorem pe_un {op : UnaryOp} {r : V → Hp → VK → Prop} (ho : UnR X (unaryOp op) r) (ha : PE X a ta) : PE X (.UnaryOp op a pos) (tUn r ta) := by
  intro pins s σ H Q I h
  exact UnaryOp_ (thn (ha pins s σ H _ I h) fun v s1 ⟨x, H1, I1, r1, q1⟩ => ho pins s1 σ H1 x v Q I1 r1 q1)
/-- a op= e at a name: the name's slot i -/
theorem augR {op : Operator} {r : R2} (ho : OpR X (inplaceOp op) r) {pins : List (Addr × Obj)} {s : Shared} {σ : St} {H : Hp} {x y : V} {v u : Value} {Q : VK} (I : Inv X pins σ H s)
    (rx : RelV x v) (ry : RelV y u) (q : r x y H Q) : wpAny (model X.prog X.w) X.A (inplaceOp op v u) (EP X pins σ Q) X.xe s := ho pins s σ H x y v u Q I rx ry q

/-! ### ints -/
theorem opI {f : Value → Value → Sem Value} {C : Int → Int → Prop} {g : Int → Int → Int}
    (rule : ∀ (i j : Int) (t u : Tok) (s : Shared) (Q : Value → Shared → Prop) (E : Value → Shared → Prop), C i j → Q (.int (g i j) s.toks) { s with toks := s.toks + 1 } → wpAny (model X.prog X.w) X.A (f (.int i t) (.int j u)) Q E s) :
    OpR X f (rI C fun i j => .int (g i j)) := by
  intro pins s σ H x y v u Q I rx ry h
  obtain ⟨i, j, rfl, rfl, hc, q⟩ := h
  obtain ⟨t, rfl⟩ := rx
  obtain ⟨t', rfl⟩ := ry
  exact rule i j t t' s _ _ hc ⟨.int (g i j), H, I.tok _, ⟨_, rfl⟩, q⟩
theorem opI0 {f : Value → Value → Sem Value} {g : Int → Int → Int}
    (rule : ∀ (i j : Int) (t u : Tok) (s : Shared) (Q : Value → Shared → Prop) (E : Value → Shared → Prop), Q (.int (g i j) s.toks) { s with toks := s.toks + 1 } → wpAny (model X.prog X.w) X.A (f (.int i t) (.int j u)) Q E s) :
    OpR X f (rI0 fun i j => .int (g i j)) := by
  intro pins s σ H x y v u Q I rx ry h
  obtain ⟨i, j, rfl, rfl, q⟩ := h
  obtain ⟨t, rfl⟩ := rx
  obtain ⟨t', rfl⟩ := ry
  exact rule i j t t' s _ _ ⟨.int (g i j), H, I.tok _, ⟨_, rfl⟩, q⟩
theorem opB0 {f : Value → Value → Sem Value} {g : Int → Int → Bool}
    (rule : ∀ (i j : Int) (t u : Tok) (s : Shared) (Q : Value → Shared → Prop) (E : Value → Shared → Prop), Q (.bool (g i j)) s → wpAny (model X.prog X.w) X.A (f (.int i t) (.int j u)) Q E s) :
    OpR X f (rI0 fun i j => .bl (g i j)) := by
  intro pins s σ H x y v u Q I rx ry h
  obtain ⟨i, j, rfl, rfl, q⟩ := h
  obtain ⟨t, rfl⟩ := rx
  obtain ⟨t', rfl⟩ := ry
  exact rule i j t t' s _ _ ⟨.bl (g i j), H, I, rfl, q⟩

def CDiv (i j : Int) : Prop := 0 < j ∧ j < 1073741824
def CDivN (i j : Int) : Prop := j ≠ 0 ∧ j.natAbs < 1073741824
def CPow (i j : Int) : Prop := 0 ≤ j ∧ j ≤ 1000000 ∧ i.natAbs < 2 ^ 64
def CMul (i j : Int) : Prop := (-(2 ^ 64) < i ∧ i < 2 ^ 64) ∨ (-(2 ^ 64) < j ∧ j < 2 ^ 64)
theorem CMul.ok {i j : Int} (h : CMul i j) : IntMulOk i j := by
  rcases h with ⟨h1, h2⟩ | ⟨h1, h2⟩
  · exact .of_left (intBits_le_64 h1 h2)
  · exact .of_right (intBits_le_64 h1 h2)
theorem two_pow_nn (k : Nat) : (0 : Int) ≤ 2 ^ k := by
  rw [two_pow_cast]
  exact Int.natCast_nonneg _

theorem op_add : OpR X (binaryOp .Add) (rI0 fun i j => .int (i + j)) := opI0 fun _ _ _ _ _ _ _ q => add_int q
theorem op_sub : OpR X (binaryOp .Sub) (rI0 fun i j => .int (i - j)) := opI0 fun _ _ _ _ _ _ _ q => sub_int q
theorem op_mul : OpR X (binaryOp .Mult) (rI CMul fun i j => .int (i * j)) := opI fun _ _ _ _ _ _ _ hc q => mul_int q hc.ok
/-- // by a positive divisor -/
theorem op_fdiv : OpR X (binaryOp .FloorDiv) (rI CDiv fun i j => .int (i / j)) := opI fun i j _ _ _ _ _ hc q => by
  have h1 : (0 : Int) < j := hc.1
  have h2 : j < 1073741824 := hc.2
  exact floordiv_int (by omega) (by rw [Int.fdiv_eq_ediv_of_nonneg i (by omega)]; exact q) (.inl (PyProof.noPylong_small (by omega)))
theorem op_fdivN : OpR X (binaryOp .FloorDiv) (rI CDivN fun i j => .int (i.fdiv j)) := opI fun _ _ _ _ _ _ _ hc q => floordiv_int hc.1 q (.inl (PyProof.noPylong_small hc.2))
/-- % by a positive divisor of any size -/
theorem op_mod : OpR X (binaryOp .Mod) (rI (fun _ j => 0 < j) fun i j => .int (i % j)) := opI fun i j _ _ _ _ _ hc q => by
  have h1 : (0 : Int) < j := hc
  exact mod_int' (by omega) (by rw [Int.fmod_eq_emod_of_nonneg i (by omega)]; exact q)
theorem op_modN : OpR X (binaryOp .Mod) (rI (fun _ j => j ≠ 0) fun i j => .int (i.fmod j)) := opI fun _ _ _ _ _ _ _ hc q => mod_int' hc q
theorem op_pow : OpR X (binaryOp .Pow) (rI CPow fun i j => .int (i ^ j.toNat)) := opI fun _ _ _ _ _ _ _ hc q => pow_int_small hc.1 hc.2.1 hc.2.2 q
theorem op_shl : OpR X (binaryOp .LShift) (rI CPow fun i j => .int (i * 2 ^ j.toNat)) := opI fun _ _ _ _ _ _ _ hc q => lshift_int_small hc.1 hc.2.1 hc.2.2 q
theorem op_shr : OpR X (binaryOp .RShift) (rI (fun _ j => 0 ≤ j) fun i j => .int (i / 2 ^ j.toNat)) := opI fun i j _ _ _ _ _ hc q =>
  rshift_int hc (by rw [Int.fdiv_eq_ediv_of_nonneg i (two_pow_nn _)]; exact q)
theorem op_and : OpR X (binaryOp .BitAnd) (rI0 fun i j => .int (Builtin.bitAnd i j)) := opI0 fun _ _ _ _ _ _ _ q => and_int q
theorem op_or : OpR X (binaryOp .BitOr) (rI0 fun i j => .int (Builtin.bitOr i j)) := opI0 fun _ _ _ _ _ _ _ q => or_int q
theorem op_xor : OpR X (binaryOp .BitXor) (rI0 fun i j => .int (Builtin.bitXor i j)) := opI0 fun _ _ _ _ _ _ _ q => xor_int q

theorem iop_add : OpR X (inplaceOp .Add) (rI0 fun i j => .int (i + j)) := opI0 fun _ _ _ _ _ _ _ q => iadd_int q
theorem iop_sub : OpR X (inplaceOp .Sub) (rI0 fun i j => .int (i - j)) := opI0 fun _ _ _ _ _ _ _ q => isub_int q
theorem iop_mul : OpR X (inplaceOp .Mult) (rI CMul fun i j => .int (i * j)) := opI fun _ _ _ _ _ _ _ hc q => imul_int q hc.ok
theorem iop_fdiv : OpR X (inplaceOp .FloorDiv) (rI CDiv fun i j => .int (i / j)) := opI fun i j _ _ _ _ _ hc q => by
  have h1 : (0 : Int) < j := hc.1
  have h2 : j < 1073741824 := hc.2
  exact ifloordiv_int (by omega) (by rw [Int.fdiv_eq_ediv_of_nonneg i (by omega)]; exact q) (.inl (PyProof.noPylong_small (by omega)))
theorem iop_mod : OpR X (inplaceOp .Mod) (rI (fun _ j => 0 < j) fun i j => .int (i % j)) := opI fun i j _ _ _ _ _ hc q => by
  have h1 : (0 : Int) < j := hc
  exact imod_int (by omega) (by rw [Int.fmod_eq_emod_of_nonneg i (by omega)]; exact q)
theorem iop_shl : OpR X (inplaceOp .LShift) (rI CPow fun i j => .int (i * 2 ^ j.toNat)) := opI fun _ _ _ _ _ _ _ hc q => ilshift_int_small hc.1 hc.2.1 hc.2.2 q
theorem iop_shr : OpR X (inplaceOp .RShift) (rI (fun _ j => 0 ≤ j) fun i j => .int (i / 2 ^ j.toNat)) := opI fun i j _ _ _ _ _ hc q =>
  irshift_int hc (by rw [Int.fdiv_eq_ediv_of_nonneg i (two_pow_nn _)]; exact q)
theorem iop_and : OpR X (inplaceOp .BitAnd) (rI0 fun i j => .int (Builtin.bitAnd i j)) := opI0 fun _ _ _ _ _ _ _ q => iand_int q
theorem iop_or : OpR X (inplaceOp .BitOr) (rI0 fun i j => .int (Builtin.bitOr i j)) := opI0 fun _ _ _ _ _ _ _ q => ior_int q
theorem iop_xor : OpR X (inplaceOp .BitXor) (rI0 fun i j => .int (Builtin.bitXor i j)) := opI0 fun _ _ _ _ _ _ _ q => ixor_int q

theorem unI {f : Value → Sem Value} {g : Int → Int}
    (rule : ∀ (i : Int) (t : Tok) (s : Shared) (Q : Value → Shared → Prop) (E : Value → Shared → Prop), Q (.int (g i) s.toks) { s with toks := s.toks + 1 } → wpAny (model X.prog X.w) X.A (f (.int i t)) Q E s) :
    UnR X f (rU fun i => .int (g i)) := by
  intro pins s σ H x v Q I rx h
  obtain ⟨i, rfl, q⟩ := h
  obtain ⟨t, rfl⟩ := rx
  exact rule i t s _ _ ⟨.int (g i), H, I.tok _, ⟨_, rfl⟩, q⟩
theorem un_neg : UnR X (unaryOp .USub) (rU fun i => .int (-i)) := unI fun _ _ _ _ _ q => neg_int q
theorem un_inv : UnR X (unaryOp .Invert) (rU fun i => .int (Builtin.bitNot i)) := unI fun _ _ _ _ _ q => invert_int q

/-! ### bools among ints: n += (a < b) -/
theorem op_add_ib : OpR X (binaryOp .Add) (fun x y H Q => ∃ i k, x = .int i ∧ y = .bl k ∧ Q (.int (i + b2i k)) H) := by
  intro pins s σ H x y v u Q I rx ry h
  obtain ⟨i, k, rfl, rfl, q⟩ := h
  obtain ⟨t, rfl⟩ := rx
  cases ry
  exact add_int_bool ⟨.int (i + b2i k), H, I.tok _, ⟨_, rfl⟩, q⟩
end

/-! ### comparisons -/
/-- the scalars that == tells apart as data does -/
def scal : V → V → Bool
  | .non, .non => true | .non, .int _ => true | .int _, .non => true | .non, .bl _ => true | .bl _, .non => true | .non, .str _ => true | .str _, .non => true
  | .int _, .int _ => true | .bl _, .bl _ => true | .str _, .str _ => true | .byt _, .byt _ => true
  | .int _, .str _ => true | .str _, .int _ => true | .bl _, .str _ => true | .str _, .bl _ => true
  | _, _ => false
def rEq : R2 := fun x y H Q => scal x y = true ∧ Q (.bl (decide (x = y))) H
def rNe : R2 := fun x y H Q => scal x y = true ∧ Q (.bl (!decide (x = y))) H

theorem dec_int {i j : Int} : decide (V.int i = V.int j) = (i == j) := by
  rw [Bool.eq_iff_iff]
  simp
theorem dec_bl {i j : Bool} : decide (V.bl i = V.bl j) = (i == j) := by
  rw [Bool.eq_iff_iff]
  simp
theorem dec_str {i j : Str} : decide (V.str i = V.str j) = (i == j) := by
  rw [Bool.eq_iff_iff]
  simp
theorem dec_byt {i j : Array UInt8} : decide (V.byt i = V.byt j) = (i.toList == j.toList) := by
  rw [Bool.eq_iff_iff]
  cases i
  cases j
  simp

section
variable {X : Cx} {a b c : Expr} {ta tb tc : TE} {pos : Pos}
theorem fin_bl {pins : List (Addr × Obj)} {σ : St} {H : Hp} {s : Shared} {Q : VK} {k k' : Bool} (I : Inv X pins σ H s) (q : Q (.bl k) H) (e : k = k') : EP X pins σ Q (.bool k') s := by
  subst e
  exact ⟨.bl k, H, I, rfl, q⟩
theorem op_eq : OpR X (compareOp .Eq) rEq := by
  intro pins s σ H x y v u Q I rx ry h
  obtain ⟨hs, q⟩ := h
  cases x with
  | non =>
    cases rx
    cases y with
    | non => cases ry; exact PySem.EqNone.eq_none_none (fin_bl I q (by simp))
    | bl j => cases ry; exact PySem.EqNone.eq_none_bool (fin_bl I q (by simp))
    | int j => obtain ⟨t', rfl⟩ := ry; exact PySem.EqNone.eq_none_int (fin_bl I q (by simp))
    | str j => obtain ⟨t', rfl⟩ := ry; exact PySem.EqNone.eq_none_str (fin_bl I q (by simp))
    | _ => exact absurd (show false = true from hs) Bool.false_ne_true
  | bl i =>
    cases rx
    cases y with
    | non => cases ry; exact PySem.EqNone.eq_bool_none (fin_bl I q (by simp))
    | bl j => cases ry; exact eq_bool (fin_bl I q dec_bl)
    | str j => obtain ⟨t', rfl⟩ := ry; exact PySem.EqMixed.eq_bool_str (fin_bl I q (by simp))
    | _ => exact absurd (show false = true from hs) Bool.false_ne_true
  | int i =>
    obtain ⟨t, rfl⟩ := rx
    cases y with
    | non => cases ry; exact PySem.EqNone.eq_int_none (fin_bl I q (by simp))
    | int j => obtain ⟨t', rfl⟩ := ry; exact eq_int (fin_bl I q dec_int)
    | str j => obtain ⟨t', rfl⟩ := ry; exact PySem.EqMixed.eq_int_str (fin_bl I q (by simp))
    | _ => exact absurd (show false = true from hs) Bool.false_ne_true
  | str i =>
    obtain ⟨t, rfl⟩ := rx
    cases y with
    | non => cases ry; exact PySem.EqNone.eq_str_none (fin_bl I q (by simp))
    | bl j => cases ry; exact PySem.EqMixed.eq_str_bool (fin_bl I q (by simp))
    | int j => obtain ⟨t', rfl⟩ := ry; exact PySem.EqMixed.eq_str_int (fin_bl I q (by simp))
    | str j => obtain ⟨t', rfl⟩ := ry; exact eq_str (fin_bl I q dec_str)
    | _ => exact absurd (show false = true from hs) Bool.false_ne_true
  | byt i =>
    obtain ⟨t, rfl⟩ := rx
    cases y with
    | byt j => obtain ⟨t', rfl⟩ := ry; exact PySem.W.eq_bytes (fin_bl I q dec_byt)
    | _ => exact absurd (show false = true from hs) Bool.false_ne_true
  | _ => cases y <;> exact absurd (show false = true from hs) Bool.false_ne_true
theorem op_ne : OpR X (compareOp .NotEq) rNe := by
  intro pins s σ H x y v u Q I rx ry h
  obtain ⟨hs, q⟩ := h
  cases x with
  | non =>
    cases rx
    cases y with
    | non => cases ry; exact PySem.EqNone.ne_none_none (fin_bl I q (by simp))
    | bl j => cases ry; exact PySem.EqNone.ne_none_bool (fin_bl I q (by simp))
    | int j => obtain ⟨t', rfl⟩ := ry; exact PySem.EqNone.ne_none_int (fin_bl I q (by simp))
    | str j => obtain ⟨t', rfl⟩ := ry; exact PySem.EqNone.ne_none_str (fin_bl I q (by simp))
    | _ => exact absurd (show false = true from hs) Bool.false_ne_true
  | bl i =>
    cases rx
    cases y with
    | non => cases ry; exact PySem.EqNone.ne_bool_none (fin_bl I q (by simp))
    | bl j => cases ry; exact ne_bool (fin_bl I q (congrArg not dec_bl))
    | str j => obtain ⟨t', rfl⟩ := ry; exact PySem.EqMixed.ne_bool_str (fin_bl I q (by simp))
    | _ => exact absurd (show false = true from hs) Bool.false_ne_true
  | int i =>
    obtain ⟨t, rfl⟩ := rx
    cases y with
    | non => cases ry; exact PySem.EqNone.ne_int_none (fin_bl I q (by simp))
    | int j => obtain ⟨t', rfl⟩ := ry; exact ne_int (fin_bl I q (congrArg not dec_int))
    | str j => obtain ⟨t', rfl⟩ := ry; exact PySem.EqMixed.ne_int_str (fin_bl I q (by simp))
    | _ => exact absurd (show false = true from hs) Bool.false_ne_true
  | str i =>
    obtain ⟨t, rfl⟩ := rx
    cases y with
    | non => cases ry; exact PySem.EqNone.ne_str_none (fin_bl I q (by simp))
    | bl j => cases ry; exact PySem.EqMixed.ne_str_bool (fin_bl I q (by simp))
    | int j => obtain ⟨t', rfl⟩ := ry; exact PySem.EqMixed.ne_str_int (fin_bl I q (by simp))
    | str j => obtain ⟨t', rfl⟩ := ry; exact ne_str (fin_bl I q (congrArg not dec_str))
    | _ => exact absurd (show false = true from hs) Bool.false_ne_true
  | byt i =>
    obtain ⟨t, rfl⟩ := rx
    cases y with
    | byt j => obtain ⟨t', rfl⟩ := ry; exact PySem.W.ne_bytes (fin_bl I q (congrArg not dec_byt))
    | _ => exact absurd (show false = true from hs) Bool.false_ne_true
  | _ => cases y <;> exact absurd (show false = true from hs) Bool.false_ne_true

theorem op_lt : OpR X (compareOp .Lt) (rI0 fun i j => .bl (decide (i < j))) := opB0 fun _ _ _ _ _ _ _ q => lt_int q
theorem op_le : OpR X (compareOp .LtE) (rI0 fun i j => .bl (decide (i ≤ j))) := opB0 fun _ _ _ _ _ _ _ q => le_int q
theorem op_gt : OpR X (compareOp .Gt) (rI0 fun i j => .bl (decide (j < i))) := opB0 fun _ _ _ _ _ _ _ q => gt_int q
theorem op_ge : OpR X (compareOp .GtE) (rI0 fun i j => .bl (decide (j ≤ i))) := opB0 fun _ _ _ _ _ _ _ q => ge_int q
theorem op_lt_str : OpR X (compareOp .Lt) (fun x y H Q => ∃ i j, x = .str i ∧ y = .str j ∧ Q (.bl (decide (i.cps.toList < j.cps.toList))) H) := by
  intro pins s σ H x y v u Q I rx ry h
  obtain ⟨i, j, rfl, rfl, q⟩ := h
  obtain ⟨t, rfl⟩ := rx
  obtain ⟨t', rfl⟩ := ry
  exact lt_str (fin_bl I q rfl)
/-- the one string within the other -/
theorem op_in_str : OpR X (compareOp .In) (fun x y H Q => ∃ i j, x = .str i ∧ y = .str j ∧ Q (.bl (!(Builtin.Str.occurrences j i 0 j.length 1).isEmpty)) H) := by
  intro pins s σ H x y v u Q I rx ry h
  obtain ⟨i, j, rfl, rfl, q⟩ := h
  obtain ⟨t, rfl⟩ := rx
  obtain ⟨t', rfl⟩ := ry
  exact in_str (fin_bl I q rfl)

/-- is None, is not None: the right side a value none -/
theorem op_isN : OpR X (compareOp .Is) (fun x y H Q => y = .non ∧ Q (.bl (decide (x = .non))) H) := by
  intro pins s σ H x y v u Q I rx ry h
  obtain ⟨rfl, q⟩ := h
  cases ry
  refine is_none_gen (fin_bl I q ?_)
  cases x <;> first
    | (cases rx; rfl)
    | (obtain ⟨t, rfl⟩ := rx; rfl)
theorem op_notN : OpR X (compareOp .IsNot) (fun x y H Q => y = .non ∧ Q (.bl (!decide (x = .non))) H) := by
  intro pins s σ H x y v u Q I rx ry h
  obtain ⟨rfl, q⟩ := h
  cases ry
  refine isnot_none_gen (fin_bl I q ?_)
  cases x <;> first
    | (cases rx; rfl)
    | (obtain ⟨t, rfl⟩ := rx; rfl)

theorem op_notin_str : OpR X (compareOp .NotIn) (fun x y H Q => ∃ i j, x = .str i ∧ y = .str j ∧ Q (.bl (!(!(Builtin.Str.occurrences j i 0 j.length 1).isEmpty))) H) := by
  intro pins s σ H x y v u Q I rx ry h
  obtain ⟨i, j, rfl, rfl, q⟩ := h
  obtain ⟨t, rfl⟩ := rx
  obtain ⟨t', rfl⟩ := ry
  exact notIn_str (fin_bl I q rfl)
/-- is, is not of two objects that are tracked lists or instances -/
def isObj : HO → Bool
  | .lst _ => true
  | .ins _ _ _ => true
  | _ => false
theorem obj_there {pins : List (Addr × Obj)} {s : Shared} {σ : St} {H : Hp} {a : Addr} {o : HO} (I : Inv X pins σ H s) (h : H a = some o) (p : isObj o = true) : ∃ ob, s.heap.get? a = some ob ∧ ob.cls ≠ .type "tuple" := by
  cases o with
  | lst xs =>
    obtain ⟨_, its, n, _, e⟩ : xs.length ≤ sizeLine ∧ ∃ (its : List Value) (n : Nat), Vals xs its ∧ s.heap.get? a = some { cls := .type "list", data := .seq its.toArray n } := I.hok a _ h
    exact ⟨_, e, (by show Value.type "list" ≠ .type "tuple"; decide +kernel)⟩
  | ins C dx fs =>
    have x := I.hok a _ h
    obtain ⟨_, _, _, e, _⟩ := x
    exact ⟨_, e, (by show Value.ref C ≠ .type "tuple"; exact fun z => by cases z)⟩
  | _ => exact absurd (show false = true from p) Bool.false_ne_true
theorem op_is_ref : OpR X (compareOp .Is) (fun x y H Q => ∃ a b oa ob, x = .ref a ∧ y = .ref b ∧ H a = some oa ∧ isObj oa = true ∧ H b = some ob ∧ isObj ob = true ∧ Q (.bl (decide (a = b))) H) := by
  intro pins s σ H x y v u Q I rx ry h
  obtain ⟨a, b, oa, ob, rfl, rfl, ha, pa, hb, pb, q⟩ := h
  cases rx
  cases ry
  obtain ⟨o1, e1, n1⟩ := obj_there I ha pa
  obtain ⟨o2, e2, _⟩ := obj_there I hb pb
  by_cases z : a = b
  · subst z
    exact wpAny_is_ref_self (fin_bl I q (by simp))
  · exact wpAny_is_ref_other z e1 e2 n1 (fin_bl I q (by simp [z]))
theorem op_isnot_ref : OpR X (compareOp .IsNot) (fun x y H Q => ∃ a b oa ob, x = .ref a ∧ y = .ref b ∧ H a = some oa ∧ isObj oa = true ∧ H b = some ob ∧ isObj ob = true ∧ Q (.bl (!decide (a = b))) H) := by
  intro pins s σ H x y v u Q I rx ry h
  obtain ⟨a, b, oa, ob, rfl, rfl, ha, pa, hb, pb, q⟩ := h
  cases rx
  cases ry
  obtain ⟨o1, e1, n1⟩ := obj_there I ha pa
  obtain ⟨o2, e2, _⟩ := obj_there I hb pb
  by_cases z : a = b
  · subst z
    exact wpAny_isNot_ref_self (fin_bl I q (by simp))
  · exact wpAny_isNot_ref_other z e1 e2 n1 (fin_bl I q (by simp [z]))

/-- two rules for one operation: by cases -/
theorem OpR.or {f : Value → Value → Sem Value} {r r' : R2} (h : OpR X f r) (h' : OpR X f r') : OpR X f (fun x y H Q => r x y H Q ∨ r' x y H Q) := by
  intro pins s σ H x y v u Q I rx ry q
  rcases q with q | q
  · exact h pins s σ H x y v u Q I rx ry q
  · exact h' pins s σ H x y v u Q I rx ry q

theorem nomark (b : Expr) {op : CmpOp} (h : op ≠ .In := by decide) (h2 : op ≠ .NotIn := by decide) : behindInMarks op b = false := by
  have e1 : (op == CmpOp.In) = false := by cases op <;> first | rfl | exact absurd rfl h
  have e2 : (op == CmpOp.NotIn) = false := by cases op <;> first | rfl | exact absurd rfl h2
  cases b <;> simp [behindInMarks, e1, e2]
/-- a comparison as a value; hm: nomark b, or (for in, not in) by with_unfolding_all rfl -/
theorem pe_cmpR {op : CmpOp} {r : R2} (ho : OpR X (compareOp op) r) (ha : PE X a ta) (hb : PE X b tb) (hm : behindInMarks op b = false) : PE X (.Compare a [op] [b] pos) (tOp r ta tb) := by
  intro pins s σ H Q I h
  exact wpAny_Compare1 (binT ha hb I h fun v u s2 x y H2 I2 rx ry q => ho pins s2 σ H2 x y v u Q I2 rx ry q) hm
/-- a reading of a value as a test -/
def tTest (t : TE) : TT := fun σ H Q => t σ H fun x H' => ∃ k, x = .bl k ∧ Q k H'
theorem pt_cmpR {op : CmpOp} {r : R2} (ho : OpR X (compareOp op) r) (ha : PE X a ta) (hb : PE X b tb) (hm : behindInMarks op b = false) : PT X (.Compare a [op] [b] pos) (tTest (tOp r ta tb)) := by
  intro pins s σ H Q I h
  refine wpAny_isTrue_Compare1 (thn (ha pins s σ H _ I h) fun v s1 ⟨x, H1, I1, r1, q1⟩ => thn (hb pins s1 σ H1 _ I1 q1) fun u s2 ⟨y, H2, I2, r2, q2⟩ =>
    thn (ho pins s2 σ H2 x y v u _ I2 r1 r2 q2) fun c s3 ⟨z, H3, I3, r3, k, e, q3⟩ => ?_) hm
  subst e
  cases r3
  exact wpAny_truthy_bool ⟨H3, I3, q3⟩
/-- a op1 b op2 c -/
def tChain (r r' : R2) (ta tb tc : TE) : TE := fun σ H Q => ta σ H fun x H1 => tb σ H1 fun y H2 => r x y H2 fun z H3 => ∃ k, z = .bl k ∧
  (if k = true then tc σ H3 fun w' H4 => r' y w' H4 Q else Q (.bl false) H3)
theorem pe_chain {op op' : CmpOp} {r r' : R2} (ho : OpR X (compareOp op) r) (ho' : OpR X (compareOp op') r') (ha : PE X a ta) (hb : PE X b tb) (hc : PE X c tc)
    (hm : lastMarks [op, op'] [b, c] = false := by with_unfolding_all rfl) : PE X (.Compare a [op, op'] [b, c] pos) (tChain r r' ta tb tc) := by
  intro pins s σ H Q I h
  refine Compare_chain (thn (ha pins s σ H _ I h) fun v s1 ⟨x, H1, I1, r1, q1⟩ => chain_link (thn (hb pins s1 σ H1 _ I1 q1) fun u s2 ⟨y, H2, I2, r2, q2⟩ =>
    thn (ho pins s2 σ H2 x y v u _ I2 r1 r2 q2) fun d s3 ⟨z, H3, I3, r3, k, e, q3⟩ => ?_)) hm
  subst e
  cases r3
  refine wpAny_truthy_bool ?_
  cases k with
  | false => exact ite_ff ⟨.bl false, H3, I3, rfl, q3⟩
  | true => exact ite_tt (chain_last (thn (hc pins s3 σ H3 _ I3 q3) fun w' s4 ⟨z', H4, I4, r4, q4⟩ => ho' pins s4 σ H4 y z' u w' Q I4 r2 r4 q4))
theorem pt_chain {op op' : CmpOp} {r r' : R2} (ho : OpR X (compareOp op) r) (ho' : OpR X (compareOp op') r') (ha : PE X a ta) (hb : PE X b tb) (hc : PE X c tc)
    (hm : lastMarks [op, op'] [b, c] = false := by with_unfolding_all rfl) : PT X (.Compare a [op, op'] [b, c] pos) (tTest (tChain r r' ta tb tc)) := by
  intro pins s σ H Q I h
  refine isTrue_chain (thn (ha pins s σ H _ I h) fun v s1 ⟨x, H1, I1, r1, q1⟩ => test_link (thn (hb pins s1 σ H1 _ I1 q1) fun u s2 ⟨y, H2, I2, r2, q2⟩ =>
    thn (ho pins s2 σ H2 x y v u _ I2 r1 r2 q2) fun d s3 ⟨z, H3, I3, r3, k, e, q3⟩ => ?_)) hm
  subst e
  cases r3
  refine wpAny_truthy_bool ?_
  cases k with
  | false =>
    obtain ⟨k', e', q'⟩ := q3
    cases e'
    exact ite_ff ⟨H3, I3, q'⟩
  | true =>
    refine ite_tt (test_last (thn (hc pins s3 σ H3 _ I3 q3) fun w' s4 ⟨z', H4, I4, r4, q4⟩ => thn (ho' pins s4 σ H4 y z' u w' _ I4 r2 r4 q4) fun d' s5 ⟨z2, H5, I5, r5, k2, e2, q5⟩ => ?_))
    subst e2
    cases r5
    exact wpAny_truthy_bool ⟨H5, I5, q5⟩

/-! ### truth -/
/-- a value's truth by the abstract heap -/
def TruV (K : PySem.W.Frag) (x : V) (H : Hp) (k : Bool) : Prop :=
  match x with
  | .non => k = false
  | .bl b => k = b
  | .int i => k = (i != 0)
  | .str y => y.length ≤ sizeLine ∧ k = ((y.length : Int) != 0)
  | .byt y => y.size ≤ sizeLine ∧ k = ((y.size : Int) != 0)
  | .ref p => (∃ xs, SqL K H p xs ∧ k = !xs.isEmpty) ∨ (∃ xs, SqT K H p xs ∧ k = !xs.isEmpty) ∨ ∃ kvs, H p = some (.dK kvs) ∧ k = !kvs.isEmpty
  | _ => False
theorem isEmpty_kv {κ : Type} {kvs : List (κ × V)} {vs : List (κ × Value)} (r : KV kvs vs) : (!vs.isEmpty) = !kvs.isEmpty := by
  cases r <;> rfl
theorem isEmpty_of {xs : List V} {its : List Value} (r : Vals xs its) : (!its.toArray.isEmpty) = !xs.isEmpty := by
  cases r <;> simp
theorem line63 : (sizeLine : Nat) < 2 ^ 63 := by rw [sizeLine_eq]; decide
theorem tru_ok : TruR X (fun x H Q => ∃ k, TruV X.K x H k ∧ Q k H) := by
  intro pins s σ H x v Q I rx h
  obtain ⟨k, e, q⟩ := h
  have hl := line63
  have hs : sizeLine = 16777216 := sizeLine_eq
  cases x with
  | non =>
    cases rx
    have e' : k = false := e
    subst e'
    exact truthy_none ⟨H, I, q⟩
  | bl b =>
    cases rx
    have e' : k = b := e
    subst e'
    exact wpAny_truthy_bool ⟨H, I, q⟩
  | int i =>
    obtain ⟨t, rfl⟩ := rx
    have e' : k = (i != 0) := e
    subst e'
    exact PySem.P.truthy_int ⟨H, I, q⟩
  | str y =>
    obtain ⟨t, rfl⟩ := rx
    obtain ⟨hy, e'⟩ : y.length ≤ sizeLine ∧ k = ((y.length : Int) != 0) := e
    subst e'
    exact PySem.P.truthy_str (by omega) ⟨H, I.tok _, q⟩
  | byt y =>
    obtain ⟨t, rfl⟩ := rx
    obtain ⟨hy, e'⟩ : y.size ≤ sizeLine ∧ k = ((y.size : Int) != 0) := e
    subst e'
    exact PySem.W.truthy_bytes (by omega) ⟨H, I.tok _, q⟩
  | ref p =>
    cases rx
    have e' : (∃ xs, SqL X.K H p xs ∧ k = !xs.isEmpty) ∨ (∃ xs, SqT X.K H p xs ∧ k = !xs.isEmpty) ∨ ∃ kvs, H p = some (.dK kvs) ∧ k = !kvs.isEmpty := e
    rcases e' with ⟨xs, hx, e'⟩ | ⟨xs, hx, e'⟩ | ⟨kvs, hx, e'⟩
    · subst e'
      obtain ⟨its, r, pl, hz⟩ := I.list hx
      have hlen := r.length
      exact wpAny_truthy_list pl.isList (by simp only [List.size_toArray]; omega) ⟨H, I.tok _, by rw [isEmpty_of r]; exact q⟩
    · subst e'
      obtain ⟨its, r, pl, hz⟩ := I.tuple hx
      have hlen := r.length
      exact truthy_tuple pl (by simp only [List.size_toArray]; omega) ⟨H, I.tok _, by rw [isEmpty_of r]; exact q⟩
    · subst e'
      obtain ⟨hz, hS, vs, r, m⟩ : kvs.length ≤ sizeLine ∧ (p == sysModules) = false ∧ ∃ vs, KV kvs vs ∧ s.heap.DictOf (mixKind X.prog X.w) p vs := I.hok p _ hx
      have hlen : kvs.length = vs.length := Paired.length r
      exact wpAny_truthy_dict hS m (by omega) ⟨H, I.tok _, by rw [isEmpty_kv r]; exact q⟩
  | _ => exact (show False from e).elim
/-- any expression whose test is its value's truth (a name, a call, a subscript, a field ..: he by fun _ => rfl) -/
theorem pt_truth (ha : PE X a ta) (he : ∀ whole, isTrue a X.env whole = (do let v ← whole; standAt a.pos; holding [v] (truthy v))) :
    PT X a (fun σ H Q => ta σ H fun x H' => ∃ k, TruV X.K x H' k ∧ Q k H') := by
  intro pins s σ H Q I h
  exact isTrue_plain (thn (ha pins s σ H _ I h) fun v s1 ⟨x, H1, I1, r1, q1⟩ => tru_ok pins s1 σ H1 x v Q I1 r1 q1) (he _)

/-! ### strs and bytes -/
theorem pe_byt {x : List UInt8} {k : Nat} : PE X (.Constant (.bytes x) k pos) (fun _ H Q => Q (.byt x.toArray) H) := fun _ _ _ H _ I h => PySem.W.Constant_bytes ⟨.byt x.toArray, H, I.tok _, ⟨_, rfl⟩, h⟩
theorem op_add_str : OpR X (binaryOp .Add) (fun x y H Q => ∃ i j, x = .str i ∧ y = .str j ∧ i.length + j.length ≤ sizeLine ∧ Q (.str (i ++ j)) H) := by
  intro pins s σ H x y v u Q I rx ry h
  obtain ⟨i, j, rfl, rfl, hz, q⟩ := h
  obtain ⟨t, rfl⟩ := rx
  obtain ⟨t', rfl⟩ := ry
  exact add_str (fun t' tk => ⟨.str (i ++ j), H, I.tok _, ⟨_, rfl⟩, q⟩) hz
theorem iop_add_str : OpR X (inplaceOp .Add) (fun x y H Q => ∃ i j, x = .str i ∧ y = .str j ∧ i.length + j.length ≤ sizeLine ∧ Q (.str (i ++ j)) H) := by
  intro pins s σ H x y v u Q I rx ry h
  obtain ⟨i, j, rfl, rfl, hz, q⟩ := h
  obtain ⟨t, rfl⟩ := rx
  obtain ⟨t', rfl⟩ := ry
  exact iadd_str (fun t' tk => ⟨.str (i ++ j), H, I.tok _, ⟨_, rfl⟩, q⟩) hz
theorem op_add_byt : OpR X (binaryOp .Add) (fun x y H Q => ∃ i j, x = .byt i ∧ y = .byt j ∧ i.size + j.size ≤ 16777216 ∧ Q (.byt (i ++ j)) H) := by
  intro pins s σ H x y v u Q I rx ry h
  obtain ⟨i, j, rfl, rfl, hz, q⟩ := h
  obtain ⟨t, rfl⟩ := rx
  obtain ⟨t', rfl⟩ := ry
  exact PySem.W.KBy.add_bytes hz (fun t' tk => ⟨.byt (i ++ j), H, I.tok _, ⟨_, rfl⟩, q⟩)

def PlainIxT (b : Expr) : Prop := ∀ o i, subscripted b false o i = operate [o, i] (getItem o i)
/-- s[i], 0 ≤ i < len -/
theorem pe_item_str (ha : PE X a ta) (hb : PE X b tb) (hs : PlainIxT b) :
    PE X (.Subscript a b pos) (tOp (fun x y H Q => ∃ z i c, x = .str z ∧ y = .int i ∧ 0 ≤ i ∧ i < 2 ^ 63 ∧ i < z.length ∧ z.cps[i.toNat]? = some c ∧ Q (.str ⟨#[c]⟩) H) ta tb) := by
  intro pins s σ H Q I h
  refine Subscript_ (binT ha hb I h fun v u s2 x y H2 I2 rx ry q => ?_)
  obtain ⟨z, i, c, rfl, rfl, h0, h63, h1, hc, q⟩ := q
  obtain ⟨t, rfl⟩ := rx
  obtain ⟨t', rfl⟩ := ry
  have e : seqIndex? i z.length = some i.toNat := PySem.StrLaws.seqIndex_nonneg h0 h1
  exact tail_any (typeIs_str s2 z t) slot_str_getitem.lookup (getItem_str (c := c) (by
    have e1 : decide (i < -(2 ^ 63 : Int)) = false := decide_eq_false (by omega)
    have e2 : decide (i ≥ 2 ^ 63) = false := decide_eq_false (by omega)
    rw [e1, e2] <;> rfl) (by rw [e]; exact hc) ⟨.str ⟨#[c]⟩, H2, I2.tok _, ⟨_, rfl⟩, q⟩) (hs _ _)
/-- b[i], 0 ≤ i < len -/
theorem pe_item_byt (ha : PE X a ta) (hb : PE X b tb) (hs : PlainIxT b) :
    PE X (.Subscript a b pos) (tOp (fun x y H Q => ∃ (z : List UInt8) (i : Int), x = .byt z.toArray ∧ y = .int i ∧ z.length ≤ sizeLine ∧ 0 ≤ i ∧ i < z.length ∧ Q (.int ((z.getD i.toNat 0).toNat : Nat)) H) ta tb) := by
  intro pins s σ H Q I h
  refine Subscript_ (binT ha hb I h fun v u s2 x y H2 I2 rx ry q => ?_)
  obtain ⟨z, i, rfl, rfl, hz, h0, h1, q⟩ := q
  obtain ⟨t, rfl⟩ := rx
  obtain ⟨t', rfl⟩ := ry
  have hl : sizeLine = 16777216 := sizeLine_eq
  exact tail_any (PySem.W.typeIs_bytes s2 z.toArray t) PySem.W.FB.slot_bytes_getitem.lookup (PySem.W.getItem_bytes (by omega) h0 h1 ⟨.int ((z.getD i.toNat 0).toNat : Nat), H2, I2.tok _, ⟨_, rfl⟩, q⟩) (hs _ _)

/-! ### scalar builtins, by CallR -/
theorem vals1 {x : V} {us : List Value} (r : Vals [x] us) : ∃ u, us = [u] ∧ RelV x u := by
  cases r with
  | cons r1 r2 => cases r2; exact ⟨_, rfl, r1⟩
theorem vals2 {x y : V} {us : List Value} (r : Vals [x, y] us) : ∃ u w', us = [u, w'] ∧ RelV x u ∧ RelV y w' := by
  cases r with
  | cons r1 r2 =>
    cases r2 with
    | cons r3 r4 => cases r4; exact ⟨_, _, rfl, r1, r3⟩
theorem call_abs : CallR X (.builtin "abs") (fun xs H Q => ∃ i, xs = [.int i] ∧ Q (.int (if i < 0 then -i else i)) H) := by
  intro pins s σ H xs us Q I r h
  obtain ⟨i, rfl, q⟩ := h
  obtain ⟨u, rfl, t, rfl⟩ := vals1 r
  exact call_abs_int fun u tk => ⟨.int (if i < 0 then -i else i), H, I.tok _, ⟨_, rfl⟩, q⟩
theorem call_max2 (hc : X.calm = true) : CallR X (.builtin "max") (fun xs H Q => ∃ i j, xs = [.int i, .int j] ∧ Q (.int (if j > i then j else i)) H) := by
  intro pins s σ H xs us Q I r h
  obtain ⟨i, j, rfl, q⟩ := h
  obtain ⟨u, w', rfl, ⟨t, rfl⟩, ⟨t', rfl⟩⟩ := vals2 r
  refine max_two_ints (I.ok.hd hc) fun h' tk k => ⟨_, H, I.kept k, ?_, q⟩
  by_cases hj : j > i
  · rw [if_pos hj, if_pos hj]; exact ⟨_, rfl⟩
  · rw [if_neg hj, if_neg hj]; exact ⟨_, rfl⟩
theorem call_min2 (hc : X.calm = true) : CallR X (.builtin "min") (fun xs H Q => ∃ i j, xs = [.int i, .int j] ∧ Q (.int (if j < i then j else i)) H) := by
  intro pins s σ H xs us Q I r h
  obtain ⟨i, j, rfl, q⟩ := h
  obtain ⟨u, w', rfl, ⟨t, rfl⟩, ⟨t', rfl⟩⟩ := vals2 r
  refine min_two_ints (I.ok.hd hc) fun h' tk k => ⟨_, H, I.kept k, ?_, q⟩
  by_cases hj : j < i
  · rw [if_pos hj, if_pos hj]; exact ⟨_, rfl⟩
  · rw [if_neg hj, if_neg hj]; exact ⟨_, rfl⟩
theorem call_int1 : CallR X (.type "int") (fun xs H Q => (∃ i, xs = [.int i] ∧ Q (.int i) H) ∨ ∃ k, xs = [.bl k] ∧ Q (.int (if k then 1 else 0)) H) := by
  intro pins s σ H xs us Q I r h
  rcases h with ⟨i, rfl, q⟩ | ⟨k, rfl, q⟩
  · obtain ⟨u, rfl, t, rfl⟩ := vals1 r
    exact call_int_int ⟨.int i, H, I, ⟨_, rfl⟩, q⟩
  · obtain ⟨u, rfl, r1⟩ := vals1 r
    cases r1
    exact call_int_bool ⟨.int (if k then 1 else 0), H, I.tok _, ⟨_, rfl⟩, q⟩
theorem call_bool1 : CallR X (.type "bool") (fun xs H Q => (∃ i, xs = [.int i] ∧ Q (.bl (i != 0)) H) ∨ ∃ k, xs = [.bl k] ∧ Q (.bl k) H) := by
  intro pins s σ H xs us Q I r h
  rcases h with ⟨i, rfl, q⟩ | ⟨k, rfl, q⟩
  · obtain ⟨u, rfl, t, rfl⟩ := vals1 r
    exact call_bool_int ⟨.bl (i != 0), H, I, rfl, q⟩
  · obtain ⟨u, rfl, r1⟩ := vals1 r
    cases r1
    exact call_bool_bool ⟨.bl k, H, I, rfl, q⟩
theorem call_str_int : CallR X (.type "str") (fun xs H Q => ∃ i, xs = [.int i] ∧ i.natAbs.log2 < 1920 ∧ Q (.str (toString i)) H) := by
  intro pins s σ H xs us Q I r h
  obtain ⟨i, rfl, hz, q⟩ := h
  obtain ⟨u, rfl, t, rfl⟩ := vals1 r
  exact PySem.P.str_of_int hz ⟨.str _, H, I.tok _, ⟨_, rfl⟩, q⟩
theorem call_ord : CallR X (.builtin "ord") (fun xs H Q => ∃ x, xs = [.str x] ∧ x.length = 1 ∧ Q (.int (x.cps.getD 0 0 : Nat)) H) := by
  intro pins s σ H xs us Q I r h
  obtain ⟨x, rfl, hz, q⟩ := h
  obtain ⟨u, rfl, t, rfl⟩ := vals1 r
  exact ord_of_one hz ⟨.int _, H, I.tok _, ⟨_, rfl⟩, q⟩
theorem call_chr : CallR X (.builtin "chr") (fun xs H Q => ∃ i, xs = [.int i] ∧ 0 ≤ i ∧ i ≤ 1114111 ∧ Q (.str ⟨#[i.toNat]⟩) H) := by
  intro pins s σ H xs us Q I r h
  obtain ⟨i, rfl, h0, h1, q⟩ := h
  obtain ⟨u, rfl, t, rfl⟩ := vals1 r
  exact chr_of_range h0 h1 ⟨.str _, H, I.tok _, ⟨_, rfl⟩, q⟩
/-- len of a str, a bytes, a list, a tuple -/
def LenV (K : PySem.W.Frag) (x : V) (H : Hp) (n : Nat) : Prop :=
  match x with
  | .str y => y.length ≤ sizeLine ∧ n = y.length
  | .byt y => y.size ≤ sizeLine ∧ n = y.size
  | .ref p => (∃ xs, SqL K H p xs ∧ n = xs.length) ∨ ∃ xs, SqT K H p xs ∧ n = xs.length
  | _ => False
theorem call_len : CallR X (.builtin "len") (fun xs H Q => ∃ x n, xs = [x] ∧ LenV X.K x H n ∧ Q (.int n) H) := by
  intro pins s σ H xs us Q I r h
  obtain ⟨x, n, rfl, e, q⟩ := h
  obtain ⟨u, rfl, rx⟩ := vals1 r
  have hl := line63
  have hs : sizeLine = 16777216 := sizeLine_eq
  cases x with
  | str y =>
    obtain ⟨t, rfl⟩ := rx
    obtain ⟨hy, e'⟩ : y.length ≤ sizeLine ∧ n = y.length := e
    subst e'
    exact len_str (by omega) ⟨.int _, H, I.tok _, ⟨_, rfl⟩, q⟩
  | byt y =>
    obtain ⟨t, rfl⟩ := rx
    obtain ⟨hy, e'⟩ : y.size ≤ sizeLine ∧ n = y.size := e
    subst e'
    exact PySem.W.len_bytes (by omega) ⟨.int _, H, I.tok _, ⟨_, rfl⟩, q⟩
  | ref p =>
    cases rx
    have e' : (∃ xs, SqL X.K H p xs ∧ n = xs.length) ∨ ∃ xs, SqT X.K H p xs ∧ n = xs.length := e
    rcases e' with ⟨xs, hx, e'⟩ | ⟨xs, hx, e'⟩
    · subst e'
      obtain ⟨its, r', pl, hz⟩ := I.list hx
      have hlen := r'.length
      exact Calls.call_len_list pl.isList (by simp only [List.size_toArray]; omega) ⟨.int xs.length, H, I.tok _, ⟨_, by simp only [List.size_toArray]; rw [hlen]⟩, q⟩
    · subst e'
      obtain ⟨its, r', pl, hz⟩ := I.tuple hx
      have hlen := r'.length
      exact len_tuple pl (by simp only [List.size_toArray]; omega) ⟨.int xs.length, H, I.tok _, ⟨_, by simp only [List.size_toArray]; rw [hlen]⟩, q⟩
  | _ => exact (show False from e).elim
/-- divmod: a new tuple -/
theorem call_divmod : CallR X (.builtin "divmod") (fun xs H Q => ∃ i j, xs = [.int i, .int j] ∧ CDiv i j ∧ ∀ p, H p = none → Q (.ref p) (upd H p (.tup [.int (i / j), .int (i % j)]))) := by
  intro pins s σ H xs us Q I r h
  obtain ⟨i, j, rfl, ⟨h1, h2⟩, q⟩ := h
  obtain ⟨u, w', rfl, ⟨t, rfl⟩, ⟨t', rfl⟩⟩ := vals2 r
  refine divmod_int (by omega) ?_ (.inl (PyProof.noPylong_small (by omega)))
  rw [Int.fdiv_eq_ediv_of_nonneg i (by omega), Int.fmod_eq_emod_of_nonneg i (by omega)]
  have hn : H s.heap.objs.size = none := I.hok.fresh (Nat.le_refl _)
  refine ⟨.ref s.heap.objs.size, _, ?_, rfl, q _ hn⟩
  refine I.laid (fun b o e => Heap.get?_push_of_some _ e) (Nat.le_refl _) ⟨by simp only [List.length_cons, List.length_nil]; rw [sizeLine_eq]; decide, [.int (i / j) s.toks, .int (i % j) (s.toks + 1)], .cons ⟨_, rfl⟩ (.cons ⟨_, rfl⟩ .nil), ?_⟩
  exact ⟨_, Heap.get?_push_size s.heap rfl, rfl, 0, rfl⟩
end
end L2

namespace L2
open PySem PySem.Spec PyProof.Rows

/-! ### an instance, its attributes a map -/
structure ObjM (h : Heap) (x dx C : Addr) (mA : Str → Option Value) : Prop where
  obj : h.get? x = some (PySem.W.instObj C dx)
  ns : h.Ns1 dx mA
  ne : dx ≠ x

theorem lookIn_ns {h : Heap} {dx : Addr} {mA : Str → Option Value} (n : h.Ns1 dx mA) : ∃ od, h.get? dx = some od ∧ ∀ name, PySem.W.lookIn name od = some (mA name) := by
  obtain ⟨o, es, ep, ho, hd, hk, _, hm⟩ := n
  refine ⟨o, ho, fun name => ?_⟩
  have e := hm name
  unfold nsFind findBy at e
  rw [← Array.find?_toList] at e
  unfold PySem.W.lookIn
  rw [hd]
  dsimp only
  split
  · rename_i y q
    rw [q] at e
    exact congrArg some e
  · rename_i q
    rw [q] at e
    have a : es.toList.any (·.refKey) = false := by
      rw [List.any_eq_false]
      intro y hy
      obtain ⟨z, t, hkey⟩ := hk y (Array.mem_toList_iff.mp hy)
      simp [DictEntry.refKey, hkey]
    have a' : ¬ es.toList.any (·.refKey) = true := by rw [a]; exact Bool.false_ne_true
    rw [if_neg a']
    exact congrArg some e

theorem ObjM.look {h : Heap} {x dx C : Addr} {mA : Str → Option Value} (I : ObjM h x dx C mA) : ∃ od, PySem.W.InstAt h x (PySem.W.instObj C dx) C (some od) ∧ ∀ name, PySem.W.lookIn name od = some (mA name) :=
  let ⟨od, ho, hl⟩ := lookIn_ns I.ns
  ⟨od, ⟨I.obj, rfl, rfl, ho⟩, hl⟩

section
variable {prog : Program} {w : World} {A : Around} {E : Value → Shared → Prop} {s : Shared} {K : PySem.W.Frag} {x dx C f : Addr} {mA : Str → Option Value} {name : Str} {v : Value}

theorem get_map {expr : Bool} {Q : Value → Shared → Prop} (X : K.In s.heap) (I : ObjM s.heap x dx C mA) (hg : PySem.W.plainGet K C name = true) (hh : PySem.W.hasDictIn K C = true)
    (ha : PySem.W.findIn K (.ref C) name = some none) (hv : mA name = some v) (hv' : PySem.W.handedIn v = true) (h : Q v { s with toks := s.toks + 1 }) :
    wpAny (model prog w) A (getAttr (.ref x) name expr) Q E s := by
  obtain ⟨od, J, hl⟩ := I.look
  exact PySem.W.get_value X J (PySem.W.plainGet_of hg).1 (PySem.W.findObj_own hh ha rfl (by rw [hl, hv])) hv' h

theorem get_const {expr : Bool} {a : Value} {Q : Value → Shared → Prop} (X : K.In s.heap) (I : ObjM s.heap x dx C mA) (hg : PySem.W.plainGet K C name = true) (hh : PySem.W.hasDictIn K C = true)
    (ha : PySem.W.findIn K (.ref C) name = some (some a)) (hn : PySem.W.specialIn K a "__get__" = some none) (hc : PySem.W.copiedNames.contains name = false) (hv : mA name = none) (hv' : PySem.W.handedIn a = true)
    (h : Q a { s with toks := s.toks + 1 }) : wpAny (model prog w) A (getAttr (.ref x) name expr) Q E s := by
  obtain ⟨od, J, hl⟩ := I.look
  exact PySem.W.get_value X J (PySem.W.plainGet_of hg).1 (PySem.W.findObj_cls hh ha hn hv' hc (by rw [hl, hv])) hv' h

theorem get_meth {pl : Sem Bool} {Q : Value × List Value → Shared → Prop} (X : K.In s.heap) (I : ObjM s.heap x dx C mA) (hg : PySem.W.plainGet K C name = true)
    (hf : PySem.W.findIn K (.ref C) name = some (some (.ref f))) (ht : PySem.W.isFn K (.ref f) = true) (hv : mA name = none) (h : Q (.ref f, [.ref x]) s) :
    wpAny (model prog w) A (getMethod (.ref x) name pl) Q E s := by
  obtain ⟨od, J, hl⟩ := I.look
  exact PySem.W.method_fn X J (PySem.W.plainGet_of hg).1 (PySem.W.plainGet_of hg).2 hf (beq_iff_eq.mp ht) (by show (PySem.W.lookIn name od).map (·.isSome) = some false; rw [hl, hv]; rfl) h

theorem set_map {ns : List Str} {Q : Unit → Shared → Prop} (X : K.In s.heap) (I : ObjM s.heap x dx C mA)
    (hs : PySem.W.findIn K (.ref C) "__setattr__" = some (some (.builtin "object.__setattr__"))) (hp : PySem.W.plainOver K C = true) (ht : PySem.W.takerIn K C name = some none) (hh : PySem.W.hasDictIn K C = true)
    (hw : PySem.Within mA ns) (hsz : ns.length ≤ sizeLine)
    (h : ∀ h', ObjM h' x dx C (fun y => if y = name then some v else mA y) → Heap.SameBut dx s.heap h' → Q () { s with heap := h', toks := s.toks + 2 }) :
    wpAny (model prog w) A (setAttr (.ref x) name v) Q E s := by
  obtain ⟨od, J, hl⟩ := I.look
  refine PySem.W.set_plain X J hs (PySem.W.osa_open (s := { s with toks := s.toks + 1 }) (r := none) X J hp ht fun b => ?_)
  obtain ⟨cd, hc, hd'⟩ := PySem.W.any_some hh
  have hx : s.heap.get? x = some ⟨.ref C, some dx, .plain, #[]⟩ := I.obj
  refine wpAny_bind (wpAny_pure (wpAny_bind (wpAny_bind (wpAny_loadPart hx (wpAny_bind (PySem.W.Looks.here (s := { s with toks := s.toks + 1 }) (PySem.W.looks_clsIn X hc) ?_))))))
  rw [hd']
  refine wpAny_pure (a := some dx) (wpAny_bind (wpAny_pure (wpAny_bind ?_)))
  refine wpAny_nsSet1 (s := { s with toks := s.toks + 1 }) I.ns fun h' hn2 hs2 => ?_
  obtain ⟨oD, esD, epD, hoD, hdD, hcD⟩ := hn2.count (PySem.Within.cons name v hw)
  refine wpAny_bind (wpAny_lookBehind hoD (by rw [hdD]; exact pastItsLine_dict (Nat.le_trans hcD (by rw [List.length_cons]; omega))) ?_)
  exact wpAny_pure (h _ ⟨(hs2.2 _ (Ne.symm I.ne)).trans I.obj, hn2, I.ne⟩ hs2)

/-- C(..): the dict at the heap's end, the instance behind it; then its __init__ -/
theorem make_map {R : Result → Shared → Prop} {vs : List Value} {kw : List (Str × Value)} (X : K.In s.heap) (hm : PySem.W.makesIn K C = true)
    (hi : PySem.W.findIn K (.ref C) "__init__" = some (some (.ref f))) (hf : PySem.W.typeIn K (.ref f) = some (.type "function"))
    (h : codeAny (model prog w) (A.under (.builtin "type.__call__" ⟨.ref C :: vs, kw⟩)) (.call (.ref f) ⟨.ref (s.heap.objs.size + 1) :: vs, kw⟩) (PySem.W.InitBack (s.heap.objs.size + 1) R)
      { s with heap := (s.heap.push PySem.W.emptyDict).push (PySem.W.instObj C s.heap.objs.size) }) :
    codeAny (model prog w) A (.call (.ref C) ⟨vs, kw⟩) R s := by
  obtain ⟨hh, g, d, t, os⟩ := s
  exact PySem.W.make_core (PySem.W.makes_of X hm) (PySem.W.looks_findIn X hi) (fun self => PySem.W.bind_fn X self hf) (.inl rfl) h
/-- C() where there is no __init__ but object's -/
theorem make_map0 {R : Result → Shared → Prop} (X : K.In s.heap) (hm : PySem.W.makesIn K C = true)
    (hi : PySem.W.findIn K (.ref C) "__init__" = some (some (.builtin "object.__init__")))
    (hb : ∀ self, PySem.W.Looks (model prog w) s.heap (bindSpecial (.builtin "object.__init__") self) (.builtin "object.__init__", [self]))
    (h : codeAny (model prog w) (A.under (.builtin "type.__call__" ⟨[.ref C], []⟩)) (.call (.builtin "object.__init__") ⟨[.ref (s.heap.objs.size + 1)], []⟩) (PySem.W.InitBack (s.heap.objs.size + 1) R)
      { s with heap := (s.heap.push PySem.W.emptyDict).push (PySem.W.instObj C s.heap.objs.size) }) :
    codeAny (model prog w) A (.call (.ref C) ⟨[], []⟩) R s := by
  obtain ⟨hh, g, d, t, os⟩ := s
  exact PySem.W.make_core (PySem.W.makes_of X hm) (PySem.W.looks_findIn X hi) hb (.inr ⟨rfl, rfl⟩) h
end

/-! ### the attributes as a list of pairs -/
def putF (f : Str) (v : V) : List (Str × V) → List (Str × V)
  | [] => [(f, v)]
  | (g, x) :: r => if g = f then (g, v) :: r else (g, x) :: putF f v r
theorem lookup_putF (f g : Str) (v : V) : ∀ fs : List (Str × V), (putF f v fs).lookup g = if g = f then some v else fs.lookup g
  | [] => by
    show List.lookup g [(f, v)] = _
    by_cases h : g = f
    · have hb : (g == f) = true := beq_iff_eq.mpr h
      simp only [List.lookup, hb, if_pos h]
    · have hb : (g == f) = false := beq_eq_false_iff_ne.mpr h
      simp only [List.lookup, hb, if_neg h]
  | (k, x) :: r => by
    have ih := lookup_putF f g v r
    rw [show putF f v ((k, x) :: r) = (if k = f then (k, v) :: r else (k, x) :: putF f v r) from rfl]
    by_cases hk : k = f
    · rw [if_pos hk]
      by_cases h : g = k
      · have hb : (g == k) = true := beq_iff_eq.mpr h
        simp only [List.lookup, hb, if_pos (h.trans hk)]
      · have hb : (g == k) = false := beq_eq_false_iff_ne.mpr h
        simp only [List.lookup, hb, if_neg (fun e : g = f => h (e.trans hk.symm))]
    · rw [if_neg hk]
      by_cases h : g = k
      · have hb : (g == k) = true := beq_iff_eq.mpr h
        simp only [List.lookup, hb, if_neg (fun e : g = f => hk (h.symm.trans e))]
      · have hb : (g == k) = false := beq_eq_false_iff_ne.mpr h
        simp only [List.lookup, hb]
        exact ih
theorem keys_putF (f : Str) (v : V) : ∀ fs : List (Str × V), f ∈ (putF f v fs).map (·.1) ∧ ∀ g, g ∈ fs.map (·.1) → g ∈ (putF f v fs).map (·.1)
  | [] => ⟨by simp [putF], fun g h => by simp at h⟩
  | (k, x) :: r => by
    obtain ⟨i1, i2⟩ := keys_putF f v r
    rw [show putF f v ((k, x) :: r) = (if k = f then (k, v) :: r else (k, x) :: putF f v r) from rfl]
    by_cases hk : k = f
    · rw [if_pos hk]
      subst hk
      exact ⟨by simp, fun g h => by simpa using h⟩
    · rw [if_neg hk]
      refine ⟨?_, fun g h => ?_⟩
      · rw [List.map_cons]
        exact List.mem_cons_of_mem _ i1
      · rw [List.map_cons] at h ⊢
        rcases List.mem_cons.mp h with e | e
        · exact List.mem_cons.mpr (.inl e)
        · exact List.mem_cons_of_mem _ (i2 g e)
theorem length_putF (f : Str) (v : V) : ∀ fs : List (Str × V), (putF f v fs).length ≤ fs.length + 1
  | [] => by simp [putF]
  | (k, x) :: r => by
    have ih := length_putF f v r
    rw [show putF f v ((k, x) :: r) = (if k = f then (k, v) :: r else (k, x) :: putF f v r) from rfl]
    by_cases hk : k = f
    · rw [if_pos hk, List.length_cons, List.length_cons]; omega
    · rw [if_neg hk, List.length_cons, List.length_cons]; omega

theorem RelO.some_of {v : V} {o : Option Value} (r : RelO (some v) o) : ∃ u, o = some u ∧ RelV v u := by
  cases o with
  | none => exact (show False from r).elim
  | some u => exact ⟨u, rfl, r⟩
theorem RelO.none_of {o : Option Value} (r : RelO none o) : o = none := by
  cases o with
  | none => rfl
  | some u => exact (show False from r).elim
theorem handed_of {v : V} {u : Value} (r : RelV v u) : PySem.W.handedIn u = true := by
  cases v with
  | non => cases (show u = Value.none from r); rfl
  | bl b => cases (show u = Value.bool b from r); rfl
  | int i => obtain ⟨t, e⟩ := (show ∃ t, u = Value.int i t from r); cases e; rfl
  | str x => obtain ⟨t, e⟩ := (show ∃ t, u = Value.str x t from r); cases e; rfl
  | byt b => obtain ⟨t, e⟩ := (show ∃ t, u = Value.bytes b t from r); cases e; rfl
  | flt b => obtain ⟨t, e⟩ := (show ∃ t, u = Value.float b t from r); cases e; rfl
  | ref a => cases (show u = Value.ref a from r); rfl
  | ty n => cases (show u = Value.type n from r); rfl

section
variable {P : Program} {w : World} {H H' : Hp} {h h' : Heap} {a C dx : Addr} {fs fs' : List (Str × V)}
theorem ins_get (hok : HOk P w H h) (e : H a = some (.ins C dx fs)) : ∃ mA, ObjM h a dx C mA ∧ (∀ f, RelO (fs.lookup f) (mA f)) ∧ PySem.Within mA (fs.map (·.1)) ∧ fs.length ≤ 1000 ∧ H dx = some (.own a) := by
  obtain ⟨d, z, ne, ob, mA, n, r, q⟩ := (show ObjOk P w H h a (.ins C dx fs) from hok a _ e)
  exact ⟨mA, ⟨ob, n, ne⟩, r, q, z, d⟩
end

/-! ### what of the text a class must have -/
structure Cls (K : PySem.W.Frag) (C : Addr) : Prop where
  pg : PySem.W.plainGet K C Str.empty = true
  hd : PySem.W.hasDictIn K C = true
  po : PySem.W.plainOver K C = true
  sa : PySem.W.findIn K (.ref C) "__setattr__" = some (some (.builtin "object.__setattr__"))
theorem Cls.get {K : PySem.W.Frag} {C : Addr} (c : Cls K C) (f : Str) : PySem.W.plainGet K C f = true := c.pg
/-- no class of it has the name -/
def NoAttr (K : PySem.W.Frag) (C : Addr) (f : Str) : Prop := PySem.W.findIn K (.ref C) f = some none
theorem NoAttr.taker {K : PySem.W.Frag} {C : Addr} {f : Str} (n : NoAttr K C f) : PySem.W.takerIn K C f = some none := by
  unfold PySem.W.takerIn
  rw [show PySem.W.findIn K (.ref C) f = some none from n]
  rfl
/-- a constant of the class -/
structure Con (K : PySem.W.Frag) (C : Addr) (f : Str) (v : V) (u : Value) : Prop where
  at_ : PySem.W.findIn K (.ref C) f = some (some u)
  rel : RelV v u
  get : PySem.W.specialIn K u "__get__" = some none
  cp : PySem.W.copiedNames.contains f = false
/-- a method: a plain def of the class or of one above it -/
structure Meth (K : PySem.W.Frag) (C : Addr) (m : Str) (f : Addr) : Prop where
  at_ : PySem.W.findIn K (.ref C) m = some (some (.ref f))
  fn : PySem.W.isFn K (.ref f) = true
  kp : PySem.W.keepIn K (.ref f) = true

section
variable {X : Cx} {pins : List (Addr × Obj)} {σ : St} {H : Hp} {s : Shared} {a C dx : Addr} {fs : List (Str × V)} {f : Str} {v : V} {A : Around} {E : Value → Shared → Prop}

theorem getattr_ok {b : Bool} {Q : Value → Shared → Prop} (I : Inv X pins σ H s) (e : H a = some (.ins C dx fs)) (c : Cls X.K C) (n : NoAttr X.K C f) (l : fs.lookup f = some v)
    (h : ∀ u s', Inv X pins σ H s' → RelV v u → Q u s') : wpAny (model X.prog X.w) A (getAttr (.ref a) f b) Q E s := by
  obtain ⟨mA, O, r, _, _, _⟩ := ins_get I.hok e
  obtain ⟨u, hu, ru⟩ := RelO.some_of (v := v) (o := mA f) (by rw [← l]; exact r f)
  exact get_map I.kIn O (c.get f) c.hd n hu (handed_of ru) (h u _ (I.tok _) ru)

theorem getcon_ok {b : Bool} {u : Value} {Q : Value → Shared → Prop} (I : Inv X pins σ H s) (e : H a = some (.ins C dx fs)) (c : Cls X.K C) (k : Con X.K C f v u) (l : fs.lookup f = none)
    (h : ∀ s', Inv X pins σ H s' → Q u s') : wpAny (model X.prog X.w) A (getAttr (.ref a) f b) Q E s := by
  obtain ⟨mA, O, r, _, _, _⟩ := ins_get I.hok e
  have hn : mA f = none := RelO.none_of (by rw [← l]; exact r f)
  exact get_const I.kIn O (c.get f) c.hd k.at_ k.get k.cp hn (handed_of k.rel) (h _ (I.tok _))

theorem getmeth_ok {m : Str} {g : Addr} {pl : Sem Bool} {Q : Value × List Value → Shared → Prop} (I : Inv X pins σ H s) (e : H a = some (.ins C dx fs)) (c : Cls X.K C) (k : Meth X.K C m g) (l : fs.lookup m = none)
    (h : Q (.ref g, [.ref a]) s) : wpAny (model X.prog X.w) A (getMethod (.ref a) m pl) Q E s := by
  obtain ⟨mA, O, r, _, _, _⟩ := ins_get I.hok e
  have hn : mA m = none := RelO.none_of (by rw [← l]; exact r m)
  exact get_meth I.kIn O (c.get m) k.at_ k.fn hn h

theorem setattr_ok {y : V} {u : Value} {Q : Unit → Shared → Prop} (I : Inv X pins σ H s) (e : H a = some (.ins C dx fs)) (c : Cls X.K C) (n : NoAttr X.K C f) (hl : fs.length < 1000) (ry : RelV y u)
    (h : ∀ s', Inv X pins σ (upd H a (.ins C dx (putF f y fs))) s' → Q () s') : wpAny (model X.prog X.w) A (setAttr (.ref a) f u) Q E s := by
  obtain ⟨mA, O, r, wi, _, ho⟩ := ins_get I.hok e
  have hz : (fs.map (·.1)).length ≤ sizeLine := by rw [List.length_map, sizeLine_eq]; omega
  refine set_map I.kIn O c.sa c.po n.taker c.hd wi hz fun h' O' sb => h _ ?_
  have hd : ∃ o, h'.get? dx = some o := let ⟨o, _, _, e', _⟩ := O'.ns; ⟨o, e'⟩
  refine I.write (x := a) (e := dx) (by rw [e]; exact True.intro) (.inr ho) (fun b q hb z => (sb.2 b hb).trans z) hd ?_
  refine ⟨by rw [upd_ne O.ne]; exact ho, ?_, O.ne, O'.obj, _, O'.ns, fun g => ?_, fun g hg => ?_⟩
  · have := length_putF f y fs; omega
  · show RelO ((putF f y fs).lookup g) (if g = f then some u else mA g)
    rw [lookup_putF]
    by_cases q : g = f
    · rw [if_pos q, if_pos q]; exact ry
    · rw [if_neg q, if_neg q]; exact r g
  · by_cases q : g = f
    · rw [q]; exact (keys_putF f y fs).1
    · refine (keys_putF f y fs).2 g (wi g fun z => hg ?_)
      show (if g = f then some u else mA g) = none
      rw [if_neg q]; exact z

/-- a new instance, tracked, without attributes -/
theorem Inv.made (I : Inv X pins σ H s) : Inv X pins σ (upd (upd H s.heap.objs.size (.own (s.heap.objs.size + 1))) (s.heap.objs.size + 1) (.ins C s.heap.objs.size []))
    { s with heap := (s.heap.push PySem.W.emptyDict).push (PySem.W.instObj C s.heap.objs.size) } := by
  have e1 : (s.heap.push PySem.W.emptyDict).get? s.heap.objs.size = some PySem.W.emptyDict := Heap.get?_push_size s.heap rfl
  have e2 : ((s.heap.push PySem.W.emptyDict).push (PySem.W.instObj C s.heap.objs.size)).get? (s.heap.objs.size + 1) = some (PySem.W.instObj C s.heap.objs.size) := by
    have := Heap.get?_push_size (s.heap.push PySem.W.emptyDict) (o := PySem.W.instObj C s.heap.objs.size) rfl
    rwa [Heap.size_push] at this
  have e3 : (s.heap.push PySem.W.emptyDict).Ns s.heap.objs.size (fun _ => none) := ⟨PySem.W.emptyDict, #[], _, e1, rfl, (fun e he => absurd he (by simp)), fun _ => rfl⟩
  have I1 := I.laid (a := s.heap.objs.size) (o := .own (s.heap.objs.size + 1)) (h' := s.heap.push PySem.W.emptyDict) (t' := s.toks) (fun b u q => Heap.get?_push_of_some _ q) (Nat.le_refl _) ⟨_, e1⟩
  refine I1.laid (a := s.heap.objs.size + 1) (o := .ins C s.heap.objs.size []) (t' := s.toks) (fun b u q => Heap.get?_push_of_some _ q) (Nat.le_of_eq (Heap.size_push _ _)) ?_
  have ne : s.heap.objs.size ≠ s.heap.objs.size + 1 := Nat.ne_of_lt (Nat.lt_succ_self _)
  refine ⟨by rw [upd_ne ne, upd_same], Nat.zero_le _, ne, e2, fun _ => none, (Heap.Ns1.of_empty e3).at fun o q => Heap.get?_push_of_some _ q, fun _ => True.intro, fun y hy => absurd rfl hy⟩

/-- e.f where nothing but the object is asked: through attributeBase (super) and the last hold -/
theorem attr_of {prog : Program} {w : World} {env : Env} {e : Expr} {f : Str} {pos : Pos} {s : Shared} {Q : Value → Shared → Prop} (hb : attributeBase e f env (eval e env) = eval e env)
    (h : wpAny (model prog w) A (eval e env) (fun o s₁ => wpAny (model prog w) A (getAttr o f true) Q E s₁) E s) : wpAny (model prog w) A (eval (.Attribute e f pos) env) Q E s :=
  Attribute_any_ h (by rw [arm_eval_Attribute, hb])
end

/-! ### readings and rules -/
/-- e.f, an attribute of the instance -/
def tFld (K : PySem.W.Frag) (ta : TE) (f : Str) : TE := fun σ H Q => ta σ H fun x H1 => ∃ a C dx fs v, x = .ref a ∧ H1 a = some (.ins C dx fs) ∧ Cls K C ∧ NoAttr K C f ∧ fs.lookup f = some v ∧ Q v H1
/-- e.f, a constant of the class -/
def tCon (K : PySem.W.Frag) (ta : TE) (f : Str) : TE := fun σ H Q => ta σ H fun x H1 => ∃ a C dx fs v u, x = .ref a ∧ H1 a = some (.ins C dx fs) ∧ Cls K C ∧ Con K C f v u ∧ fs.lookup f = none ∧ Q v H1
/-- e.f = value -/
def sFld (K : PySem.W.Frag) (ta tv : TE) (f : Str) : TS := fun D σ H => tv σ H fun y H1 => ta σ H1 fun x H2 => ∃ a C dx fs, x = .ref a ∧ H2 a = some (.ins C dx fs) ∧ Cls K C ∧ NoAttr K C f ∧ fs.length < 1000 ∧
  D.nx σ (upd H2 a (.ins C dx (putF f y fs)))
/-- an augmented operator on two values -/
def InOp (X : Cx) (op : Operator) (rd : V → V → Hp → VK → Prop) : Prop :=
  ∀ (pins : List (Addr × Obj)) (s : Shared) (σ : St) (H : Hp) (x y : V) (u v : Value) (Q : VK), Inv X pins σ H s → RelV x u → RelV y v → rd x y H Q → wpAny (model X.prog X.w) X.A (inplaceOp op u v) (EP X pins σ Q) X.xe s
/-- e.f op= value -/
def sFldAug (K : PySem.W.Frag) (ta tv : TE) (rd : V → V → Hp → VK → Prop) (f : Str) : TS := fun D σ H => ta σ H fun x H1 => ∃ a C dx fs v, x = .ref a ∧ H1 a = some (.ins C dx fs) ∧ Cls K C ∧ NoAttr K C f ∧ fs.lookup f = some v ∧
  tv σ H1 fun y H2 => rd v y H2 fun z H3 => ∃ dx' fs', H3 a = some (.ins C dx' fs') ∧ fs'.length < 1000 ∧ D.nx σ (upd H3 a (.ins C dx' (putF f z fs')))

section
variable {X : Cx} {o e value : Expr} {f : Str} {pos pos' tpos : Pos} {ta tv : TE}
theorem pe_fld (he : PE X e ta) (hb : attributeBase e f X.env (eval e X.env) = eval e X.env) : PE X (.Attribute e f pos) (tFld X.K ta f) := by
  intro pins s σ H Q I h
  refine attr_of hb (thn (he pins s σ H _ I h) fun u s1 ⟨x, H1, I1, rx, a, C, dx, fs, v, ex, ea, c, n, l, q⟩ => ?_)
  subst ex
  obtain rfl : u = Value.ref a := rx
  exact getattr_ok I1 ea c n l fun u' s2 I2 ru => ⟨v, H1, I2, ru, q⟩
theorem pe_con (he : PE X e ta) (hb : attributeBase e f X.env (eval e X.env) = eval e X.env) : PE X (.Attribute e f pos) (tCon X.K ta f) := by
  intro pins s σ H Q I h
  refine attr_of hb (thn (he pins s σ H _ I h) fun u s1 ⟨x, H1, I1, rx, a, C, dx, fs, v, u0, ex, ea, c, k, l, q⟩ => ?_)
  subst ex
  obtain rfl : u = Value.ref a := rx
  exact getcon_ok I1 ea c k l fun s2 I2 => ⟨v, H1, I2, k.rel, q⟩
theorem ps_fld (ha : PE X o ta) (hv : PE X value tv) (hs : swapsWith value (some (.Attribute o f pos')) pos.line X.env = pure false) : PS X (.Assign [.Attribute o f pos'] value pos) (sFld X.K ta tv f) := by
  intro pins s σ H D I h
  refine plainObj_wpAny_Assign_Attribute (thn (hv pins s σ H _ I h) fun u s1 ⟨y, H1, I1, ry, q⟩ => thn (ha pins s1 σ H1 _ I1 q) fun ov s2 ⟨x, H2, I2, rx, a, C, dx, fs, ex, ea, c, n, l, q2⟩ => ?_) hs
  subst ex
  obtain rfl : ov = Value.ref a := rx
  exact setattr_ok I2 ea c n l ry fun s3 I3 => ⟨σ, _, I3, q2⟩
theorem ps_fldaug {op : Operator} {rd : V → V → Hp → VK → Prop} (ha : PE X o ta) (hv : PE X value tv) (hop : InOp X op rd) : PS X (.AugAssign (.Attribute o f tpos) op value pos) (sFldAug X.K ta tv rd f) := by
  intro pins s σ H D I h
  refine wpAny_AugAssign_AttributeAny (thn (ha pins s σ H _ I h) fun ov s1 ⟨x, H1, I1, rx, a, C, dx, fs, v, ex, ea, c, n, l, q⟩ => ?_)
  subst ex
  obtain rfl : ov = Value.ref a := rx
  refine getattr_ok I1 ea c n l fun u s2 I2 ru => thn (hv pins s2 σ H1 _ I2 q) fun w3 s3 ⟨y, H2, I3, ry, q3⟩ => thn (hop pins s3 σ H2 v y u w3 _ I3 ru ry q3) fun w4 s4 ⟨z, H3, I4, rz, dx', fs', ea', l', q4⟩ => ?_
  exact setattr_ok I4 ea' c n l' rz fun s5 I5 => ⟨σ, _, I5, q4⟩
def rAdd : V → V → Hp → VK → Prop := fun x y H Q => ∃ i j, x = .int i ∧ y = .int j ∧ Q (.int (i + j)) H
def rSub : V → V → Hp → VK → Prop := fun x y H Q => ∃ i j, x = .int i ∧ y = .int j ∧ Q (.int (i - j)) H
theorem in_add : InOp X .Add rAdd := by
  rintro pins s σ H x y u v Q I rx ry ⟨i, j, rfl, rfl, q⟩
  obtain ⟨t, rfl⟩ := (show ∃ t, u = Value.int i t from rx)
  obtain ⟨t', rfl⟩ := (show ∃ t', v = Value.int j t' from ry)
  exact PyProof.Rows.iadd_int ⟨.int (i + j), H, I.tok _, ⟨_, rfl⟩, q⟩
theorem in_sub : InOp X .Sub rSub := by
  rintro pins s σ H x y u v Q I rx ry ⟨i, j, rfl, rfl, q⟩
  obtain ⟨t, rfl⟩ := (show ∃ t, u = Value.int i t from rx)
  obtain ⟨t', rfl⟩ := (show ∃ t', v = Value.int j t' from ry)
  exact PyProof.Rows.isub_int ⟨.int (i - j), H, I.tok _, ⟨_, rfl⟩, q⟩

/-- what is between an instance and its method: the tree of a method call -/
theorem methcall_of {pl : Sem Bool} {m : Str} {apos : Pos} {args : List Expr} {pins : List (Addr × Obj)} {s : Shared} {σ : St} {H : Hp} {Q : Value → Shared → Prop} {te : TE} (he : PE X e te) (I : Inv X pins σ H s)
    (h : te σ H fun x H1 => ∃ a C dx fs g, x = .ref a ∧ H1 a = some (.ins C dx fs) ∧ Cls X.K C ∧ Meth X.K C m g ∧ fs.lookup m = none ∧
      ∀ s1, Inv X pins σ H1 s1 → wpAny (model X.prog X.w) X.A (callWith pos (.ref g) [.ref a] (backTo pos (starEach args X.env)) (backToKw pos (keywordEach [] X.env))) Q X.xe s1)
    (ht : eval (.Call (.Attribute e m apos) args [] pos) X.env = (do
      let ov ← eval e X.env
      standAt apos.atName
      let (f, first) ← holding [ov] (getMethod ov m pl)
      callWith pos f first (backTo pos (starEach args X.env)) (backToKw pos (keywordEach [] X.env)))) :
    wpAny (model X.prog X.w) X.A (eval (.Call (.Attribute e m apos) args [] pos) X.env) Q X.xe s := by
  refine PySem.W.methodCall_KW (pl := pl) (thn (he pins s σ H _ I h) fun u s1 ⟨x, H1, I1, rx, a, C, dx, fs, g, ex, ea, c, k, l, q⟩ => ?_) ht
  subst ex
  obtain rfl : u = Value.ref a := rx
  exact getmeth_ok I1 ea c k l (q s1 I1)
end

/-! ### isinstance -/
section
variable {X : Cx} {pins : List (Addr × Obj)} {σ : St} {H : Hp} {s : Shared} {A : Around} {E : Value → Shared → Prop} {Q : Value → Shared → Prop} {c : Value} {b : Bool}
/-- the type of a value, as the fragment's deciders take it; for an instance its class -/
inductive TyOf (K : PySem.W.Frag) (H : Hp) : V → Value → Prop where
  | non : TyOf K H .non (.type "NoneType")
  | bl (x : Bool) : TyOf K H (.bl x) (.type "bool")
  | int (i : Int) : TyOf K H (.int i) (.type "int")
  | str (x : Str) : TyOf K H (.str x) (.type "str")
  | flt (x : UInt64) : TyOf K H (.flt x) (.type "float")
  | lst {a : Addr} {xs : List V} (e : H a = some (.lst xs)) : TyOf K H (.ref a) (.type "list")
  | frz {a : Addr} {o : Obj} {xs : List V} (e : H a = some (.frz o (.lst xs))) : TyOf K H (.ref a) (.type "list")
  | tup {a : Addr} {xs : List V} (e : H a = some (.tup xs)) : TyOf K H (.ref a) (.type "tuple")
  | dK {a : Addr} {kvs : List (Key × V)} (e : H a = some (.dK kvs)) : TyOf K H (.ref a) (.type "dict")
  | dT {a : Addr} {kvs : List (List Key × V)} (e : H a = some (.dT kvs)) : TyOf K H (.ref a) (.type "dict")
  | ins {a C dx : Addr} {fs : List (Str × V)} (e : H a = some (.ins C dx fs)) (cl : Cls K C) (ha : PySem.W.findIn K (.ref C) "__class__" = some (some (.builtin "object.__class__")))
      (hn : PySem.W.specialIn K (.builtin "object.__class__") "__get__" = some (some (.builtin "getset_descriptor.__get__"))) (htk : PySem.W.takesIn K (.builtin "object.__class__") = some true)
      (hm : PySem.W.mroIn K C (.type "object") = some true) : TyOf K H (.ref a) (.ref C)
/-- isinstance(x, c) for one class c, a built-in or an own one: kitOne's answer -/
theorem isinst_ok {x : V} {u t : Value} (I : Inv X pins σ H s) (rx : RelV x u) (ty : TyOf X.K H x t) (e : PySem.W.kitOne X.K t c = some b) (h : ∀ tk, Q (.bool b) { s with toks := tk }) :
    wpAny (model X.prog X.w) A (call (.builtin "isinstance") [u, c]) Q E s := by
  cases ty with
  | non => cases (show u = Value.none from rx); exact PySem.W.kia_one PySem.W.kitx_none I.kIn True.intro e (fun z => nomatch z) h
  | bl y => cases (show u = Value.bool y from rx); exact PySem.W.kia_one PySem.W.kitx_bool I.kIn True.intro e (fun z => nomatch z) h
  | int i => obtain ⟨t, q⟩ := (show ∃ t, u = Value.int i t from rx); cases q; exact PySem.W.kia_one PySem.W.kitx_int I.kIn True.intro e (fun z => nomatch z) h
  | str y => obtain ⟨t, q⟩ := (show ∃ t, u = Value.str y t from rx); cases q; exact PySem.W.kia_one PySem.W.kitx_str I.kIn True.intro e (fun z => nomatch z) h
  | flt y => obtain ⟨t, q⟩ := (show ∃ t, u = Value.float y t from rx); cases q; exact PySem.W.kia_one PySem.W.kitx_float I.kIn True.intro e (fun z => nomatch z) h
  | @lst a xs ea =>
    cases (show u = Value.ref a from rx)
    obtain ⟨_, _, n, _, h1⟩ := (show ObjOk X.prog X.w H s.heap a (.lst xs) from I.hok a _ ea)
    exact PySem.W.kia_one PySem.W.kitx_list I.kIn ⟨_, h1, rfl⟩ e (fun z => nomatch z) h
  | @frz a ob xs ea =>
    cases (show u = Value.ref a from rx)
    obtain ⟨_, _, _, n, _, h1⟩ := (show ObjOk X.prog X.w H s.heap a (.frz ob (.lst xs)) from I.hok a _ ea)
    exact PySem.W.kia_one PySem.W.kitx_list I.kIn ⟨_, h1, rfl⟩ e (fun z => nomatch z) h
  | @tup a xs ea =>
    cases (show u = Value.ref a from rx)
    obtain ⟨_, _, _, p⟩ := (show ObjOk X.prog X.w H s.heap a (.tup xs) from I.hok a _ ea)
    obtain ⟨o, h1, h2, _⟩ := p
    exact PySem.W.kia_one PySem.W.kitx_tuple I.kIn ⟨o, h1, h2⟩ e (fun z => nomatch z) h
  | @dK a kvs ea =>
    cases (show u = Value.ref a from rx)
    obtain ⟨_, _, vs, _, p⟩ := (show ObjOk X.prog X.w H s.heap a (.dK kvs) from I.hok a _ ea)
    obtain ⟨o, es, ep, h1, h2, _⟩ := p
    exact PySem.W.kia_one PySem.W.kitx_dict I.kIn ⟨o, h1, h2.1⟩ e (fun z => nomatch z) h
  | @dT a kvs ea =>
    cases (show u = Value.ref a from rx)
    obtain ⟨_, _, xs, _, o, es, ep, h1, h2, _⟩ := (show ObjOk X.prog X.w H s.heap a (.dT kvs) from I.hok a _ ea)
    exact PySem.W.kia_one PySem.W.kitx_dict I.kIn ⟨o, h1, h2.1⟩ e (fun z => nomatch z) h
  | @ins a C dx fs ea cl ha hn htk hm =>
    cases (show u = Value.ref a from rx)
    obtain ⟨mA, O, _⟩ := ins_get I.hok ea
    obtain ⟨od, J, _⟩ := O.look
    exact PySem.W.kia_one (PySem.W.kitx_own (cl.get _) cl.hd ha hn htk hm) I.kIn J e (fun z => nomatch z) h
end
end L2

namespace L2
open PySem PySem.Spec PyProof.Rows

/-! ### room -/
structure Room (k : Nat) (A : Around) : Prop where
  hd : A.handled = none
  dp : A.depth + 3 * k + 5 < recursionLimit
  un : A.units + 16 * k + 200 < cLine
theorem Room.mono {j k : Nat} {A : Around} (r : Room k A) (h : j ≤ k) : Room j A := ⟨r.hd, by have := r.dp; omega, by have := r.un; omega⟩
theorem Room.deeper {k : Nat} {A : Around} (r : Room (k + 1) A) (env : Env) : Room k (A.deeper env) :=
  ⟨r.hd, by have := r.dp; show A.depth + 1 + 3 * k + 5 < _; omega, by have := r.un; show A.units + 3 + 16 * k + 200 < _; omega⟩
theorem Room.in1 {k : Nat} {A : Around} (r : Room (k + 1) A) : Room k A.in1 :=
  ⟨r.hd, by have := r.dp; show A.depth + 3 * k + 5 < _; omega, by have := r.un; show A.units + 1 + 16 * k + 200 < _; omega⟩
theorem make_depth {A : Around} {C : Addr} {us : List Value} {kw : List (Str × Value)} : (A.under (.builtin "type.__call__" ⟨.ref C :: us, kw⟩)).depth = A.depth + 1 := by
  first | rfl | simp [Around.under, Code.weight, Code.isCreation, Code.isGuard, Code.isCaller, Code.frames, Code.isFrame, guardIds]
theorem make_units {A : Around} {C : Addr} {us : List Value} {kw : List (Str × Value)} : (A.under (.builtin "type.__call__" ⟨.ref C :: us, kw⟩)).units = A.units + 1 := by
  first | rfl | simp [Around.under, Code.cUnits, Code.frames, Code.isFrame]
theorem Room.make {k : Nat} {A : Around} (r : Room (k + 1) A) (C : Addr) (us : List Value) (kw : List (Str × Value)) : Room k (A.under (.builtin "type.__call__" ⟨.ref C :: us, kw⟩)) :=
  ⟨r.hd, by have := r.dp; rw [make_depth]; omega, by have := r.un; rw [make_units]; omega⟩
theorem Room.depth {k : Nat} {A : Around} (r : Room k A) : A.depth < recursionLimit := by have := r.dp; omega
theorem Room.units {k : Nat} {A : Around} (r : Room k A) : A.units + 64 < cLine := by have := r.un; omega
theorem Room.units0 {k : Nat} {A : Around} (r : Room k A) : A.units < cLine := by have := r.un; omega

/-! ### argument lists and displays -/
def tNil : TA := fun _ H Q => Q [] H
def tCons (ta : TE) (tr : TA) : TA := fun σ H Q => ta σ H fun x H1 => tr σ H1 fun xs H2 => Q (x :: xs) H2
section
variable {X : Cx} {e : Expr} {es : List Expr} {te : TE} {t : TA} {pos : Pos}
theorem pa_nil : PA X [] tNil := fun _ _ _ _ H Q I h => Calls.spliced_nil ⟨[], H, I, .nil, h⟩
theorem pa_cons (ha : PE X e te) (hr : PA X es t) (hs : starEach (e :: es) X.env = (false, eval e X.env) :: starEach es X.env := by rfl) : PA X (e :: es) (tCons te t) := by
  intro pos pins s σ H Q I h
  rw [hs]
  show wpAny _ _ (spliced ((false, eval e X.env) :: backTo pos (starEach es X.env))) _ _ s
  refine Calls.spliced_cons (thn (ha pins s σ H _ I h) fun u s1 ⟨x, H1, I1, r1, q1⟩ => ?_)
  exact thn (hr pos pins s1 σ H1 _ I1 q1) fun us s2 ⟨xs, H2, I2, r2, q2⟩ => ⟨x :: xs, H2, I2, .cons r1 r2, q2⟩

/-- a tuple, a list of written items -/
def tTup (t : TA) : TE := fun σ H Q => t σ H fun xs H1 => xs.length ≤ sizeLine ∧ ∀ p, H1 p = none → Q (.ref p) (upd H1 p (.tup xs))
def tLst (t : TA) : TE := fun σ H Q => t σ H fun xs H1 => xs.length ≤ sizeLine ∧ ∀ p, H1 p = none → Q (.ref p) (upd H1 p (.lst xs))
theorem pe_tup {x1} (h : PA X es t) : PE X (.Tuple es x1 pos) (tTup t) := by
  intro pins s σ H Q I hq
  refine wpAny_Tuple_spliced (thn (h pos pins s σ H _ I hq) fun us s1 ⟨xs, H1, I1, r, z, q⟩ => ⟨by rw [← r.length]; exact z, ?_⟩)
  have hf : H1 s1.heap.objs.size = none := I1.hok.fresh (Nat.le_refl _)
  refine ⟨.ref s1.heap.objs.size, upd H1 s1.heap.objs.size (.tup xs), I1.laid (t' := s1.toks) (fun b u e => Heap.get?_push_of_some _ e) (Nat.le_refl _) ?_, rfl, q _ hf⟩
  exact ⟨z, us, r, ⟨_, Heap.get?_push_size _ rfl, rfl, _, rfl⟩⟩
theorem pe_lst (h : PA X es t) : PE X (.List es pos) (tLst t) := by
  intro pins s σ H Q I hq
  refine wpAny_List_spliced (thn (h pos pins s σ H _ I hq) fun us s1 ⟨xs, H1, I1, r, z, q⟩ => ⟨by rw [← r.length]; exact z, ?_⟩)
  have hf : H1 s1.heap.objs.size = none := I1.hok.fresh (Nat.le_refl _)
  refine ⟨.ref s1.heap.objs.size, upd H1 s1.heap.objs.size (.lst xs), I1.laid (t' := s1.toks) (fun b u e => Heap.get?_push_of_some _ e) (Nat.le_refl _) ?_, rfl, q _ hf⟩
  exact ⟨z, us, 0, r, Heap.get?_push_size _ rfl⟩
end

/-! ### what a def promises -/
/-- a def's promise: the bound arguments in the parameters' order, the heap, the wanted end, the wanted exception -/
abbrev Sp := List V → Hp → VK → XK → Prop
/-- how an exception lies behind a call (file 08 gives it): the callers' frames, abstract heap and state ahead of the call, the wish, the exception, the state -/
abbrev CXT := List Env → Hp → Shared → XK → Value → Shared → Prop

/-- the state at a call -/
structure Env0 (P : Program) (w : World) (K : PySem.W.Frag) (mg : Str → Option Value) (base : Heap) (A : Around) (outer : List Env) (s : Shared) (H : Hp) : Prop where
  frames : A.frames = some outer
  mod : Mod K mg base
  bs : ∀ b o, base.get? b = some o → s.heap.get? b = some o ∧ H b = none
  bsz : base.objs.size ≤ s.heap.objs.size
  funs : s.heap.FunFrames base outer
  frf : ∀ b ∈ frs outer, H b = none
  hok : HOk P w H s.heap
  bare : AllBare s.gens
/-- a call's end -/
def CE (outer : List Env) (P : Program) (w : World) (H : Hp) (s : Shared) (Q : VK) (u : Value) (s' : Shared) : Prop :=
  ∃ v H', s'.os = s.os ∧ AllBare s'.gens ∧ Un (frs outer) [] H H' s.heap s'.heap ∧ HOk P w H' s'.heap ∧ RelV v u ∧ Q v H'
def CR (CX : CXT) (outer : List Env) (P : Program) (w : World) (H : Hp) (s : Shared) (Q : VK) (E : XK) (r : Result) (s' : Shared) : Prop :=
  match r with
  | .ok (.ret u) => CE outer P w H s Q u s'
  | .ok _ => False
  | .error e => CX outer H s E e s'
structure FnOk (P : Program) (w : World) (K : PySem.W.Frag) (mg : Str → Option Value) (base : Heap) (CX : CXT) (k : Nat) (f : Addr) (fd : FuncData) (ps : List Str) (sp : Sp) : Prop where
  len : ∀ vs H Q E, sp vs H Q E → vs.length = ps.length
  run : ∀ (A : Around) (outer : List Env) (s : Shared) (H : Hp) (args : Args) (us : List Value) (vs : List V) (Q : VK) (E : XK), Room k A → Env0 P w K mg base A outer s H → BindsTo s fd args (ps.zip us) → Vals vs us → sp vs H Q E →
    codeAny (model P w) A (.call (.ref f) args) (CR CX outer P w H s Q E) s
theorem FnOk.mono {P : Program} {w : World} {K : PySem.W.Frag} {mg : Str → Option Value} {base : Heap} {CX : CXT} {j k : Nat} {f : Addr} {fd : FuncData} {ps : List Str} {sp : Sp} (F : FnOk P w K mg base CX j f fd ps sp) (h : j ≤ k) :
    FnOk P w K mg base CX k f fd ps sp := ⟨F.len, fun A outer s H args us vs Q E hr => F.run A outer s H args us vs Q E (hr.mono h)⟩
/-- a weaker promise -/
theorem FnOk.imp {P : Program} {w : World} {K : PySem.W.Frag} {mg : Str → Option Value} {base : Heap} {CX : CXT} {k : Nat} {f : Addr} {fd : FuncData} {ps : List Str} {sp sp' : Sp} (F : FnOk P w K mg base CX k f fd ps sp)
    (h : ∀ vs H Q E, sp' vs H Q E → sp vs H Q E) : FnOk P w K mg base CX k f fd ps sp' :=
  ⟨fun vs H Q E q => F.len vs H Q E (h _ _ _ _ q), fun A outer s H args us vs Q E hr he hb hv hs => F.run A outer s H args us vs Q E hr he hb hv (h _ _ _ _ hs)⟩

theorem Env0.make {P : Program} {w : World} {K : PySem.W.Frag} {mg : Str → Option Value} {base : Heap} {A : Around} {outer : List Env} {s : Shared} {H : Hp} (e : Env0 P w K mg base A outer s H) (C : Addr) (us : List Value) (kw : List (Str × Value)) :
    Env0 P w K mg base (A.under (.builtin "type.__call__" ⟨.ref C :: us, kw⟩)) outer s H := ⟨by first | exact e.frames | (simpa [Around.under, Code.envs, Code.isFrame, pushEnvs] using e.frames), e.mod, e.bs, e.bsz, e.funs, e.frf, e.hok, e.bare⟩
theorem Env0.in1 {P : Program} {w : World} {K : PySem.W.Frag} {mg : Str → Option Value} {base : Heap} {A : Around} {outer : List Env} {s : Shared} {H : Hp} (e : Env0 P w K mg base A outer s H) :
    Env0 P w K mg base A.in1 outer s H := ⟨e.frames, e.mod, e.bs, e.bsz, e.funs, e.frf, e.hok, e.bare⟩

section
variable {X : Cx} {pins : List (Addr × Obj)} {σ : St} {H : Hp} {s s' : Shared}
/-- from a body: what a callee wants -/
theorem Inv.env0 (I : Inv X pins σ H s) : Env0 X.prog X.w X.K X.mg X.base X.A X.stack s H :=
  ⟨I.ok.frames, I.ok.mod, I.bs, Nat.le_trans I.ok.bsz I.sz, I.stack, I.stkFree, I.hok, I.bare⟩
/-- behind a call -/
theorem Inv.after {Q : VK} {u : Value} (I : Inv X pins σ H s) (h : CE X.stack X.prog X.w H s Q u s') : EP X pins σ Q u s' := by
  obtain ⟨v, H', os, bare, un, hok, r, q⟩ := h
  obtain ⟨hh, g, d, t, os'⟩ := s'
  obtain rfl : os' = s.os := os
  exact ⟨v, H', I.call (h' := hh) (g' := g) (d' := d) (t' := t) (ch := []) un hok bare (fun b z => absurd z (by simp)), r, q⟩
end

/-! ### calls -/
/-- f(..): the written arguments, then the defaults dvs; E: what is wanted of an exception -/
def tCall (sp : Sp) (dvs : List V) (E : XK) (t : TA) : TE := fun σ H Q => t σ H fun vs H1 => sp (vs ++ dvs) H1 Q E
/-- o.m(..) of an instance of the class at C -/
def tMeth (C : Addr) (m : Str) (sp : Sp) (dvs : List V) (E : XK) (ta : TE) (t : TA) : TE := fun σ H Q => ta σ H fun x H1 => ∃ a dx fs, x = .ref a ∧ H1 a = some (.ins C dx fs) ∧ fs.lookup m = none ∧
  t σ H1 fun vs H2 => sp (x :: (vs ++ dvs)) H2 Q E
/-- C(..): a new instance and its dict, then __init__ -/
def tMake (C : Addr) (sp : Sp) (dvs : List V) (E : XK) (t : TA) : TE := fun σ H Q => t σ H fun vs H1 => ∀ x dx, H1 x = none → H1 dx = none → dx ≠ x →
  sp (.ref x :: (vs ++ dvs)) (upd (upd H1 dx (.own x)) x (.ins C dx [])) (fun v H2 => v = .non ∧ Q (.ref x) H2) E

/-- how the parameters are bound: us the positional arguments, kw the keywords' values by name, ds the defaults that fill up -/
def Binds (K : PySem.W.Frag) (fd : FuncData) (ps : List Str) (ds : List Value) : Prop :=
  ∀ (s : Shared) (us : List Value), K.In s.heap → (us ++ ds).length = ps.length → BindsTo s fd ⟨us, []⟩ (ps.zip (us ++ ds))
/-- every parameter is given -/
theorem Binds.all {K : PySem.W.Frag} {fd : FuncData} {ps : List Str} (h : ∀ us : List Value, us.length = ps.length → bindArgs fd ⟨us, []⟩ = pure (ps.zip us)) : Binds K fd ps [] := fun s us _ hl => by
  rw [List.append_nil] at hl ⊢
  exact .of_eq (h us hl)

/-- an exception of a callee reaches what this body wants of exceptions -/
def Passes (CX : CXT) (X : Cx) (E : XK) : Prop := ∀ (pins : List (Addr × Obj)) (σ : St) (H : Hp) (s : Shared) (e : Value) (s' : Shared), Inv X pins σ H s → CX X.stack H s E e s' → X.xe e s'

section
variable {X : Cx} {CX : CXT} {k : Nat} {f C : Addr} {fd : FuncData} {ps : List Str} {sp : Sp} {dvs : List V} {ds : List Value} {E : XK} {x m : Str} {p pos apos : Pos} {e o : Expr} {es : List Expr} {ta : TE} {t : TA}

/-- the callee runs -/
theorem run_fn {pins : List (Addr × Obj)} {σ : St} {H : Hp} {s : Shared} {Q : VK} {us : List Value} {vs : List V} (F : FnOk X.prog X.w X.K X.mg X.base CX k f fd ps sp) (hr : Room k X.A) (hb : Binds X.K fd ps ds) (hd : Vals dvs ds) (hx : Passes CX X E)
    (I : Inv X pins σ H s) (r : Vals vs us) (h : sp (vs ++ dvs) H Q E) : wpAny (model X.prog X.w) X.A (call (.ref f) us) (EP X pins σ Q) X.xe s := by
  have r2 : Vals (vs ++ dvs) (us ++ ds) := r.append hd
  have hl : (us ++ ds).length = ps.length := by rw [← r2.length]; exact F.len _ _ _ _ h
  refine wpAny_call (codeAny_mono (F.run X.A X.stack s H ⟨us, []⟩ (us ++ ds) (vs ++ dvs) Q E hr I.env0 (hb s us I.kIn hl) r2 h) fun r s' hq => ?_)
  cases r with
  | error e => exact hx pins σ H s e s' I hq
  | ok fl =>
    cases fl with
    | ret u => exact I.after hq
    | next => exact False.elim hq
    | brk => exact False.elim hq
    | cont => exact False.elim hq

theorem pe_call (F : FnOk X.prog X.w X.K X.mg X.base CX k f fd ps sp) (hr : Room k X.A) (hg : Gl X x) (hm : X.mg x = some (.ref f)) (hk : PySem.W.keepIn X.K (.ref f) = true) (hb : Binds X.K fd ps ds) (hd : Vals dvs ds) (hx : Passes CX X E)
    (ha : PA X (e :: es) t) (hdb : (x == ("__debug__" : Str)) = false := by decide) (he : starEach (e :: es) X.env = (false, eval e X.env) :: starEach es X.env := by rfl) (hpl : (backTo pos (starEach es X.env)).any (·.1) = false := by rfl) :
    PE X (.Call (.Name x p) (e :: es) [] pos) (tCall sp dvs E t) := by
  intro pins s σ H Q I h
  refine wpAny_Call_Name_kw (ld_glob I hg hm ?_ hdb)
  refine PySem.W.callWith_K (h₀ := X.base) I.ok.mod.kin hk (thn (ha pos pins s σ H _ I h) fun us s1 ⟨vs, H1, I1, r, q⟩ => ⟨I1.kIn, ?_⟩) he hpl
  exact run_fn F hr hb hd hx I1 r q
theorem pe_call0 (F : FnOk X.prog X.w X.K X.mg X.base CX k f fd ps sp) (hr : Room k X.A) (hg : Gl X x) (hm : X.mg x = some (.ref f)) (hk : PySem.W.keepIn X.K (.ref f) = true) (hb : Binds X.K fd ps ds) (hd : Vals dvs ds) (hx : Passes CX X E)
    (hdb : (x == ("__debug__" : Str)) = false := by decide) : PE X (.Call (.Name x p) [] [] pos) (tCall sp dvs E tNil) := by
  intro pins s σ H Q I h
  refine wpAny_Call_Name_kw (ld_glob I hg hm ?_ hdb)
  exact PySem.W.callWith_K0 I.kIn hk (run_fn (us := []) F hr hb hd hx I .nil h)

/-- o.m(e, ..) -/
theorem pe_meth {pl : Sem Bool} (he : PE X o ta) (c : Cls X.K C) (hm : Meth X.K C m f) (F : FnOk X.prog X.w X.K X.mg X.base CX k f fd ps sp) (hr : Room k X.A) (hb : Binds X.K fd ps ds) (hd : Vals dvs ds) (hx : Passes CX X E) (ha : PA X (e :: es) t)
    (hst : starEach (e :: es) X.env = (false, eval e X.env) :: starEach es X.env := by rfl) (hpl : (backTo pos (starEach es X.env)).any (·.1) = false := by rfl)
    (ht : eval (.Call (.Attribute o m apos) (e :: es) [] pos) X.env = (do
      let ov ← eval o X.env
      standAt apos.atName
      let (f, first) ← holding [ov] (getMethod ov m pl)
      callWith pos f first (backTo pos (starEach (e :: es) X.env)) (backToKw pos (keywordEach [] X.env))) := by rfl) :
    PE X (.Call (.Attribute o m apos) (e :: es) [] pos) (tMeth C m sp dvs E ta t) := by
  intro pins s σ H Q I h
  refine PySem.W.methodCall_KW (pl := pl) (thn (he pins s σ H _ I h) fun u s1 ⟨x, H1, I1, rx, a, dx, fs, ex, ea, l, q⟩ => ?_) ht
  subst ex
  obtain rfl : u = Value.ref a := rx
  refine getmeth_ok I1 ea c hm l ?_
  refine PySem.W.callWith_K (first := [.ref a]) (h₀ := X.base) I.ok.mod.kin hm.kp (thn (ha pos pins s1 σ H1 _ I1 q) fun us s2 ⟨vs, H2, I2, r, q2⟩ => ⟨I2.kIn, ?_⟩) hst hpl
  exact run_fn (us := .ref a :: us) (vs := .ref a :: vs) F hr hb hd hx I2 (.cons rfl r) q2
/-- o.m() -/
theorem pe_meth0 {pl : Sem Bool} (he : PE X o ta) (c : Cls X.K C) (hm : Meth X.K C m f) (F : FnOk X.prog X.w X.K X.mg X.base CX k f fd ps sp) (hr : Room k X.A) (hb : Binds X.K fd ps ds) (hd : Vals dvs ds) (hx : Passes CX X E)
    (ht : eval (.Call (.Attribute o m apos) [] [] pos) X.env = (do
      let ov ← eval o X.env
      standAt apos.atName
      let (f, first) ← holding [ov] (getMethod ov m pl)
      callWith pos f first (backTo pos (starEach [] X.env)) (backToKw pos (keywordEach [] X.env))) := by rfl) :
    PE X (.Call (.Attribute o m apos) [] [] pos) (tMeth C m sp dvs E ta tNil) := by
  intro pins s σ H Q I h
  refine PySem.W.methodCall_KW (pl := pl) (thn (he pins s σ H _ I h) fun u s1 ⟨x, H1, I1, rx, a, dx, fs, ex, ea, l, q⟩ => ?_) ht
  subst ex
  obtain rfl : u = Value.ref a := rx
  refine getmeth_ok I1 ea c hm l ?_
  exact PySem.W.callWith_K0 (first := [.ref a]) I1.kIn hm.kp (run_fn (us := [.ref a]) (vs := [.ref a]) F hr hb hd hx I1 (.cons rfl .nil) q)

/-- what a class must have to be made -/
structure Mk (K : PySem.W.Frag) (C f : Addr) : Prop where
  makes : PySem.W.makesIn K C = true
  init : PySem.W.findIn K (.ref C) "__init__" = some (some (.ref f))
  fn : PySem.W.isFn K (.ref f) = true
  kp : PySem.W.keepIn K (.ref C) = true

theorem run_make {pins : List (Addr × Obj)} {σ : St} {H : Hp} {s : Shared} {Q : VK} {us : List Value} {vs : List V} (M : Mk X.K C f) (F : FnOk X.prog X.w X.K X.mg X.base CX k f fd ps sp) (hr : Room (k + 1) X.A) (hb : Binds X.K fd ps ds) (hd : Vals dvs ds)
    (hx : Passes CX X E) (I : Inv X pins σ H s) (r : Vals vs us)
    (h : ∀ x dx, H x = none → H dx = none → dx ≠ x → sp (.ref x :: (vs ++ dvs)) (upd (upd H dx (.own x)) x (.ins C dx [])) (fun v H2 => v = .non ∧ Q (.ref x) H2) E) :
    wpAny (model X.prog X.w) X.A (call (.ref C) us) (EP X pins σ Q) X.xe s := by
  have hq := h (s.heap.objs.size + 1) s.heap.objs.size (I.hok.fresh (Nat.le_succ _)) (I.hok.fresh (Nat.le_refl _)) (Nat.ne_of_lt (Nat.lt_succ_self _))
  have I2 := Inv.made (C := C) I
  have r2 : Vals (V.ref (s.heap.objs.size + 1) :: (vs ++ dvs)) (Value.ref (s.heap.objs.size + 1) :: (us ++ ds)) := .cons rfl (r.append hd)
  have hl : (Value.ref (s.heap.objs.size + 1) :: us ++ ds).length = ps.length := by
    have e := r2.length
    rw [F.len _ _ _ _ hq] at e
    exact e.symm
  refine wpAny_call (make_map (f := f) I.kIn M.makes M.init (beq_iff_eq.mp M.fn) (codeAny_mono (F.run _ X.stack _ _ ⟨Value.ref (s.heap.objs.size + 1) :: us, []⟩ (Value.ref (s.heap.objs.size + 1) :: (us ++ ds)) _ _ E (hr.make C us [])
    (I2.env0.make C us []) (hb _ (Value.ref (s.heap.objs.size + 1) :: us) I2.kIn hl) r2 hq) fun r s' hq' => ?_))
  cases r with
  | error e => exact hx pins σ _ _ e s' I2 hq'
  | ok fl =>
    cases fl with
    | ret u =>
      obtain ⟨v, H', I3, rv, ev, q3⟩ := I2.after hq'
      subst ev
      exact ⟨rv, ⟨V.ref (s.heap.objs.size + 1), H', I3, rfl, q3⟩⟩
    | next => exact False.elim hq'
    | brk => exact False.elim hq'
    | cont => exact False.elim hq'
theorem pe_make (M : Mk X.K C f) (F : FnOk X.prog X.w X.K X.mg X.base CX k f fd ps sp) (hr : Room (k + 1) X.A) (hg : Gl X x) (hm : X.mg x = some (.ref C)) (hb : Binds X.K fd ps ds) (hd : Vals dvs ds) (hx : Passes CX X E)
    (ha : PA X (e :: es) t) (hdb : (x == ("__debug__" : Str)) = false := by decide) (he : starEach (e :: es) X.env = (false, eval e X.env) :: starEach es X.env := by rfl) (hpl : (backTo pos (starEach es X.env)).any (·.1) = false := by rfl) :
    PE X (.Call (.Name x p) (e :: es) [] pos) (tMake C sp dvs E t) := by
  intro pins s σ H Q I h
  refine wpAny_Call_Name_kw (ld_glob I hg hm ?_ hdb)
  refine PySem.W.callWith_K (h₀ := X.base) I.ok.mod.kin M.kp (thn (ha pos pins s σ H _ I h) fun us s1 ⟨vs, H1, I1, r, q⟩ => ⟨I1.kIn, ?_⟩) he hpl
  exact run_make M F hr hb hd hx I1 r q
theorem pe_make0 (M : Mk X.K C f) (F : FnOk X.prog X.w X.K X.mg X.base CX k f fd ps sp) (hr : Room (k + 1) X.A) (hg : Gl X x) (hm : X.mg x = some (.ref C)) (hb : Binds X.K fd ps ds) (hd : Vals dvs ds) (hx : Passes CX X E)
    (hdb : (x == ("__debug__" : Str)) = false := by decide) : PE X (.Call (.Name x p) [] [] pos) (tMake C sp dvs E tNil) := by
  intro pins s σ H Q I h
  refine wpAny_Call_Name_kw (ld_glob I hg hm ?_ hdb)
  exact PySem.W.callWith_K0 I.kIn M.kp (run_make (us := []) M F hr hb hd hx I .nil h)
end

/-! ### keywords -/
/-- the values of the keywords, from the left -/
def PK (X : Cx) (kws : List Keyword) (t : TA) : Prop :=
  ∀ (pos : Pos) (pins : List (Addr × Obj)) (s : Shared) (σ : St) (H : Hp) (Q : List V → Hp → Prop), Inv X pins σ H s → t σ H Q → wpAny (model X.prog X.w) X.A (evalAll ((backToKw pos (keywordEach kws X.env)).map (·.2))) (AP X pins σ Q) X.xe s
section
variable {X : Cx} {CX : CXT} {k : Nat} {f C : Addr} {fd : FuncData} {ps ks : List Str} {sp : Sp} {E : XK} {x m : Str} {p pos apos kpos : Pos} {e o : Expr} {es : List Expr} {kws : List Keyword} {te ta : TE} {t tk : TA} {nm : Option Str}
theorem pk_nil : PK X [] tNil := fun _ _ _ _ H Q I h => wpAny_evalAll_nil ⟨[], H, I, .nil, h⟩
theorem pk_cons (ha : PE X e te) (hr : PK X kws t) : PK X (⟨nm, e, kpos⟩ :: kws) (tCons te t) := by
  intro pos pins s σ H Q I h
  show wpAny _ _ (evalAll ((do let v ← eval e X.env; standAt pos; pure v) :: (backToKw pos (keywordEach kws X.env)).map (·.2))) _ _ s
  refine wpAny_evalAll_cons (wpAny_bind (thn (ha pins s σ H _ I h) fun u s1 ⟨x, H1, I1, r1, q1⟩ => wpAny_bind (wpAny_standAt (wpAny_pure ?_))))
  exact thn (hr pos pins s1 σ H1 _ I1 q1) fun us s2 ⟨xs, H2, I2, r2, q2⟩ => ⟨x :: xs, H2, I2, .cons r1 r2, q2⟩

/-- how a call with keywords binds: g puts the positional values us and the keywords' values ws (names ks) in the parameters' order, defaults among them -/
structure KBinds (K : PySem.W.Frag) (fd : FuncData) (ps ks : List Str) (g : List Value → List Value → List Value) (gV : List V → List V → List V) : Prop where
  to : ∀ (s : Shared) (us ws : List Value), K.In s.heap → (g us ws).length = ps.length → BindsTo s fd ⟨us, ks.zip ws⟩ (ps.zip (g us ws))
  rel : ∀ {vs : List V} {us : List Value} {zs : List V} {ws : List Value}, Vals vs us → Vals zs ws → Vals (gV vs zs) (g us ws)
def tCallK (sp : Sp) (gV : List V → List V → List V) (E : XK) (t tk : TA) : TE := fun σ H Q => t σ H fun vs H1 => tk σ H1 fun zs H2 => sp (gV vs zs) H2 Q E
variable {g : List Value → List Value → List Value} {gV : List V → List V → List V}
theorem run_fnk {pins : List (Addr × Obj)} {σ : St} {H : Hp} {s : Shared} {Q : VK} {us ws : List Value} {vs zs : List V} (F : FnOk X.prog X.w X.K X.mg X.base CX k f fd ps sp) (hr : Room k X.A) (hb : KBinds X.K fd ps ks g gV) (hx : Passes CX X E)
    (I : Inv X pins σ H s) (r : Vals vs us) (rz : Vals zs ws) (h : sp (gV vs zs) H Q E) : wpAny (model X.prog X.w) X.A (call (.ref f) us (ks.zip ws)) (EP X pins σ Q) X.xe s := by
  have r2 := hb.rel r rz
  have hl : (g us ws).length = ps.length := by rw [← r2.length]; exact F.len _ _ _ _ h
  refine wpAny_call (codeAny_mono (F.run X.A X.stack s H ⟨us, ks.zip ws⟩ (g us ws) (gV vs zs) Q E hr I.env0 (hb.to s us ws I.kIn hl) r2 h) fun r s' hq => ?_)
  cases r with
  | error e => exact hx pins σ H s e s' I hq
  | ok fl =>
    cases fl with
    | ret u => exact I.after hq
    | next => exact False.elim hq
    | brk => exact False.elim hq
    | cont => exact False.elim hq
/-- f(e, .., k = v, ..) -/
theorem pe_callK (F : FnOk X.prog X.w X.K X.mg X.base CX k f fd ps sp) (hr : Room k X.A) (hg : Gl X x) (hm : X.mg x = some (.ref f)) (hk : PySem.W.keepIn X.K (.ref f) = true) (hb : KBinds X.K fd ps ks g gV) (hx : Passes CX X E)
    (ha : PA X (e :: es) t) (hkw : PK X kws tk) (hall : (backToKw pos (keywordEach kws X.env)).all (·.1.isSome) = true := by rfl) (hks : (backToKw pos (keywordEach kws X.env)).filterMap (·.1) = ks := by rfl)
    (hdb : (x == ("__debug__" : Str)) = false := by decide) (he : starEach (e :: es) X.env = (false, eval e X.env) :: starEach es X.env := by rfl)
    (hpl : ((backTo pos (starEach (e :: es) X.env)).any (·.1) || (backToKw pos (keywordEach kws X.env)).any (·.1.isNone)) = false := by rfl) :
    PE X (.Call (.Name x p) (e :: es) kws pos) (tCallK sp gV E t tk) := by
  intro pins s σ H Q I h
  refine wpAny_Call_Name_kw (ld_glob I hg hm ?_ hdb)
  refine PySem.W.callWith_KW (h₀ := X.base) I.ok.mod.kin hk hall (thn (ha pos pins s σ H _ I h) fun us s1 ⟨vs, H1, I1, r, q⟩ => ?_) hpl he
  refine thn (hkw pos pins s1 σ H1 _ I1 q) fun ws s2 ⟨zs, H2, I2, rz, q2⟩ => ⟨I2.kIn, ?_⟩
  rw [hks]
  exact run_fnk F hr hb hx I2 r rz q2
end

/-! ### a def's body keeps its promise -/
/-- names: the parameters first -/
structure FnScope (N P : List Str) (sc : Scope) : Prop where
  kind : sc.kind = .function
  co : sc.isCoroutine = false
  gen : sc.isGenerator = false
  nd : N.Nodup
  pre : N.take P.length = P
  par : ∀ x ∈ P, sc.names.lookup x = some .local ∨ sc.names.lookup x = some .cell
  nofree : ∀ y ∈ sc.names, y.2 ≠ .free

theorem bindL_out {kindOf : Str → Option NameKind} {x : Str} : ∀ {binds : List (Str × Value)} {m : Str → Option Value}, (∀ v, (x, v) ∉ binds) → bindL kindOf binds m x = m x
  | [], _, _ => rfl
  | (n, v) :: r, m, h => by
    unfold bindL
    rw [bindL_out fun w hw => h w (List.mem_cons_of_mem _ hw)]
    split
    · have : x ≠ n := by rintro rfl; exact h v List.mem_cons_self
      simp [this]
    · rfl
theorem bindC_out {kindOf : Str → Option NameKind} {x : Str} : ∀ {binds : List (Str × Value)} {m : Str → Option Value}, (∀ v, (x, v) ∉ binds) → bindC kindOf binds m x = m x
  | [], _, _ => rfl
  | (n, v) :: r, m, h => by
    unfold bindC
    rw [bindC_out fun w hw => h w (List.mem_cons_of_mem _ hw)]
    split
    · rfl
    · have : x ≠ n := by rintro rfl; exact h v List.mem_cons_self
      simp [this]
theorem bindL_get {kindOf : Str → Option NameKind} {x : Str} {v : Value} : ∀ {P : List Str} {vs : List Value} {i : Nat} {m : Str → Option Value}, P.Nodup → P[i]? = some x → vs[i]? = some v → kindOf x = some .local →
    bindL kindOf (P.zip vs) m x = some v
  | [], _, _, _, _, h, _, _ => by simp at h
  | _ :: _, [], _, _, _, _, h, _ => by simp at h
  | p :: P, w :: vs, 0, m, nd, h1, h2, hk => by
    simp at h1 h2; subst h1; subst h2
    show bindL kindOf ((p, w) :: P.zip vs) m p = _
    unfold bindL
    rw [bindL_out fun v hv => (List.nodup_cons.mp nd).1 (List.of_mem_zip hv).1, if_pos hk]
    simp
  | p :: P, w :: vs, i + 1, m, nd, h1, h2, hk => by
    show bindL kindOf ((p, w) :: P.zip vs) m x = _
    unfold bindL
    exact bindL_get (i := i) (List.nodup_cons.mp nd).2 (by simpa using h1) (by simpa using h2) hk
theorem bindC_get {kindOf : Str → Option NameKind} {x : Str} {v : Value} : ∀ {P : List Str} {vs : List Value} {i : Nat} {m : Str → Option Value}, P.Nodup → P[i]? = some x → vs[i]? = some v → kindOf x ≠ some .local →
    bindC kindOf (P.zip vs) m x = some v
  | [], _, _, _, _, h, _, _ => by simp at h
  | _ :: _, [], _, _, _, _, h, _ => by simp at h
  | p :: P, w :: vs, 0, m, nd, h1, h2, hk => by
    simp at h1 h2; subst h1; subst h2
    show bindC kindOf ((p, w) :: P.zip vs) m p = _
    unfold bindC
    rw [bindC_out fun v hv => (List.nodup_cons.mp nd).1 (List.of_mem_zip hv).1, if_neg hk]
    simp
  | p :: P, w :: vs, i + 1, m, nd, h1, h2, hk => by
    show bindC kindOf ((p, w) :: P.zip vs) m x = _
    unfold bindC
    exact bindC_get (i := i) (List.nodup_cons.mp nd).2 (by simpa using h1) (by simpa using h2) hk

/-- the names' values at the entry -/
def start (N : List Str) (vs : List V) : St := vs.map some ++ List.replicate (N.length - vs.length) none

/-- the context of a def's body, at its entry; an exception leaves the frame, then lies as CX says -/
def cxOf (CX : CXT) (P : Program) (w : World) (K : PySem.W.Frag) (mg : Str → Option Value) (base : Heap) (N : List Str) (qual : Str) (scope : Scope) (f : Addr) (cd : Value) (A : Around) (outer : List Env) (s : Shared) (H : Hp) (E : XK) : Cx where
  prog := P
  w := w
  K := K
  mg := mg
  base := base
  A := A.deeper (envOfC qual scope s.heap.objs.size f cd)
  N := N
  s₀ := s
  H₀ := H
  env := envOfC qual scope s.heap.objs.size f cd
  outer := outer
  stack := envOfC qual scope s.heap.objs.size f cd :: outer
  ex := []
  calm := true
  fn := fun _ => true
  pn := []
  xe := fun e s' => wpAny (model P w) (A.deeper (envOfC qual scope s.heap.objs.size f cd)) (leaving (envOfC qual scope s.heap.objs.size f cd) e) (fun _ s'' => CX outer H s E e s'') (fun e' s'' => CX outer H s E e' s'') s'

theorem cell_has {sc : Scope} {n : Nat} {x : Str} (h : sc.names.lookup x = some .cell) : ∃ c, (cellsFrom n sc.names []).lookup x = some c := by
  have q := PySem.W.cellsFrom_some sc.names n [] (.inl h)
  exact Option.isSome_iff_exists.mp q

theorem inv_start {CX : CXT} {P : Program} {w : World} {K : PySem.W.Frag} {mg : Str → Option Value} {base : Heap} {N ps : List Str} {qual : Str} {scope : Scope} {f : Addr} {cd : Value} {A : Around} {outer : List Env} {s s1 : Shared} {H : Hp} {E : XK} {us : List Value} {vs : List V}
    (S : FnScope N ps scope) (hd : A.handled = none) (e0 : Env0 P w K mg base A outer s H) (hl : vs.length = ps.length) (r : Vals vs us)
    (x : InCallC s s.heap.objs.size (bindL (envOfC qual scope s.heap.objs.size f cd).kindOf (ps.zip us) fun _ => none) (cellsFrom (s.heap.objs.size + 1) scope.names []) (bindC (envOfC qual scope s.heap.objs.size f cd).kindOf (ps.zip us) fun _ => none) s1) :
    Inv (cxOf CX P w K mg base N qual scope f cd A outer s H E) [] (start N vs) H s1 := by
  have hpl : ps.length ≤ N.length := by have := congrArg List.length S.pre; rw [List.length_take] at this; omega
  obtain ⟨h1, tk, rfl, hk⟩ := x.done
  have noA : ∀ b : Addr, b ∉ (cxOf CX P w K mg base N qual scope f cd A outer s H E).ex := fun b z => absurd (show b ∈ ([] : List Addr) from z) (by simp)
  refine ⟨⟨e0.mod, S.kind, rfl, rfl, Nat.le_refl _, fun y z c h1 h2 => ?_, fun y hy => ?_, fun y c _ h => ?_, fun _ => hd, Around.frames_deeper e0.frames, .inr ⟨rfl, rfl⟩, fun b z => absurd z (noA b), e0.bs, e0.bsz, fun b _ _ => noA b, fun b z => absurd z (noA b), e0.funs, e0.frf⟩,
    rfl, e0.bare, Un.kept hk, ⟨_, x.toInCall.ns, fun i y v h1 h2 h3 => ?_⟩, fun y c h => ⟨_, x.cell y c h⟩, e0.hok.fresh (Nat.le_refl _), fun y c h => ?_, fun p hp => absurd (show p ∈ ([] : List (Addr × Obj)) from hp) (by simp), e0.hok.kept hk, ?_⟩
  · exact name_of_addr x.apart (PySem.mem_of_lookup h1) (PySem.mem_of_lookup h2)
  · have hy : scope.names.lookup y = some .cell ∨ scope.names.lookup y = some .free := hy
    rcases hy with hy | hy
    · exact cell_has hy
    · exact absurd rfl (S.nofree _ (PySem.mem_of_lookup hy))
  · exact Nat.le_of_lt (x.above y c (PySem.mem_of_lookup h))
  · have hi : i < vs.length := by
      unfold start at h2
      by_cases hi : i < vs.length
      · exact hi
      · rw [List.getElem?_append_right (by simpa using hi)] at h2
        rw [List.getElem?_replicate] at h2
        split at h2 <;> cases h2
    have ha : vs[i]? = some v := by
      unfold start at h2
      rw [List.getElem?_append_left (by simpa using hi), List.getElem?_map] at h2
      cases e : vs[i]? with
      | none => rw [e] at h2; cases h2
      | some a => rw [e] at h2; cases h2; rfl
    obtain ⟨u, hu, rv⟩ := r.get ha
    have hp : ps[i]? = some y := by
      rw [← S.pre, List.getElem?_take_of_lt (by omega)]; exact h1
    have ndP : ps.Nodup := by rw [← S.pre]; exact S.nd.sublist (List.take_sublist _ _)
    refine ⟨u, rv, ?_⟩
    rcases S.par y (List.mem_of_getElem? hp) with k | k
    · exact .inl ⟨k, bindL_get ndP hp hu k⟩
    · obtain ⟨c, e⟩ := cell_has (n := s.heap.objs.size + 1) k
      refine .inr ⟨.inl k, c, e, ?_⟩
      have q := x.cell y c e
      rw [bindC_get ndP hp hu (by show scope.names.lookup y ≠ _; rw [k]; decide)] at q
      exact q
  · exact e0.hok.fresh (Nat.le_of_lt (x.above y c (PySem.mem_of_lookup h)))
  · unfold start
    show _ = N.length
    rw [List.length_append, List.length_map, List.length_replicate]
    omega

/-- THE RULE: a def (or a method) of the text, by its body. The body's reading t is chosen for each entry; it is run at the parameters' values -/
theorem fn_of {CX : CXT} {P : Program} {w : World} {K : PySem.W.Frag} {mg : Str → Option Value} {base : Heap} {k : Nat} {f : Addr} {name qual : Str} {params : Arguments} {body : List Stmt} {scope : Scope} {dV kV doc pm cdv ct oc : Value} {an od : Option Addr}
    {osl : Array (Option Value)} {N ps : List Str} {sp : Sp} (lk : K.lookup f = some ⟨oc, od, .func (PySem.W.fnOf name qual params body scope dV kV doc pm an cdv ct), osl⟩) (hcd : PySem.W.codeIn K cdv qual = true) (S : FnScope N ps scope)
    (len : ∀ vs H Q E, sp vs H Q E → vs.length = ps.length)
    (hbody : ∀ (A : Around) (outer : List Env) (s : Shared) (H : Hp) (vs : List V) (Q : VK) (E : XK), Room k (A.deeper (envOfC qual scope s.heap.objs.size f cdv)) → sp vs H Q E →
      ∃ t, PSs (cxOf CX P w K mg base N qual scope f cdv A outer s H E) body t ∧ t { nx := fun _ H' => Q .non H', rt := Q } (start N vs) H) :
    FnOk P w K mg base CX (k + 1) f (PySem.W.fnOf name qual params body scope dV kV doc pm an cdv ct) ps sp := by
  refine ⟨len, fun A outer s H args us vs Q E hr e0 hb r hsp => ?_⟩
  have hl := len _ _ _ _ hsp
  have KX : K.In s.heap := e0.mod.kin.keeps fun b o e => (e0.bs b o e).1
  have lim : s.heap.NoLimit := e0.mod.nolimit.keeps fun b o e => (e0.bs b o e).1
  have hkind : ∀ y ∈ ps.zip us, scope.names.lookup y.1 = some .local ∨ (scope.names.lookup y.1 = some .cell ∧ ((cellsFrom (s.heap.objs.size + 1) scope.names []).lookup y.1).isSome = true) := fun ⟨n, v⟩ hy => by
    rcases S.par n (List.of_mem_zip hy).1 with q | q
    · exact .inl q
    · exact .inr ⟨q, PySem.W.cellsFrom_some _ _ _ (.inl q)⟩
  refine codeAny_call_function hr.depth (KX _ _ lk) rfl S.co S.gen rfl (PySem.W.codeRec_of KX hcd) (hb _ _ _ _ ?_)
  refine wpAny_newFunctionEnv_cells S.kind hkind fun env he s1 x => ?_
  subst he
  refine ⟨lim.keeps x.toInCall.keep, codeAny_func ?_⟩
  obtain ⟨t, ht, hq⟩ := hbody A outer s H vs Q E (hr.deeper _) hsp
  have I : Inv (cxOf CX P w K mg base N qual scope f cdv A outer s H E) [] (start N vs) H s1 := inv_start S hr.hd e0 hl r x
  refine wpAny_mono (ht [] s1 (start N vs) H _ I hq) (fun fl s' hs => ?_) fun e s' hs => hs
  have fin : ∀ {σ' : St} {H' : Hp} {v : V} {u : Value}, Inv (cxOf CX P w K mg base N qual scope f cdv A outer s H E) [] σ' H' s' → RelV v u → Q v H' → CE outer P w H s Q u s' :=
    fun {σ' H' v u} J rv q => ⟨v, H', J.os, J.bare, J.base, J.hok, rv, q⟩
  cases fl with
  | ret u =>
    obtain ⟨v, σ', H', J, rv, q⟩ := hs
    exact fin J rv q
  | next =>
    obtain ⟨σ', H', J, q⟩ := hs
    exact fin (v := V.non) (u := Value.none) J rfl q
  | brk =>
    obtain ⟨_, _, _, q⟩ := hs
    exact False.elim q
  | cont =>
    obtain ⟨_, _, _, q⟩ := hs
    exact False.elim q
end L2

namespace L2
open PySem PySem.Spec PyProof.Rows
section
variable {X : Cx} {x : Str} {p pos : Pos} {e : Expr} {es : List Expr} {t : TA} {id T : String} {r : List V → Hp → VK → Prop}

def tCB (r : List V → Hp → VK → Prop) (t : TA) : TE := fun σ H Q => t σ H fun vs H1 => r vs H1 Q
/-- f(e, ..), f a built-in function -/
theorem pe_callB (hc : CallR X (.builtin id) r) (hg : Gl X x) (hm : X.mg x = none) (hv : bootBuiltins x = some (.builtin id)) (ha : PA X (e :: es) t) (hn : x ≠ "__name__" := by decide) (hdb : (x == ("__debug__" : Str)) = false := by decide)
    (he : starEach (e :: es) X.env = (false, eval e X.env) :: starEach es X.env := by rfl) (hpl : (backTo pos (starEach es X.env)).any (·.1) = false := by rfl) : PE X (.Call (.Name x p) (e :: es) [] pos) (tCB r t) := by
  intro pins s σ H Q I h
  refine wpAny_Call_Name_kw (ld_blt I hg hm hv ?_ hn hdb)
  exact PyProof.Rows.callWith_builtin1 (thn (ha pos pins s σ H _ I h) fun us s1 ⟨vs, H1, I1, r1, q1⟩ => hc pins s1 σ H1 vs us Q I1 r1 q1) he hpl
/-- T(e, ..), T a built-in type -/
theorem pe_callTy (hc : CallR X (.type T) r) (hg : Gl X x) (hm : X.mg x = none) (hv : bootBuiltins x = some (.type T)) (ha : PA X (e :: es) t) (hn : x ≠ "__name__" := by decide) (hdb : (x == ("__debug__" : Str)) = false := by decide)
    (he : starEach (e :: es) X.env = (false, eval e X.env) :: starEach es X.env := by rfl) (hpl : (backTo pos (starEach es X.env)).any (·.1) = false := by rfl) : PE X (.Call (.Name x p) (e :: es) [] pos) (tCB r t) := by
  intro pins s σ H Q I h
  refine wpAny_Call_Name_kw (ld_blt I hg hm hv ?_ hn hdb)
  exact PyProof.Rows.callWith_type1 (thn (ha pos pins s σ H _ I h) fun us s1 ⟨vs, H1, I1, r1, q1⟩ => hc pins s1 σ H1 vs us Q I1 r1 q1) he hpl
/-- T() -/
theorem pe_callTy0 (hc : CallR X (.type T) r) (hg : Gl X x) (hm : X.mg x = none) (hv : bootBuiltins x = some (.type T)) (hn : x ≠ "__name__" := by decide) (hdb : (x == ("__debug__" : Str)) = false := by decide) :
    PE X (.Call (.Name x p) [] [] pos) (tCB r tNil) := by
  intro pins s σ H Q I h
  refine wpAny_Call_Name_kw (ld_blt I hg hm hv ?_ hn hdb)
  exact PyProof.Rows.callWith_type0 (hc pins s σ H [] [] Q I .nil h)
end
end L2

namespace HT
open PySem PyProof.Rows

/-- t < u of tuples of ints -/
def lexLt : List Int → List Int → Bool
  | [], [] => false
  | [], _ :: _ => true
  | _ :: _, [] => false
  | x :: xs, y :: ys => if x = y then lexLt xs ys else decide (x < y)
theorem lexLt_cons (x y : Int) (xs ys : List Int) : lexLt (x :: xs) (y :: ys) = if x = y then lexLt xs ys else decide (x < y) := rfl
theorem lexLt_nil_nil : lexLt [] [] = false := rfl
theorem lexLt_nil_cons (y : Int) (ys : List Int) : lexLt [] (y :: ys) = true := rfl
theorem lexLt_cons_nil (x : Int) (xs : List Int) : lexLt (x :: xs) [] = false := rfl

theorem eqAt_int (A : Around) (s : Shared) (a : Int) (t : Tok) (c : Int) (u : Tok) : ∃ e, SeqAt.EqAt A s (.int a t) (.int c u) e ∧ (e = true ↔ a = c) :=
  ⟨(a == c), SeqAt.EqAt.int_int a t c u, by simp⟩
theorem rcLt_int (A : Around) (s : Shared) (a : Int) (t : Tok) (c : Int) (u : Tok) (prog : Program) (w : World) (E : Value → Shared → Prop) (Q : Value → Shared → Prop) (h : Q (.bool (decide (a < c))) s) :
    wpAny (model prog w) A (richCompare .Lt (.int a t) (.int c u)) Q E s :=
  (PyProof.Rows.lt_int h : wpAny (model prog w) A (compareOp .Lt (.int a t) (.int c u)) Q E s)

section
open PySem.SeqAt
open PySem.AutoSeq1 (wpAny_loadPart')
open PySem.MeetsSeq PySem.MeetsSeq2 PySem.MeetsSeq3

theorem tuple_lt_ints (l b : Addr) (items items2 : Array Value) (n n2 : Nat) (dd dd2 : Option Addr) (sl sl2 : Array (Option Value)) (ns ms : List Int) (hi : IntsAre items.toList ns) (hj : IntsAre items2.toList ms) :
    Meets (Builtin.«tuple.__lt__» ⟨[.ref l, .ref b], []⟩)
      (fun _ R s => s.heap.get? l = some { cls := .type "tuple", dict := dd, data := .seq items n, slots := sl } ∧ s.heap.get? b = some { cls := .type "tuple", dict := dd2, data := .seq items2 n2, slots := sl2 } ∧
        R (.ok (.ret (.bool (lexLt ns ms)))) s) :=
  .of_wp fun prog w A R s h => by
    obtain ⟨hp, g, d, tk, os⟩ := s; obtain ⟨hl, hb, h⟩ := h
    have f2 := AutoSeq1.sub_tuple_tuple
    have z1 : items.size = ns.length := by rw [← hi.length]; simp
    have z2 : items2.size = ms.length := by rw [← hj.length]; simp
    wp_walk using wpAny_loadPart' hl, wpAny_loadPart' hb, wpAny_forIn_list _ (fun rest b s' => b.1 = none ∧ s' = ⟨hp, g, d, tk, os⟩ ∧ ∃ (vs ws : List Value) (ns' ms' : List Int), rest = vs.zip ws ∧
      IntsAre vs ns' ∧ IntsAre ws ms' ∧ ns'.length + items2.size = ms'.length + items.size ∧ R (.ok (.ret (.bool (lexLt ns' ms')))) ⟨hp, g, d, tk, os⟩) _
    case turn =>
      rintro ⟨y, x⟩ rest b s' ⟨hb', rfl, vs, ws, ns', ms', hz, hvi, hwi, hlen, hR⟩
      cases hvi with
      | nil => rw [List.zip_nil_left] at hz; cases hz
      | cons a t hvi' =>
        cases hwi with
        | nil => rw [List.zip_nil_right] at hz; cases hz
        | cons c u hwi' =>
          rw [List.zip_cons_cons] at hz
          injection hz with hyx hrest
          injection hyx with hy hx
          subst hy hx
          rw [lexLt_cons] at hR
          simp only [List.length_cons] at hlen
          obtain ⟨e, he, hiff⟩ := eqAt_int A.in1 ⟨hp, g, d, tk, os⟩ a t c u
          refine wpAny_bind (he prog w _ _ ?_)
          cases e with
          | true =>
            rw [if_pos (hiff.mp rfl)] at hR
            wp_walk
            exact ⟨rfl, rfl, _, _, _, _, hrest, hvi', hwi', by omega, hR⟩
          | false =>
            rw [if_neg (fun q => absurd (hiff.mpr q) Bool.false_ne_true)] at hR
            have hri := rcLt_int A.in1 ⟨hp, g, d, tk, os⟩ a t c u prog w
            wp_walk using hri
            exact ⟨_, rfl, by simpa using hR⟩
    case fin =>
      rintro ⟨b1, b2⟩ s' ⟨hb', rfl, vs, ws, ns', ms', hz, hvi, hwi, hlen, hR⟩
      simp only at hb'
      subst hb'
      have hv : lexLt ns' ms' = decide (items.size < items2.size) := by
        cases hvi with
        | nil =>
          cases hwi with
          | nil =>
            simp only [List.length_nil] at hlen
            rw [lexLt_nil_nil]
            exact (decide_eq_false (by omega)).symm
          | cons c u hw =>
            simp only [List.length_nil, List.length_cons] at hlen
            rw [lexLt_nil_cons]
            exact (decide_eq_true (by omega)).symm
        | cons a t hv =>
          cases hwi with
          | nil =>
            simp only [List.length_nil, List.length_cons] at hlen
            rw [lexLt_cons_nil]
            exact (decide_eq_false (by omega)).symm
          | cons c u hw =>
            rw [List.zip_cons_cons] at hz
            cases hz
      rw [hv] at hR
      wp_walk
      exact ⟨_, rfl, by simpa [Builtin.Tuple.tupleCompareSizes] using hR⟩
    case h =>
      exact ⟨rfl, rfl, items.toList, items2.toList, ns, ms, rfl, hi, hj, by omega, h⟩
end

section
variable {prog : Program} {w : World} {A : Around} {E : Value → Shared → Prop} {s : Shared}

theorem lt_tupInts {l b : Addr} {items items2 : Array Value} {ns ms : List Int} {Q : Value → Shared → Prop} (hl : IsTup s.heap l items) (hb : IsTup s.heap b items2) (hi : IntsAre items.toList ns) (hj : IntsAre items2.toList ms)
    (hu : A.units < cLine) (h : Q (.bool (lexLt ns ms)) s) : wpAny (model prog w) A (compareOp .Lt (.ref l) (.ref b)) Q E s := by
  obtain ⟨⟨cls, dd, data, sl⟩, ho, hc, n, hd⟩ := id hl
  obtain ⟨⟨cls2, dd2, data2, sl2⟩, ho2, hc2, n2, hd2⟩ := id hb
  simp only at hc hd hc2 hd2
  subst hc hd hc2 hd2
  exact richCompare_meets_room (op := .Lt) ⟨_, ho, rfl⟩ ⟨_, ho2, rfl⟩ PySem.F.slot_tuple_lt PySem.F.entry_tuple_lt (PySem.F.args_tuple_lt_2 _ _) (tuple_lt_ints l b items items2 n n2 dd dd2 sl sl2 ns ms hi hj)
    ⟨ho, ho2, show Value.bool (lexLt ns ms) ≠ Value.notImplemented ∧ Q (.bool (lexLt ns ms)) s from ⟨(fun x => nomatch x), h⟩⟩ hu

/-- t + u, t not empty -/
theorem cat_tup {t b : Addr} {vs ws : List Value} {Q : Value → Shared → Prop} (ht : IsTup s.heap t vs.toArray) (hb : IsTup s.heap b ws.toArray) (hv : vs ≠ [])
    (h1 : ws = [] → Q (.ref t) s) (h2 : ws ≠ [] → Q (.ref s.heap.objs.size) { s with heap := s.heap.push { cls := .type "tuple", data := .seq (vs ++ ws).toArray } })
    (hsz : vs.length + ws.length ≤ sizeLine) : wpAny (model prog w) A (binaryOp .Add (.ref t) (.ref b)) Q E s := by
  obtain ⟨⟨cls, dd, data, sl⟩, ho, hc, n, hd⟩ := id ht
  obtain ⟨⟨cls2, dd2, data2, sl2⟩, ho2, hc2, n2, hd2⟩ := id hb
  simp only at hc hd hc2 hd2
  subst hc hd hc2 hd2
  have e : vs.toArray ++ ws.toArray = (vs ++ ws).toArray := by simp
  by_cases hw : ws = []
  · exact concat_meets ⟨_, ho, rfl⟩ ⟨_, ho2, rfl⟩ noFill_tuple_add seq_tuple_add PySem.F.slot_tuple_add PySem.F.entry_tuple_add (PySem.F.args_tuple_add_2 _ _)
      (tuple_addW1 t b vs.toArray ws.toArray n n2 dd dd2 sl sl2 (by simpa using hv) (by simp [hw])) ⟨ho, ho2, h1 hw⟩
  · refine concat_meets ⟨_, ho, rfl⟩ ⟨_, ho2, rfl⟩ noFill_tuple_add seq_tuple_add PySem.F.slot_tuple_add PySem.F.entry_tuple_add (PySem.F.args_tuple_add_2 _ _)
      (tuple_addW2 t b vs.toArray ws.toArray n n2 dd dd2 sl sl2 (by simpa using hv) (by simpa using hw) (by rw [List.size_toArray, List.size_toArray]; exact hsz)) ⟨ho, ho2, ?_⟩
    rw [e]
    exact h2 hw

/-! ### t[a:b], not the whole -/
/-- a slice's bound as a place among n (d where it is left out) -/
def sIx (n d : Nat) : Option Int → Nat
  | none => d
  | some v => if v < 0 then (v + (n : Int)).toNat else min v.toNat n
theorem sIx_none (n d : Nat) : sIx n d none = d := rfl
theorem sIx_nat (n d k : Nat) : sIx n d (some (k : Int)) = min k n := by
  show (if (k : Int) < 0 then ((k : Int) + (n : Int)).toNat else min (k : Int).toNat n) = min k n
  rw [if_neg (by omega), Int.toNat_natCast]
theorem sIx_le (n d : Nat) (hd : d ≤ n) (o : Option Int) : sIx n d o ≤ n := by
  cases o with
  | none => exact hd
  | some v =>
    show (if v < 0 then (v + (n : Int)).toNat else min v.toNat n) ≤ n
    by_cases hv : v < 0
    · rw [if_pos hv]; omega
    · rw [if_neg hv]; exact Nat.min_le_right _ _
theorem clip_eq (v : Int) (n d : Nat) : (if v < 0 then max (v + (n : Int)) 0 else min v (n : Int)) = ((sIx n d (some v) : Nat) : Int) := by
  show (if v < 0 then max (v + (n : Int)) 0 else min v (n : Int)) = (((if v < 0 then (v + (n : Int)).toNat else min v.toNat n) : Nat) : Int)
  by_cases hv : v < 0
  · simp only [if_pos hv]; omega
  · simp only [if_neg hv]; omega
theorem adjust_gen (lo hi : Option Int) (n : Nat) : Builtin.Slice.sliceAdjust lo hi 1 (n : Int) = (((sIx n 0 lo : Nat) : Int), ((sIx n n hi : Nat) : Int)) := by
  have h1 : ¬ ((1 : Int) < 0) := by omega
  unfold Builtin.Slice.sliceAdjust
  simp only [h1, if_false]
  refine Prod.ext ?_ ?_
  · cases lo with
    | none => rfl
    | some v => exact clip_eq v n 0
  · cases hi with
    | none => rfl
    | some v => exact clip_eq v n n
theorem places_gen (i j : Nat) : Builtin.Slice.slicePlaces (i : Int) (j : Int) 1 = j - i := by
  unfold Builtin.Slice.slicePlaces
  have h1 : (1 : Int) > 0 := by omega
  simp only [h1, if_true, Int.ediv_one]
  split <;> omega
theorem slicePart_ {v : Value} {o : Option Int} {Q : Option Int → Shared → Prop} (p : IsPart v o) (h : Q o s) : wpAny (model prog w) A (Builtin.Slice.slicePartIndex v) Q E s := by
  cases p with
  | none => exact slicePart_none h
  | int i t => exact slicePart_int h
theorem sliceApplied_gen {sl : Addr} {vl vu : Value} {lo hi : Option Int} {n : Nat} {Q : Int × Int × Nat → Shared → Prop} (hs : s.heap.IsSliceOf sl vl vu .none) (pl : IsPart vl lo) (pu : IsPart vu hi)
    (h : Q (((sIx n 0 lo : Nat) : Int), 1, sIx n n hi - sIx n 0 lo) s) : wpAny (model prog w) A (Builtin.Slice.sliceApplied (.ref sl) (pure (n : Int))) Q E s := by
  obtain ⟨os, hos, hcs, hds⟩ := id hs
  unfold Builtin.Slice.sliceApplied Builtin.Slice.sliceFields
  refine wpAny_bind (wpAny_bind (wpAny_field hos hds (x := vl) rfl (wpAny_bind (wpAny_field hos hds (x := vu) rfl (wpAny_bind (wpAny_field hos hds (x := .none) rfl (wpAny_pure ?_)))))))
  refine wpAny_bind (slicePart_none ?_)
  show wpAny _ _ (if ((1 : Int) == 0) = true then _ else _) _ _ s
  rw [if_neg (by decide)]
  refine wpAny_bind (slicePart_ pl (wpAny_bind (slicePart_ pu (wpAny_bind (wpAny_pure ?_)))))
  show wpAny _ _ (match Builtin.Slice.sliceAdjust lo hi 1 (n : Int) with | (lo, hi) => pure (lo, (1 : Int), Builtin.Slice.slicePlaces lo hi 1)) _ _ s
  rw [adjust_gen lo hi n]
  show wpAny _ _ (pure (((sIx n 0 lo : Nat) : Int), (1 : Int), Builtin.Slice.slicePlaces ((sIx n 0 lo : Nat) : Int) ((sIx n n hi : Nat) : Int) 1)) _ _ s
  rw [places_gen]
  exact wpAny_pure h
theorem pick_gen (xs : Array Value) (i k : Nat) : ((List.range k).filterMap fun (m : Nat) => xs[((i : Int) + (m : Int) * 1).toNat]?).toArray = ((xs.toList.drop i).take k).toArray := by
  have e : (fun (m : Nat) => xs[((i : Int) + (m : Int) * 1).toNat]?) = fun m => xs[i + m]? := by
    funext m
    have : ((i : Int) + (m : Int) * 1).toNat = i + m := by omega
    rw [this]
  rw [e]
  have := pick_run xs i k
  rw [List.filterMap_map] at this
  have e2 : ((fun x => xs[x]?) ∘ fun x => i + x) = fun m => xs[i + m]? := rfl
  rw [e2] at this
  rw [this]

theorem getItem_tuple_cut {t sl : Addr} {items : Array Value} {vl vu : Value} {lo hi : Option Int} {Q : Value → Shared → Prop} (ht : IsTup s.heap t items) (hs : s.heap.IsSliceOf sl vl vu .none) (pl : IsPart vl lo) (pu : IsPart vu hi)
    (hw : ¬ (sIx items.size 0 lo = 0 ∧ sIx items.size items.size hi = items.size))
    (h : Q (.ref s.heap.objs.size) { s with heap := s.heap.push { cls := .type "tuple", data := .seq ((items.toList.drop (sIx items.size 0 lo)).take (sIx items.size items.size hi - sIx items.size 0 lo)).toArray } })
    (hsz : items.size ≤ sizeLine) : wpAny (model prog w) A (getItem (.ref t) (.ref sl)) Q E s := by
  have htake : sizeOk (.seq ((items.toList.drop (sIx items.size 0 lo)).take (sIx items.size items.size hi - sIx items.size 0 lo)).toArray) := by
    show ((items.toList.drop (sIx items.size 0 lo)).take (sIx items.size items.size hi - sIx items.size 0 lo)).toArray.size ≤ sizeLine
    rw [List.size_toArray, List.length_take, List.length_drop, Array.length_toList]
    omega
  have hj : sIx items.size items.size hi ≤ items.size := sIx_le _ _ (Nat.le_refl _) hi
  obtain ⟨os, hos, hcs, hds⟩ := id hs
  have hTs : s.TypeIs (.ref sl) "slice" := ⟨os, hos, hcs⟩
  unfold getItem
  try with_reducible refine wpAny_holding ?_
  first | refine wpAny_bind (wpAny_pure ?_) | skip
  refine wpAny_bind (wpAny_sequenceKey ht.typeIs (by decide) ?_)
  refine wpAny_bind (wpAny_callSpecial?_slot (name := Str.ofString "__getitem__") ht.typeIs PyProof.Rows.slot_tuple_getitem
    (wpAny_call_entry PyProof.Rows.slot_tuple_getitem ht.typeIs entry_tuple_getitem ?_ (args_tuple_getitem _ _)))
  show wpAny _ _ (Builtin.Tuple.tupleItemsOf (.ref t) >>= _) _ _ s
  refine wpAny_bind (tupleItemsOf_ ht ?_)
  refine wpAny_bind (wpAny_typeOf hTs ?_)
  rw [if_pos (by decide)]
  refine wpAny_bind (sliceApplied_gen hs pl pu ?_)
  have hno : ¬ ((((sIx items.size 0 lo : Nat) : Int) == 0 && (1 : Int) == 1 && (sIx items.size items.size hi - sIx items.size 0 lo) == items.size) = true) := by
    intro q
    rw [Bool.and_eq_true, Bool.and_eq_true] at q
    have q1 : ((sIx items.size 0 lo : Nat) : Int) = 0 := eq_of_beq q.1.1
    have q2 : sIx items.size items.size hi - sIx items.size 0 lo = items.size := eq_of_beq q.2
    exact hw ⟨by omega, by omega⟩
  show wpAny _ _ (if (((sIx items.size 0 lo : Nat) : Int) == 0 && (1 : Int) == 1 && (sIx items.size items.size hi - sIx items.size 0 lo) == items.size) = true then _ else _) _ _ s
  rw [if_neg hno, pick_gen]
  first
    | exact wpAny_bind (m := Builtin.Tuple.tupleExact _) (wpAny_newObj_type (wpAny_pure ⟨_, rfl, wpAny_pure h⟩) htake)
    | exact wpAny_bind (m := Builtin.Tuple.tupleExact _) (wpAny_newObj_type (wpAny_bind (wpAny_pure (wpAny_pure ⟨_, rfl, wpAny_pure h⟩))) htake)
    | exact wpAny_bind (wpAny_bind (m := Builtin.Tuple.tupleExact _) (wpAny_newObj_type (wpAny_pure (wpAny_pure ⟨_, rfl, wpAny_pure h⟩)) htake))
    | exact wpAny_bind (wpAny_bind (m := Builtin.Tuple.tupleExact _) (wpAny_newObj_type (wpAny_pure ⟨_, rfl, wpAny_pure h⟩) htake))
end
end HT

namespace L2
open PySem PySem.Spec PyProof.Rows

/-! ### the parts of a slice -/
abbrev TO := St → Hp → (Option Int → Hp → Prop) → Prop
/-- a slice's part (left out, or an int) -/
def PO (X : Cx) (e : Option Expr) (t : TO) : Prop :=
  ∀ (pins : List (Addr × Obj)) (s : Shared) (σ : St) (H : Hp) (Q : Option Int → Hp → Prop), Inv X pins σ H s → t σ H Q →
    wpAny (model X.prog X.w) X.A (evalPart e X.env) (fun u s' => ∃ o H', Inv X pins σ H' s' ∧ IsPart u o ∧ Q o H') X.xe s
def tNoPart : TO := fun _ H Q => Q none H
def tPart (t : TE) : TO := fun σ H Q => t σ H fun x H1 => ∃ i, x = .int i ∧ Q (some i) H1

theorem intsAre_of {ns : List Int} : ∀ {us : List Value}, Vals (ns.map V.int) us → IntsAre us ns := by
  induction ns with
  | nil => intro us r; rw [List.map_nil] at r; cases r; exact .nil
  | cons n ns ih =>
    intro us r
    rw [List.map_cons] at r
    cases r with
    | cons r1 r2 =>
      obtain ⟨t, e⟩ := r1
      subst e
      exact .cons n t (ih r2)

section
variable {X : Cx} {e : Expr} {te : TE} {lo hi : Option Expr} {tl th : TO} {pos p2 : Pos}

theorem po_none : PO X none tNoPart := by
  intro pins s σ H Q I h
  rw [evalPart_none]
  exact wpAny_pure ⟨none, H, I, .none, h⟩
theorem po_some (h : PE X e te) : PO X (some e) (tPart te) := by
  intro pins s σ H Q I hw
  rw [evalPart_some]
  refine thn (h pins s σ H _ I hw) fun u s1 ⟨x, H1, I1, r1, q1⟩ => ?_
  obtain ⟨i, rfl, q⟩ := q1
  obtain ⟨t, rfl⟩ := r1
  exact ⟨some i, H1, I1, .int i t, q⟩

/-- what a slice of a value is, by values: the slice object stands at sl -/
def SlR (X : Cx) (r : V → Option Int → Option Int → Hp → VK → Prop) : Prop :=
  ∀ (pins : List (Addr × Obj)) (s : Shared) (σ : St) (H : Hp) (x : V) (v vl vu : Value) (lo hi : Option Int) (sl : Addr) (Q : VK), Inv X pins σ H s → RelV x v → s.heap.IsSliceOf sl vl vu .none → IsPart vl lo → IsPart vu hi → r x lo hi H Q →
    ∃ T id, typeLookup (.type T) "__getitem__" = pure (some (.builtin id)) ∧ s.TypeIs v T ∧ wpAny (model X.prog X.w) X.A (getItem v (.ref sl)) (EP X pins σ Q) X.xe s
theorem SlR.or {r r' : V → Option Int → Option Int → Hp → VK → Prop} (h : SlR X r) (h' : SlR X r') : SlR X (fun x lo hi H Q => r x lo hi H Q ∨ r' x lo hi H Q) := by
  intro pins s σ H x v vl vu lo hi sl Q I rx hs pl pu q
  rcases q with q | q
  · exact h pins s σ H x v vl vu lo hi sl Q I rx hs pl pu q
  · exact h' pins s σ H x v vl vu lo hi sl Q I rx hs pl pu q
def tSl (r : V → Option Int → Option Int → Hp → VK → Prop) (te : TE) (tl th : TO) : TE := fun σ H Q => te σ H fun x H1 => tl σ H1 fun l H2 => th σ H2 fun u H3 => r x l u H3 Q
/-- a[lo:hi], any a -/
theorem pe_slice {r : V → Option Int → Option Int → Hp → VK → Prop} (hr : SlR X r) (he : PE X e te) (hl : PO X lo tl) (hu : PO X hi th) : PE X (.Subscript e (.Slice lo hi none p2) pos) (tSl r te tl th) := by
  intro pins s σ H Q I h
  refine Subscript_ (thn (he pins s σ H _ I h) fun v s1 ⟨x, H1, I1, r1, q1⟩ => ?_)
  refine wpAny_Slice (thn (hl pins s1 σ H1 _ I1 q1) fun vl s2 ⟨l, H2, I2, pl, q2⟩ => thn (hu pins s2 σ H2 _ I2 q2) fun vu s3 ⟨u, H3, I3, pu, q3⟩ => ?_)
  rw [evalPart_none]
  refine wpAny_pure ?_
  have I4 : Inv X pins σ H3 { s3 with heap := s3.heap.push { cls := .type "slice", data := .fields #[vl, vu, .none] } } := I3.kept (t' := s3.toks) fun b ob q => Heap.get?_push_of_some _ q
  obtain ⟨T, id, hT, ht, hg⟩ := hr pins { s3 with heap := s3.heap.push { cls := .type "slice", data := .fields #[vl, vu, .none] } } σ H3 x v vl vu l u s3.heap.objs.size Q I4 r1 (Heap.IsSliceOf.new ..) pl pu q3
  show wpAny (model X.prog X.w) X.A (subscriptTail e (.Slice lo hi none p2) v (.ref s3.heap.objs.size)) (EP X pins σ Q) X.xe { s3 with heap := s3.heap.push { cls := .type "slice", data := .fields #[vl, vu, .none] } }
  exact tail_any (ops := [.ref s3.heap.objs.size, v]) ht hT hg (by with_unfolding_all rfl)

/-- the items of xs[lo:hi] -/
def cutV (xs : List V) (lo hi : Option Int) : List V := (xs.drop (HT.sIx xs.length 0 lo)).take (HT.sIx xs.length xs.length hi - HT.sIx xs.length 0 lo)
theorem cutV_length (xs : List V) (lo hi : Option Int) : (cutV xs lo hi).length ≤ xs.length := by
  unfold cutV
  rw [List.length_take, List.length_drop]
  omega
/-- t[lo:hi], not the whole of it (the whole would be t itself) -/
def rSlT (K : PySem.W.Frag) : V → Option Int → Option Int → Hp → VK → Prop := fun x lo hi H Q => ∃ a xs, x = .ref a ∧ SqT K H a xs ∧
  ¬ (HT.sIx xs.length 0 lo = 0 ∧ HT.sIx xs.length xs.length hi = xs.length) ∧ ∀ p, H p = none → Q (.ref p) (upd H p (.tup (cutV xs lo hi)))
theorem sl_tup : SlR X (rSlT X.K) := by
  intro pins s σ H x v vl vu lo hi sl Q I rx hs pl pu h
  obtain ⟨a, xs, rfl, hx, hw, q⟩ := h
  cases rx
  obtain ⟨its, r, ht, hz⟩ := I.tuple hx
  have hlen : its.toArray.size = xs.length := by rw [List.size_toArray]; exact r.length.symm
  refine ⟨"tuple", _, PyProof.Rows.slot_tuple_getitem.lookup, ht.typeIs, ?_⟩
  refine HT.getItem_tuple_cut ht hs pl pu (by rw [hlen]; exact hw) ?_ (by rw [hlen]; exact hz)
  rw [hlen]
  refine ⟨.ref s.heap.objs.size, _, I.laid (t' := s.toks) (o := .tup (cutV xs lo hi)) (fun b ob q => Heap.get?_push_of_some _ q) (Nat.le_refl _) ?_, rfl, q _ (I.hok.fresh (Nat.le_refl _))⟩
  exact ⟨Nat.le_trans (cutV_length xs lo hi) hz, _, (r.drop (HT.sIx xs.length 0 lo)).take (HT.sIx xs.length xs.length hi - HT.sIx xs.length 0 lo), IsTup.new _ _⟩

/-! ### t < u, t + u -/
def rLtT (K : PySem.W.Frag) : R2 := fun x y H Q => ∃ a b ns ms, x = .ref a ∧ y = .ref b ∧ SqT K H a (ns.map V.int) ∧ SqT K H b (ms.map V.int) ∧ Q (.bl (HT.lexLt ns ms)) H
theorem op_ltT (hu : X.A.units < cLine) : OpR X (compareOp .Lt) (rLtT X.K) := by
  intro pins s σ H x y v u Q I rx ry h
  obtain ⟨a, b, ns, ms, rfl, rfl, ha, hb, q⟩ := h
  cases rx
  cases ry
  obtain ⟨its, r1, p1, _⟩ := I.tuple ha
  obtain ⟨its2, r2, p2, _⟩ := I.tuple hb
  have i1 : IntsAre its.toArray.toList ns := intsAre_of r1
  have i2 : IntsAre its2.toArray.toList ms := intsAre_of r2
  exact HT.lt_tupInts p1 p2 i1 i2 hu ⟨.bl (HT.lexLt ns ms), H, I, rfl, q⟩
/-- t + u, t not empty: u empty gives t itself -/
def rCatT (K : PySem.W.Frag) : R2 := fun x y H Q => ∃ a b xs ys, x = .ref a ∧ y = .ref b ∧ SqT K H a xs ∧ SqT K H b ys ∧ xs ≠ [] ∧ xs.length + ys.length ≤ sizeLine ∧
  (ys = [] → Q (.ref a) H) ∧ (ys ≠ [] → ∀ p, H p = none → Q (.ref p) (upd H p (.tup (xs ++ ys))))
theorem Vals.nil_iff {xs : List V} {us : List Value} (r : Vals xs us) : us = [] ↔ xs = [] := by
  cases r with
  | nil => simp
  | cons _ _ => simp
theorem op_catT : OpR X (binaryOp .Add) (rCatT X.K) := by
  intro pins s σ H x y v u Q I rx ry h
  obtain ⟨a, b, xs, ys, rfl, rfl, ha, hb, hx, hz, q1, q2⟩ := h
  cases rx
  cases ry
  obtain ⟨its, r1, p1, _⟩ := I.tuple ha
  obtain ⟨its2, r2, p2, _⟩ := I.tuple hb
  refine HT.cat_tup p1 p2 (fun z => hx (r1.nil_iff.mp z)) (fun z => ⟨.ref a, H, I, rfl, q1 (r2.nil_iff.mp z)⟩) (fun z => ?_) (by rw [← r1.length, ← r2.length]; exact hz)
  refine ⟨.ref s.heap.objs.size, _, I.laid (t' := s.toks) (o := .tup (xs ++ ys)) (fun b ob q => Heap.get?_push_of_some _ q) (Nat.le_refl _) ?_, rfl, q2 (fun w => z (r2.nil_iff.mpr w)) _ (I.hok.fresh (Nat.le_refl _))⟩
  exact ⟨by rw [List.length_append]; exact hz, _, r1.append r2, IsTup.new _ _⟩
/-- tuple(t) -/
theorem call_tupleT : CallR X (.type "tuple") (fun xs H Q => ∃ a ys, xs = [.ref a] ∧ SqT X.K H a ys ∧ Q (.ref a) H) := by
  intro pins s σ H xs us Q I r h
  obtain ⟨a, ys, rfl, ha, q⟩ := h
  obtain ⟨u, rfl, ru⟩ := vals1 r
  cases ru
  obtain ⟨its, _, p1, _⟩ := I.tuple ha
  exact call_tuple_same (items := its.toArray) p1 ⟨.ref a, H, I, rfl, q⟩
end
end L2

namespace L2
open PySem PySem.Spec PyProof.Rows

/-! ### places -/
/-- the place that an index of any sign means -/
def ixN (n : Nat) (i : Int) : Option Nat := if 0 ≤ i then (if i < n then some i.toNat else none) else if -(n : Int) ≤ i then some (i + n).toNat else none
def atI {α : Type} (xs : List α) (i : Int) : Option α := (ixN xs.length i).bind fun j => xs[j]?
theorem ixN_seq {n : Nat} {i : Int} {j : Nat} (h : ixN n i = some j) : seqIndex? i n = some j ∧ j < n ∧ -(n : Int) ≤ i ∧ i < n := by
  unfold ixN at h
  by_cases h0 : 0 ≤ i
  · rw [if_pos h0] at h
    by_cases h1 : i < n
    · rw [if_pos h1] at h
      have e : i.toNat = j := Option.some.inj h
      exact ⟨by rw [seqIndex_of h0 h1, e], by omega, by omega, h1⟩
    · rw [if_neg h1] at h; cases h
  · rw [if_neg h0] at h
    by_cases h1 : -(n : Int) ≤ i
    · rw [if_pos h1] at h
      have e : (i + n).toNat = j := Option.some.inj h
      exact ⟨by rw [seqIndex_neg (by omega) h1, e], by omega, h1, by omega⟩
    · rw [if_neg h1] at h; cases h
theorem atI_get {α : Type} {xs : List α} {i : Int} {v : α} (h : atI xs i = some v) : ∃ j, seqIndex? i xs.length = some j ∧ xs[j]? = some v ∧ j < xs.length ∧ -(xs.length : Int) ≤ i ∧ i < xs.length := by
  unfold atI at h
  cases e : ixN xs.length i with
  | none => rw [e] at h; cases h
  | some j =>
    rw [e] at h
    obtain ⟨h1, h2, h3, h4⟩ := ixN_seq e
    exact ⟨j, h1, h, h2, h3, h4⟩
theorem atI_nat {α : Type} {xs : List α} {j : Nat} {v : α} (h : xs[j]? = some v) : atI xs (j : Int) = some v := by
  have hj : j < xs.length := (List.getElem?_eq_some_iff.mp h).1
  have e : ixN xs.length (j : Int) = some j := by
    unfold ixN
    rw [if_pos (by omega), if_pos (by omega)]; simp
  unfold atI; rw [e]; exact h
theorem atI_last {α : Type} (xs : List α) (v : α) : atI (xs ++ [v]) (-1) = some v := by
  have hl : (xs ++ [v]).length = xs.length + 1 := by simp
  have e : ixN (xs ++ [v]).length (-1) = some xs.length := by
    unfold ixN
    rw [hl, if_neg (by decide), if_pos (by omega)]
    congr 1
    omega
  unfold atI
  rw [e]
  show (xs ++ [v])[xs.length]? = some v
  simp

/-! ### what may be subscripted -/
/-- what stands as an index of a plain subscript -/
def PlainIx (b : Expr) : Prop := ∀ o i, subscripted b false o i = operate [o, i] (getItem o i)
/-- a subscript by values -/
def IxR (X : Cx) (r : R2) : Prop :=
  ∀ (value slice : Expr) (pins : List (Addr × Obj)) (s : Shared) (σ : St) (H : Hp) (x y : V) (v u : Value) (Q : VK), Inv X pins σ H s → RelV x v → RelV y u → r x y H Q →
    subscripted slice false v u = operate [v, u] (getItem v u) → wpAny (model X.prog X.w) X.A (subscriptTail value slice v u) (EP X pins σ Q) X.xe s
/-- a call of a builtin's method by values: the receiver, the arguments -/
def MtR (X : Cx) (id : String) (r : V → List V → Hp → VK → Prop) : Prop :=
  ∀ (pins : List (Addr × Obj)) (s : Shared) (σ : St) (H : Hp) (x : V) (xs : List V) (v : Value) (us : List Value) (Q : VK), Inv X pins σ H s → RelV x v → Vals xs us → r x xs H Q →
    wpAny (model X.prog X.w) X.A (call (.builtin id) (v :: us)) (EP X pins σ Q) X.xe s
section
variable {X : Cx} {a b : Expr} {ta tb : TE} {pos : Pos}
theorem IxR.or {r r' : R2} (h : IxR X r) (h' : IxR X r') : IxR X (fun x y H Q => r x y H Q ∨ r' x y H Q) := by
  intro value slice pins s σ H x y v u Q I rx ry q hs
  rcases q with q | q
  · exact h value slice pins s σ H x y v u Q I rx ry q hs
  · exact h' value slice pins s σ H x y v u Q I rx ry q hs
theorem MtR.or {id : String} {r r' : V → List V → Hp → VK → Prop} (h : MtR X id r) (h' : MtR X id r') : MtR X id (fun x xs H Q => r x xs H Q ∨ r' x xs H Q) := by
  intro pins s σ H x xs v us Q I rx rs q
  rcases q with q | q
  · exact h pins s σ H x xs v us Q I rx rs q
  · exact h' pins s σ H x xs v us Q I rx rs q
/-- a[b] -/
theorem pe_ix {r : R2} (hr : IxR X r) (ha : PE X a ta) (hb : PE X b tb) (hs : PlainIx b) : PE X (.Subscript a b pos) (tOp r ta tb) := by
  intro pins s σ H Q I h
  exact Subscript_ (binT ha hb I h fun v u s2 x y H2 I2 rx ry q => hr a b pins s2 σ H2 x y v u Q I2 rx ry q (hs _ _))

def rIxL (K : PySem.W.Frag) : R2 := fun x y H Q => ∃ p xs i v, x = .ref p ∧ y = .int i ∧ SqL K H p xs ∧ atI xs i = some v ∧ Q v H
def rIxT (K : PySem.W.Frag) : R2 := fun x y H Q => ∃ p xs i v, x = .ref p ∧ y = .int i ∧ SqT K H p xs ∧ atI xs i = some v ∧ Q v H
def rIxS : R2 := fun x y H Q => ∃ z i c, x = .str z ∧ y = .int i ∧ z.length ≤ sizeLine ∧ atI z.cps.toList i = some c ∧ Q (.str ⟨#[c]⟩) H
theorem ix_list : IxR X (rIxL X.K) := by
  intro value slice pins s σ H x y v u Q I rx ry h hs
  obtain ⟨p, xs, i, z, rfl, rfl, hq, he, q⟩ := h
  cases rx
  obtain ⟨t, rfl⟩ := ry
  obtain ⟨its, r, pl, hz⟩ := I.list hq
  obtain ⟨j, h1, h2, h3, h4, h5⟩ := atI_get he
  obtain ⟨w, ew, rw'⟩ := r.get h2
  have hl := r.length
  have hn := line63
  have fin : EP X pins σ Q w s := ⟨z, H, I, rw', q⟩
  by_cases h0 : 0 ≤ i
  · have hj : i.toNat = j := by
      rw [seqIndex_of h0 h5] at h1
      exact Option.some.inj h1
    exact item_listR pl.isList h0 (by omega) (by rw [hj]; simpa using ew) fin hs
  · have hj : (i + (its.toArray.size : Int)).toNat = j := by
      rw [seqIndex_neg (by omega) h4] at h1
      rw [List.size_toArray, ← hl]
      exact Option.some.inj h1
    exact subscriptTail_builtinR (x := w) pl.isList.typeIs slot_list_getitem.lookup
      (wpAny_getItem_list_neg (Q := fun r s' => r = w ∧ EP X pins σ Q r s') pl.isList (by omega) (by rw [List.size_toArray] <;> omega) (by omega) (by rw [hj]; simpa using ew) ⟨rfl, fin⟩) hs
theorem ix_tup : IxR X (rIxT X.K) := by
  intro value slice pins s σ H x y v u Q I rx ry h hs
  obtain ⟨p, xs, i, z, rfl, rfl, hq, he, q⟩ := h
  cases rx
  obtain ⟨t, rfl⟩ := ry
  obtain ⟨its, r, pl, hz⟩ := I.tuple hq
  obtain ⟨j, h1, h2, h3, h4, h5⟩ := atI_get he
  obtain ⟨w, ew, rw'⟩ := r.get h2
  have hl := r.length
  have hn := line63
  have fin : EP X pins σ Q w s := ⟨z, H, I, rw', q⟩
  exact subscriptTail_builtinR (x := w) pl.typeIs slot_tuple_getitem.lookup
    (getItem_tuple (j := j) (Q := fun r s' => r = w ∧ EP X pins σ Q r s') pl (by omega) (by omega) (by rw [List.size_toArray, ← hl]; exact h1) (by simpa using ew) ⟨rfl, fin⟩) hs
theorem ix_str : IxR X rIxS := by
  intro value slice pins s σ H x y v u Q I rx ry h hs
  obtain ⟨z, i, c, rfl, rfl, hz, he, q⟩ := h
  obtain ⟨t, rfl⟩ := rx
  obtain ⟨t', rfl⟩ := ry
  obtain ⟨j, h1, h2, h3, h4, h5⟩ := atI_get he
  have hl : z.cps.toList.length = z.length := by simp [Str.length]
  rw [hl] at h1 h4 h5
  have hn := line63
  exact tail_any (typeIs_str s z t) slot_str_getitem.lookup (getItem_str (c := c) (by
    have e1 : decide (i < -(2 ^ 63 : Int)) = false := decide_eq_false (by omega)
    have e2 : decide (i ≥ 2 ^ 63) = false := decide_eq_false (by omega)
    rw [e1, e2, Bool.or_false]) (by rw [h1]; simpa using h2) ⟨.str ⟨#[c]⟩, H, I.tok _, ⟨_, rfl⟩, q⟩) hs
/-- list, tuple or str -/
def rIx (K : PySem.W.Frag) : R2 := fun x y H Q => rIxL K x y H Q ∨ rIxT K x y H Q ∨ rIxS x y H Q
theorem ix_seq : IxR X (rIx X.K) := ix_list.or (ix_tup.or ix_str)

/-! ### xs[i] = v, any sign -/
/-- the list's object behind a store -/
theorem mapSeq_set (its : List Value) (n j : Nat) (u : Value) : Obj.mapSeq (·.setIfInBounds j u) { cls := .type "list", data := .seq its.toArray n } = { cls := .type "list", data := .seq (its.set j u).toArray n } := by
  simp [Obj.mapSeq]
theorem Inv.lst {pins : List (Addr × Obj)} {σ : St} {H : Hp} {s : Shared} {p : Addr} {xs : List V} (I : Inv X pins σ H s) (h : H p = some (.lst xs)) :
    ∃ (its : List Value) (n : Nat), Vals xs its ∧ s.heap.get? p = some { cls := .type "list", data := .seq its.toArray n } ∧ xs.length ≤ sizeLine := by
  obtain ⟨z, its, n, r, e⟩ := I.hok p _ h
  exact ⟨its, n, r, e, z⟩
/-- the list at p is written by an update of its object -/
theorem Inv.lstUpd {pins : List (Addr × Obj)} {σ : St} {H : Hp} {s : Shared} {p : Addr} {xs ys : List V} {its its' : List Value} {n n' : Nat} {f : Obj → Obj} (I : Inv X pins σ H s) (h : H p = some (.lst xs))
    (ho : s.heap.get? p = some { cls := .type "list", data := .seq its.toArray n }) (hf : f { cls := .type "list", data := .seq its.toArray n } = { cls := .type "list", data := .seq its'.toArray n' }) (r : Vals ys its') (hz : ys.length ≤ sizeLine) (t : Nat) :
    Inv X pins σ (upd H p (.lst ys)) { s with heap := s.heap.update p f, toks := t } := by
  have e : (s.heap.update p f).get? p = some { cls := .type "list", data := .seq its'.toArray n' } := by
    rw [Heap.get?_update_self f ho (by rw [hf] <;> rfl), hf]
  refine I.write (x := p) (e := p) (by rw [h]; trivial) (.inl rfl) (fun b u hb q => (Heap.get?_update_other _ _ (Ne.symm hb)).trans q) ⟨_, e⟩ ?_
  exact ⟨hz, its', n', r, e⟩
def rSetL : V → V → V → Hp → (Hp → Prop) → Prop := fun o i v H Q => ∃ p xs k j, o = .ref p ∧ i = .int k ∧ H p = some (.lst xs) ∧ ixN xs.length k = some j ∧ Q (upd H p (.lst (xs.set j v)))
theorem set_list : PSet X rSetL := by
  intro pins s σ H o i v ov iv u Q I ro ri rv h
  obtain ⟨p, xs, k, j, rfl, rfl, hp, hj, q⟩ := h
  cases ro
  obtain ⟨t, rfl⟩ := ri
  obtain ⟨its, n, r, ho, hz⟩ := I.lst hp
  obtain ⟨h1, h2, h3, h4⟩ := ixN_seq hj
  have hl := r.length
  have hn := line63
  have I' : Inv X pins σ (upd H p (.lst (xs.set j v))) { s with heap := s.heap.update p (Obj.mapSeq (·.setIfInBounds j u)) } :=
    I.lstUpd hp ho (mapSeq_set its n j u) (r.set rv j) (by rw [List.length_set]; exact hz) s.toks
  by_cases h0 : 0 ≤ k
  · have hk : k.toNat = j := by
      rw [seqIndex_of h0 h4] at h1
      exact Option.some.inj h1
    exact PySem.W.ki_setAt ho h0 (by omega) (by rw [List.size_toArray, ← hl]; exact h4) (by rw [hk]; exact ⟨_, I', q⟩)
  · have hk : (k + (its.toArray.size : Int)).toNat = j := by
      rw [seqIndex_neg (by omega) h3] at h1
      rw [List.size_toArray, ← hl]
      exact Option.some.inj h1
    exact PySem.W.ki_setBack ho (by omega) (by rw [List.size_toArray, ← hl]; exact h3) (by omega) (by rw [hk]; exact ⟨_, I', q⟩)

/-! ### slices -/
theorem slice_bounds (lo hi : Option Int) (n : Nat) : (sliceBounds lo hi none n).1 = ((HT.sIx n 0 lo : Nat) : Int) ∧ (sliceBounds lo hi none n).2.1 = ((HT.sIx n n hi : Nat) : Int) ∧ (sliceBounds lo hi none n).2.2 = 1 := by
  refine ⟨?_, ?_, rfl⟩
  · cases lo with
    | none => simp [sliceBounds, HT.sIx]
    | some i =>
      simp only [sliceBounds, HT.sIx, Option.getD_none, show (1 : Int) > 0 by decide, if_true]
      by_cases h : i < 0
      · simp only [h, if_true] <;> omega
      · simp only [h, if_false] <;> omega
  · cases hi with
    | none => simp [sliceBounds, HT.sIx]
    | some i =>
      simp only [sliceBounds, HT.sIx, Option.getD_none, show (1 : Int) > 0 by decide, if_true]
      by_cases h : i < 0
      · simp only [h, if_true] <;> omega
      · simp only [h, if_false] <;> omega
theorem slicePick_cut (its : List Value) (lo hi : Option Int) : slicePick its.toArray lo hi none = ((its.drop (HT.sIx its.length 0 lo)).take (HT.sIx its.length its.length hi - HT.sIx its.length 0 lo)).toArray := by
  obtain ⟨h1, h2, h3⟩ := slice_bounds lo hi its.toArray.size
  unfold slicePick
  rw [h1, h2, h3]
  simp only [sliceRange_one, pick_run, List.size_toArray] <;> rfl
/-- xs[lo:hi] of a list: a new list -/
def rSlL (K : PySem.W.Frag) : V → Option Int → Option Int → Hp → VK → Prop := fun x lo hi H Q => ∃ a xs, x = .ref a ∧ SqL K H a xs ∧ ∀ p, H p = none → Q (.ref p) (upd H p (.lst (cutV xs lo hi)))
theorem sl_list : SlR X (rSlL X.K) := by
  intro pins s σ H x v vl vu lo hi sl Q I rx hs pl pu h
  obtain ⟨a, xs, rfl, hx, q⟩ := h
  cases rx
  obtain ⟨its, r, ht, hz⟩ := I.list hx
  have hlen := r.length
  refine ⟨"list", _, slot_list_getitem.lookup, ht.isList.typeIs, ?_⟩
  refine wpAny_getItem_list_slice ht.isList hs pl pu .none (by simp) ?_ (by rw [List.size_toArray] <;> omega)
  rw [slicePick_cut, ← hlen]
  refine ⟨.ref s.heap.objs.size, _, I.laid (t' := s.toks) (o := .lst (cutV xs lo hi)) (fun b ob q => Heap.get?_push_of_some _ q) (Nat.le_refl _) ?_, rfl, q _ (I.hok.fresh (Nat.le_refl _))⟩
  exact ⟨Nat.le_trans (cutV_length xs lo hi) hz, _, 0, (r.drop (HT.sIx xs.length 0 lo)).take (HT.sIx xs.length xs.length hi - HT.sIx xs.length 0 lo), Heap.get?_push_size _ rfl⟩

/-! ### in, not in: flat items -/
def flatV : V → Bool
  | .non => true
  | .bl _ => true
  | .int _ => true
  | .str _ => true
  | _ => false
/-- == of flat values -/
def eqV : V → V → Bool
  | .non, .non => true
  | .bl a, .bl b => a == b
  | .bl a, .int b => (if a then 1 else 0) == b
  | .int a, .bl b => a == (if b then 1 else 0)
  | .int a, .int b => a == b
  | .str a, .str b => a == b
  | _, _ => false
theorem eqAt_V {A : Around} {s : Shared} {y x : V} {u v : Value} (ry : RelV y u) (rx : RelV x v) (fy : flatV y = true) (fx : flatV x = true) : SeqAt.EqAt A s u v (eqV y x) := by
  cases y with
  | non =>
    cases ry
    cases x with
    | non => cases rx; exact SeqAt.EqAt.same _
    | bl b => cases rx; exact SeqAt.EqAt.none_bool b
    | int b => obtain ⟨t, rfl⟩ := rx; exact SeqAt.EqAt.none_int b t
    | str b => obtain ⟨t, rfl⟩ := rx; exact SeqAt.EqAt.none_str b t
    | _ => exact absurd (show false = true from fx) Bool.false_ne_true
  | bl a =>
    cases ry
    cases x with
    | non => cases rx; exact SeqAt.EqAt.bool_none a
    | bl b => cases rx; exact SeqAt.EqAt.bool_bool a b
    | int b => obtain ⟨t, rfl⟩ := rx; exact SeqAt.EqAt.bool_int a b t
    | str b => obtain ⟨t, rfl⟩ := rx; exact SeqAt.EqAt.bool_str a b t
    | _ => exact absurd (show false = true from fx) Bool.false_ne_true
  | int a =>
    obtain ⟨t', rfl⟩ := ry
    cases x with
    | non => cases rx; exact SeqAt.EqAt.int_none a t'
    | bl b => cases rx; exact SeqAt.EqAt.int_bool a t' b
    | int b => obtain ⟨t, rfl⟩ := rx; exact SeqAt.EqAt.int_int a t' b t
    | str b => obtain ⟨t, rfl⟩ := rx; exact SeqAt.EqAt.int_str a t' b t
    | _ => exact absurd (show false = true from fx) Bool.false_ne_true
  | str a =>
    obtain ⟨t', rfl⟩ := ry
    cases x with
    | non => cases rx; exact SeqAt.EqAt.str_none a t'
    | bl b => cases rx; exact SeqAt.EqAt.str_bool a t' b
    | int b => obtain ⟨t, rfl⟩ := rx; exact SeqAt.EqAt.str_int a t' b t
    | str b => obtain ⟨t, rfl⟩ := rx; exact SeqAt.EqAt.str_str a t' b t
    | _ => exact absurd (show false = true from fx) Bool.false_ne_true
  | _ => exact absurd (show false = true from fy) Bool.false_ne_true
/-- the items' answers, read off the values (a value's own answer does not lean on its token) -/
def eqU (x : V) (u : Value) : Bool := match u with
  | .none => eqV .non x
  | .bool b => eqV (.bl b) x
  | .int i _ => eqV (.int i) x
  | .str z _ => eqV (.str z) x
  | _ => false
theorem eqU_of {x y : V} {u : Value} (r : RelV y u) (f : flatV y = true) : eqU x u = eqV y x := by
  cases y with
  | non => cases r; rfl
  | bl b => cases r; rfl
  | int i => obtain ⟨t, rfl⟩ := r; rfl
  | str z => obtain ⟨t, rfl⟩ := r; rfl
  | _ => exact absurd (show false = true from f) Bool.false_ne_true
theorem any_eqU {x : V} : ∀ {xs : List V} {us : List Value}, Vals xs us → xs.all flatV = true → us.any (eqU x) = xs.any fun y => eqV y x
  | _, _, .nil, _ => rfl
  | y :: xs, u :: us, .cons r t, f => by
    rw [List.all_cons, Bool.and_eq_true] at f
    rw [List.any_cons, List.any_cons, eqU_of r f.1, any_eqU t f.2]
theorem mem_eqAt {A : Around} {s : Shared} {x : V} {v : Value} (rx : RelV x v) (fx : flatV x = true) : ∀ {xs : List V} {us : List Value}, Vals xs us → xs.all flatV = true → ∀ u ∈ us, SeqAt.EqAt A s u v (eqU x u)
  | _, _, .nil, _ => fun u hu => by cases hu
  | y :: xs, u :: us, .cons r t, f => fun u' hu => by
    rw [List.all_cons, Bool.and_eq_true] at f
    rcases List.mem_cons.mp hu with rfl | hu
    · rw [eqU_of r f.1]; exact eqAt_V r rx f.1 fx
    · exact mem_eqAt rx fx t f.2 u' hu
def inV (x : V) (xs : List V) : Bool := xs.any fun y => eqV y x
/-- x in a list or tuple of flat items -/
def rIn (K : PySem.W.Frag) (neg : Bool) : R2 := fun x y H Q => ∃ p xs, y = .ref p ∧ (SqL K H p xs ∨ SqT K H p xs) ∧ flatV x = true ∧ xs.all flatV = true ∧ Q (.bl (if neg then !inV x xs else inV x xs)) H
theorem op_in_seq : OpR X (compareOp .In) (rIn X.K false) := by
  intro pins s σ H x y v u Q I rx ry h
  obtain ⟨p, xs, rfl, hq, fx, fs, q⟩ := h
  cases ry
  rcases hq with hq | hq
  · obtain ⟨its, r, pl, hz⟩ := I.list hq
    refine SeqAt.in_listAt (eqU x) pl.isList (fun w hw => mem_eqAt rx fx r fs w (by simpa using hw)) ⟨.bl _, H, I, rfl, ?_⟩
    rw [show its.toArray.any (eqU x) = its.any (eqU x) by simp, any_eqU r fs]
    exact q
  · obtain ⟨its, r, pl, hz⟩ := I.tuple hq
    refine SeqAt.in_tupleAt (eqU x) pl (fun w hw => mem_eqAt rx fx r fs w (by simpa using hw)) ⟨.bl _, H, I, rfl, ?_⟩
    rw [show its.toArray.any (eqU x) = its.any (eqU x) by simp, any_eqU r fs]
    exact q
theorem op_notIn_seq : OpR X (compareOp .NotIn) (rIn X.K true) := by
  intro pins s σ H x y v u Q I rx ry h
  obtain ⟨p, xs, rfl, hq, fx, fs, q⟩ := h
  cases ry
  rcases hq with hq | hq
  · obtain ⟨its, r, pl, hz⟩ := I.list hq
    refine SeqAt.notIn_listAt (eqU x) pl.isList (fun w hw => mem_eqAt rx fx r fs w (by simpa using hw)) ⟨.bl _, H, I, rfl, ?_⟩
    rw [show its.toArray.any (eqU x) = its.any (eqU x) by simp, any_eqU r fs]
    exact q
  · obtain ⟨its, r, pl, hz⟩ := I.tuple hq
    refine SeqAt.notIn_tupleAt (eqU x) pl (fun w hw => mem_eqAt rx fx r fs w (by simpa using hw)) ⟨.bl _, H, I, rfl, ?_⟩
    rw [show its.toArray.any (eqU x) = its.any (eqU x) by simp, any_eqU r fs]
    exact q
theorem op_notIn_str : OpR X (compareOp .NotIn) (fun x y H Q => ∃ i j, x = .str i ∧ y = .str j ∧ Q (.bl (!(!(Builtin.Str.occurrences j i 0 j.length 1).isEmpty))) H) := by
  intro pins s σ H x y v u Q I rx ry h
  obtain ⟨i, j, rfl, rfl, q⟩ := h
  obtain ⟨t, rfl⟩ := rx
  obtain ⟨t', rfl⟩ := ry
  exact notIn_str ⟨.bl _, H, I, rfl, q⟩

/-! ### len, list(x), tuple(x) of any list or tuple that is read -/
theorem call_len_seq : CallR X (.builtin "len") (fun xs H Q => ∃ p ys, xs = [.ref p] ∧ (SqL X.K H p ys ∨ SqT X.K H p ys) ∧ Q (.int ys.length) H) := by
  intro pins s σ H xs us Q I r h
  obtain ⟨p, ys, rfl, hq, q⟩ := h
  obtain ⟨u, rfl, rx⟩ := vals1 r
  cases rx
  have hn := line63
  rcases hq with hq | hq
  · obtain ⟨its, r', pl, hz⟩ := I.list hq
    have hlen := r'.length
    exact Calls.call_len_list pl.isList (by simp only [List.size_toArray] <;> omega) ⟨.int ys.length, H, I.tok _, ⟨s.toks + 1, by rw [List.size_toArray, hlen]⟩, q⟩
  · obtain ⟨its, r', pl, hz⟩ := I.tuple hq
    have hlen := r'.length
    exact len_tuple pl (by simp only [List.size_toArray] <;> omega) ⟨.int ys.length, H, I.tok _, ⟨s.toks + 1, by rw [List.size_toArray, hlen]⟩, q⟩
theorem call_len_str : CallR X (.builtin "len") (fun xs H Q => ∃ z, xs = [.str z] ∧ z.length ≤ sizeLine ∧ Q (.int z.length) H) := by
  intro pins s σ H xs us Q I r h
  obtain ⟨z, rfl, hz, q⟩ := h
  obtain ⟨u, rfl, t, rfl⟩ := vals1 r
  have hn := line63
  exact len_str (by omega) ⟨.int z.length, H, I.tok _, ⟨_, rfl⟩, q⟩
theorem CallR.or {f : Value} {r r' : List V → Hp → VK → Prop} (h : CallR X f r) (h' : CallR X f r') : CallR X f (fun xs H Q => r xs H Q ∨ r' xs H Q) := by
  intro pins s σ H xs us Q I rs q
  rcases q with q | q
  · exact h pins s σ H xs us Q I rs q
  · exact h' pins s σ H xs us Q I rs q
theorem call_list_of : CallR X (.type "list") (fun xs H Q => ∃ p ys, xs = [.ref p] ∧ (SqL X.K H p ys ∨ SqT X.K H p ys) ∧ ∀ l, H l = none → Q (.ref l) (upd H l (.lst ys))) := by
  intro pins s σ H xs us Q I r h
  obtain ⟨p, ys, rfl, hq, q⟩ := h
  obtain ⟨u, rfl, rx⟩ := vals1 r
  cases rx
  have fin : ∀ (its : List Value), Vals ys its → ys.length ≤ sizeLine → ∀ (h' : Heap) (c' : Nat), (∀ b o', s.heap.get? b = some o' → h'.get? b = some o') →
      h'.get? s.heap.objs.size = some { cls := .type "list", dict := none, data := .seq its.toArray c', slots := #[] } → EP X pins σ Q (.ref s.heap.objs.size) { s with heap := h' } := fun its r' hz h' c' kp e =>
    ⟨.ref s.heap.objs.size, _, I.laid (t' := s.toks) kp (Nat.le_refl _) (show ObjOk X.prog X.w _ h' _ (.lst ys) from ⟨hz, its, c', r', e⟩), rfl, q _ (I.hok.fresh (Nat.le_refl _))⟩
  rcases hq with hq | hq
  · obtain ⟨its, r', pl, hz⟩ := I.list hq
    have hlen := r'.length
    obtain ⟨o, ho, hc, n, hd⟩ := pl.isList
    exact call_list_seq p (.inl rfl) ho hc hd (fun h' c' kp e => fin its r' hz h' c' kp e) (by simp only [List.size_toArray] <;> omega)
  · obtain ⟨its, r', pl, hz⟩ := I.tuple hq
    have hlen := r'.length
    obtain ⟨o, ho, hc, n, hd⟩ := pl
    exact call_list_seq p (.inr rfl) ho hc hd (fun h' c' kp e => fin its r' hz h' c' kp e) (by simp only [List.size_toArray] <;> omega)
theorem call_tuple_of : CallR X (.type "tuple") (fun xs H Q => ∃ p ys, xs = [.ref p] ∧ ((SqL X.K H p ys ∧ ∀ l, H l = none → Q (.ref l) (upd H l (.tup ys))) ∨ (SqT X.K H p ys ∧ Q (.ref p) H))) := by
  intro pins s σ H xs us Q I r h
  obtain ⟨p, ys, rfl, h⟩ := h
  obtain ⟨u, rfl, rx⟩ := vals1 r
  cases rx
  rcases h with ⟨hq, q⟩ | ⟨hq, q⟩
  · obtain ⟨its, r', pl, hz⟩ := I.list hq
    have hlen := r'.length
    refine call_tuple_list pl.isList (fun h' kp => ?_) (by simp only [List.size_toArray] <;> omega)
    have I1 : Inv X pins σ H { s with heap := h' } := I.kept (t' := s.toks) kp
    have I2 : Inv X pins σ (upd H h'.objs.size (.tup ys)) { s with heap := h'.push { cls := .type "tuple", data := .seq its.toArray } } :=
      I1.laid (t' := s.toks) (fun b o e => Heap.get?_push_of_some _ e) (Nat.le_refl _) (show ObjOk X.prog X.w _ _ _ (.tup ys) from ⟨hz, its, r', IsTup.new _ _⟩)
    exact ⟨.ref h'.objs.size, _, I2, rfl, q _ (I1.hok.fresh (Nat.le_refl _))⟩
  · obtain ⟨its, r', pl, hz⟩ := I.tuple hq
    exact call_tuple_same pl ⟨.ref p, H, I, rfl, q⟩

/-! ### the call of a builtin's method: o.m(..) -/
/-- the value is of that builtin type -/
def tyV (K : PySem.W.Frag) (T : String) (x : V) (H : Hp) : Prop := match x with
  | .str _ => T = "str"
  | .int _ => T = "int"
  | .ref p => (T = "list" ∧ ∃ xs, SqL K H p xs) ∨ (T = "tuple" ∧ ∃ o, K.lookup p = some o ∧ o.cls = .type "tuple" ∧ o.dict = none) ∨
      (T = "dict" ∧ ((∃ kvs, H p = some (.dK kvs)) ∨ ∃ kvs, H p = some (.dT kvs))) ∨ (T = "set" ∧ ∃ S n, H p = some (.set S n))
  | _ => False
theorem tyV_is {pins : List (Addr × Obj)} {σ : St} {H : Hp} {s : Shared} {T : String} {x : V} {v : Value} (I : Inv X pins σ H s) (r : RelV x v) (ty : tyV X.K T x H) :
    s.TypeIs v T ∧ ∀ a, v = .ref a → ∃ ob, s.heap.get? a = some ob ∧ ob.dict = none := by
  cases x with
  | str z =>
    obtain ⟨t, rfl⟩ := r
    cases (show T = "str" from ty)
    exact ⟨typeIs_str s z t, fun _ e => nomatch e⟩
  | int i =>
    obtain ⟨t, rfl⟩ := r
    cases (show T = "int" from ty)
    exact ⟨typeIs_int s i t, fun _ e => nomatch e⟩
  | ref p =>
    cases r
    rcases ty with ⟨rfl, xs, hq⟩ | ⟨rfl, o, hk, hc, hd⟩ | ⟨rfl, hk⟩ | ⟨rfl, S, n, hk⟩
    · obtain ⟨its, _, pl, _⟩ := I.list hq
      refine ⟨pl.isList.typeIs, fun a e => ?_⟩
      cases e
      obtain ⟨o, n, e, c, hd, _⟩ := pl
      exact ⟨o, e, hd⟩
    · refine ⟨⟨o, I.kIn p o hk, hc⟩, fun a e => ?_⟩
      cases e
      exact ⟨o, I.kIn _ o hk, hd⟩
    · have z : ∃ o, s.heap.get? p = some o ∧ o.ExactDict := by
        rcases hk with ⟨kvs, hk⟩ | ⟨kvs, hk⟩
        · obtain ⟨_, _, _, _, o, _, _, e, ex, _⟩ := I.hok p _ hk
          exact ⟨o, e, ex⟩
        · obtain ⟨_, _, _, _, o, _, _, e, ex, _⟩ := I.hok p _ hk
          exact ⟨o, e, ex⟩
      obtain ⟨o, e, ex⟩ := z
      refine ⟨⟨o, e, ex.1⟩, fun a e2 => ?_⟩
      cases e2
      exact ⟨o, e, ex.2.1⟩
    · obtain ⟨o, _, _, _, e, ex, _⟩ := I.hok p _ hk
      refine ⟨⟨o, e, ex.1⟩, fun a e2 => ?_⟩
      cases e2
      exact ⟨o, e, ex.2.1⟩
  | _ => exact False.elim ty
def tBM0 (K : PySem.W.Frag) (T : String) (r : V → List V → Hp → VK → Prop) (to : TE) : TE := fun σ H Q => to σ H fun x H1 => tyV K T x H1 ∧ r x [] H1 Q
def tBM (K : PySem.W.Frag) (T : String) (r : V → List V → Hp → VK → Prop) (to : TE) (t : TA) : TE := fun σ H Q => to σ H fun x H1 => tyV K T x H1 ∧ t σ H1 fun xs H2 => r x xs H2 Q
variable {o e : Expr} {es : List Expr} {to : TE} {t : TA} {name : Str} {apos cpos : Pos} {T id : String} {r : V → List V → Hp → VK → Prop}
theorem pe_bm0 (pa : PlainAttrs T) (slot : Slot T name id) (hty : typeOf (.builtin id) = pure (.type "method_descriptor")) (hm : MtR X id r) (ho : PE X o to)
    (hbase : attributeBase o name X.env (eval o X.env) = eval o X.env := by rfl) (hline : (apos.endLine == cpos.line) = true := by rfl) : PE X (.Call (.Attribute o name apos) [] [] cpos) (tBM0 X.K T r to) := by
  intro pins s σ H Q I h
  refine wpAny_Call_method0_late hbase hline (thn (ho pins s σ H _ I h) fun v s1 ⟨x, H1, I1, r1, ty, q1⟩ => ?_)
  obtain ⟨h1, h2⟩ := tyV_is I1 r1 ty
  exact ⟨T, id, pa, slot, hty, h1, h2, Calls.callWith_builtin rfl (PySem.evalArgs_none (hm pins s1 σ H1 x [] v [] Q I1 r1 .nil q1))⟩
theorem pe_bm (pa : PlainAttrs T) (slot : Slot T name id) (hty : typeOf (.builtin id) = pure (.type "method_descriptor")) (hm : MtR X id r) (ho : PE X o to) (ha : PA X (e :: es) t)
    (hbase : attributeBase o name X.env (eval o X.env) = eval o X.env := by rfl)
    (hfew : ((backTo cpos (starEach (e :: es) X.env)).all (fun x => !x.1) && (backToKw cpos (keywordEach [] X.env)).all (fun x => x.1.isSome)
      && decide ((e :: es).length + ([] : List Keyword).length + (if ([] : List Keyword).isEmpty then 0 else 1) < 30)) = true := by rfl)
    (hline : (apos.endLine == cpos.line) = true := by rfl) (hs : starEach (e :: es) X.env = (false, eval e X.env) :: starEach es X.env := by rfl) (hplain : (backTo cpos (starEach es X.env)).any (·.1) = false := by rfl) :
    PE X (.Call (.Attribute o name apos) (e :: es) [] cpos) (tBM X.K T r to t) := by
  intro pins s σ H Q I h
  refine wpAny_Call_method_late hbase hfew hline rfl (thn (ho pins s σ H _ I h) fun v s1 ⟨x, H1, I1, r1, ty, q1⟩ => ?_)
  obtain ⟨h1, h2⟩ := tyV_is I1 r1 ty
  refine ⟨T, id, pa, slot, hty, h1, h2, ?_⟩
  have hA := ha cpos pins s1 σ H1 _ I1 q1
  rw [hs] at hA ⊢
  refine Calls.callWith_builtin (by show (false || (backTo cpos (starEach es X.env)).any (·.1)) = false; rw [hplain] <;> rfl) (Calls.evalArgs_plain ?_)
  exact thn hA fun us s2 ⟨vs, H2, I2, r2, q2⟩ => hm pins s2 σ H2 x vs v us Q I2 r1 r2 q2
/- xs.append(e), list.index on a module's tuple .. are MtR facts of 06m -/
end
end L2

namespace L2
open PySem PySem.Spec PyProof.Rows

def MtM (X : Cx) (id : String) (r : V → List V → Hp → VK → Prop) : Prop :=
  ∀ (pins : List (Addr × Obj)) (s : Shared) (σ : St) (H : Hp) (x : V) (xs : List V) (v : Value) (us : List Value) (Q : VK), Inv X pins σ H s → RelV x v → Vals xs us → r x xs H Q →
    wpAny (model X.prog X.w) X.A (call (.builtin id) (v :: us)) (EP X pins σ Q) X.xe s

/-! ### lists of values -/
theorem Vals.one : ∀ {x : V} {us : List Value}, Vals [x] us → ∃ u, us = [u] ∧ RelV x u
  | _, _, .cons r .nil => ⟨_, rfl, r⟩
theorem Vals.two : ∀ {x y : V} {us : List Value}, Vals [x, y] us → ∃ u v, us = [u, v] ∧ RelV x u ∧ RelV y v
  | _, _, _, .cons r (.cons q .nil) => ⟨_, _, rfl, r, q⟩
theorem Vals.zero : ∀ {us : List Value}, Vals [] us → us = []
  | _, .nil => rfl
theorem Vals.dropLast {xs : List V} {us : List Value} (h : Vals xs us) : Vals xs.dropLast us.dropLast := by
  induction h with
  | nil => exact .nil
  | cons r t ih =>
    cases t with
    | nil => exact .nil
    | cons q t' => exact .cons r ih
theorem Vals.eraseIdx : ∀ {xs : List V} {us : List Value} (i : Nat), Vals xs us → Vals (xs.eraseIdx i) (us.eraseIdx i)
  | _, _, _, .nil => .nil
  | _, _, 0, .cons _ t => t
  | _, _, i + 1, .cons r t => .cons r (Vals.eraseIdx i t)
theorem Vals.reverse {xs : List V} {us : List Value} (h : Vals xs us) : Vals xs.reverse us.reverse := by
  induction h with
  | nil => exact .nil
  | cons r t ih => rw [List.reverse_cons, List.reverse_cons]; exact Vals.append ih (.cons r .nil)
theorem Vals.rep {xs : List V} {us : List Value} (h : Vals xs us) : ∀ k : Nat, Vals (List.replicate k xs).flatten (List.replicate k us).flatten
  | 0 => .nil
  | k + 1 => by
    rw [List.replicate_succ, List.replicate_succ, List.flatten_cons, List.flatten_cons]
    exact Vals.append h (Vals.rep h k)
theorem erase_last {α : Type} (l : List α) : l.eraseIdx (l.length - 1) = l.dropLast := by
  induction l with
  | nil => rfl
  | cons a r ih =>
    cases r with
    | nil => rfl
    | cons b r =>
      have e : (a :: b :: r).length - 1 = ((b :: r).length - 1) + 1 := by
        have h1 : (a :: b :: r).length = r.length + 2 := rfl
        have h2 : (b :: r).length = r.length + 1 := rfl
        omega
      rw [e, List.eraseIdx_cons_succ, ih]
      all_goals rfl
theorem len_erase {α : Type} : ∀ (l : List α) (i : Nat), (l.eraseIdx i).length ≤ l.length
  | [], _ => Nat.le_refl _
  | _ :: _, 0 => Nat.le_succ _
  | _ :: r, i + 1 => Nat.succ_le_succ (len_erase r i)
theorem foldl_rep (its : List Value) : ∀ (k : Nat) (acc : List Value),
    List.foldl (fun x1 x2 => x1 ++ x2) acc.toArray (List.replicate k its.toArray) = (acc ++ (List.replicate k its).flatten).toArray
  | 0, acc => by simp
  | k + 1, acc => by
    have e : acc.toArray ++ its.toArray = (acc ++ its).toArray := by simp
    have e2 : (acc ++ its) ++ (List.replicate k its).flatten = acc ++ (List.replicate (k + 1) its).flatten := by
      rw [List.replicate_succ, List.flatten_cons, List.append_assoc]
    rw [← e2, ← foldl_rep its k (acc ++ its), ← e, List.replicate_succ, List.foldl_cons]

section
variable {X : Cx} {pins : List (Addr × Obj)} {σ : St} {H : Hp} {s : Shared} {l b : Addr} {xs ys zs : List V}

/-! ### the two steps: a tracked list is rewritten, a new list is laid -/
theorem Inv.lset {its its' : List Value} {n : Nat} {f : Array Value → Array Value} {t' : Nat} (I : Inv X pins σ H s) (hH : H l = some (.lst xs))
    (e : s.heap.get? l = some { cls := .type "list", data := .seq its.toArray n }) (hf : f its.toArray = its'.toArray) (hv : Vals ys its') (hz : ys.length ≤ sizeLine) :
    Inv X pins σ (upd H l (.lst ys)) { s with heap := s.heap.update l (Obj.mapSeq f), toks := t' } := by
  have q := PySem.IsL.update e f
  rw [hf] at q
  refine I.write (x := l) (e := l) (by rw [hH]; exact trivial) (.inl rfl) (fun b' u hb hu => (Heap.get?_update_other s.heap (Obj.mapSeq f) (Ne.symm hb)).trans hu) ⟨_, q⟩ ?_
  exact ⟨hz, its', _, hv, q⟩
theorem Inv.lnew {its : List Value} {t' : Nat} (I : Inv X pins σ H s) (hv : Vals ys its) (hz : ys.length ≤ sizeLine) :
    Inv X pins σ (upd H s.heap.objs.size (.lst ys)) { s with heap := s.heap.push { cls := .type "list", data := .seq its.toArray }, toks := t' } :=
  I.laid (fun _ _ q => Heap.get?_push_of_some _ q) (Nat.le_refl _) ⟨hz, its, 0, hv, Heap.get?_push_size _ rfl⟩
theorem Inv.fresh (I : Inv X pins σ H s) : H s.heap.objs.size = none := I.hok.fresh (Nat.le_refl _)
theorem Inv.lstM (I : Inv X pins σ H s) (hH : H l = some (.lst xs)) : xs.length ≤ sizeLine ∧ ∃ (its : List Value) (n : Nat), Vals xs its ∧ xs.length = its.length ∧ s.heap.get? l = some { cls := .type "list", data := .seq its.toArray n } := by
  obtain ⟨z, its, n, r, e⟩ := I.hok l _ hH
  exact ⟨z, its, n, r, r.length, e⟩

theorem notLongL {n : Nat} (h : n ≤ sizeLine) : Builtin.List.listTooLong n = false := by
  unfold Builtin.List.listTooLong
  exact decide_eq_false (by omega)
end

section
variable {X : Cx}

/-! ### methods -/
def rAppend : V → List V → Hp → VK → Prop := fun x vs H Q => ∃ l xs y, x = .ref l ∧ vs = [y] ∧ H l = some (.lst xs) ∧ xs.length < sizeLine ∧ Q .non (upd H l (.lst (xs ++ [y])))
theorem mt_append : MtM X "list.append" rAppend := by
  intro pins s σ H x vs v us Q I rx rv h
  obtain ⟨l, xs, y, rfl, rfl, hH, hz, q⟩ := h
  cases rx
  obtain ⟨u, rfl, ru⟩ := rv.one
  obtain ⟨z, its, n, r, hl, e⟩ := I.lstM hH
  refine call_meets F.slot_list_append ⟨_, e, rfl⟩ F.entry_list_append (F.args_list_append_2 _ _) (PySem.list_append l its.toArray n u (by rw [List.size_toArray]; omega)) ⟨e, ?_⟩
  refine ⟨.non, _, I.lset (its' := its ++ [u]) hH e (by simp) (r.append (.cons ru .nil)) ?_, rfl, q⟩
  rw [List.length_append, List.length_singleton]
  omega

def rExtend : V → List V → Hp → VK → Prop := fun x vs H Q => ∃ l b xs zs, x = .ref l ∧ vs = [.ref b] ∧ H l = some (.lst xs) ∧ H b = some (.lst zs) ∧ xs.length + zs.length ≤ sizeLine ∧ Q .non (upd H l (.lst (xs ++ zs)))
theorem mt_extend : MtM X "list.extend" rExtend := by
  intro pins s σ H x vs v us Q I rx rv h
  obtain ⟨l, b, xs, zs, rfl, rfl, hH, hB, hz, q⟩ := h
  cases rx
  obtain ⟨u, rfl, ru⟩ := rv.one
  cases ru
  obtain ⟨z, its, n, r, hl, e⟩ := I.lstM hH
  obtain ⟨z2, its2, n2, r2, hl2, e2⟩ := I.lstM hB
  have hsz : its.toArray.size + its2.toArray.size ≤ sizeLine := by rw [List.size_toArray, List.size_toArray]; omega
  have hlong : ¬ (!its.toArray.isEmpty && Builtin.List.listTooLong (its.toArray.size + its2.toArray.size)) = true := by
    rw [notLongL hsz, Bool.and_false]
    exact Bool.false_ne_true
  refine call_meets F.slot_list_extend ⟨_, e, rfl⟩ F.entry_list_extend (F.args_list_extend_2 _ _)
    (AutoSeq1.list_extend_list_list_0 l its.toArray n b its2.toArray n2 hlong (by rw [List.size_toArray]; omega) (by omega)) ⟨e, e2, ?_⟩
  refine ⟨.non, _, I.lset (its' := its ++ its2) hH e (by simp) (r.append r2) ?_, rfl, q⟩
  rw [List.length_append]
  omega

def rPop : V → List V → Hp → VK → Prop := fun x vs H Q => ∃ l xs y, x = .ref l ∧ vs = [] ∧ H l = some (.lst xs) ∧ xs[xs.length - 1]? = some y ∧ Q y (upd H l (.lst xs.dropLast))
theorem mt_pop : MtM X "list.pop" rPop := by
  intro pins s σ H x vs v us Q I rx rv h
  obtain ⟨l, xs, y, rfl, rfl, hH, hy, q⟩ := h
  cases rx
  have hus := rv.zero
  subst hus
  obtain ⟨z, its, n, r, hl, e⟩ := I.lstM hH
  obtain ⟨u, hu, ru⟩ := r.get hy
  have hy' : its.toArray[its.toArray.size - 1]? = some u := by
    show its.toArray[its.length - 1]? = some u
    rw [← Array.getElem?_toList, ← hl]
    exact hu
  refine call_meets F.slot_list_pop ⟨_, e, rfl⟩ F.entry_list_pop (F.args_list_pop_1 _) (MeetsSeq.list_pop_last l its.toArray n u hy' (by rw [List.size_toArray]; omega)) ⟨e, ?_⟩
  refine ⟨y, _, I.lset (its' := its.dropLast) hH e ?_ r.dropLast ?_, ru, q⟩
  · show its.toArray.eraseIdxIfInBounds (its.toArray.size - 1) = its.dropLast.toArray
    rw [List.size_toArray, List.eraseIdxIfInBounds_toArray, erase_last]
  · rw [List.length_dropLast]
    omega

def rPopAt : V → List V → Hp → VK → Prop := fun x vs H Q => ∃ l xs i k y, x = .ref l ∧ vs = [.int i] ∧ H l = some (.lst xs) ∧ -(2 ^ 63) ≤ i ∧ i < 2 ^ 63 ∧ seqIndex? i xs.length = some k ∧ xs[k]? = some y ∧ Q y (upd H l (.lst (xs.eraseIdx k)))
theorem mt_popAt : MtM X "list.pop" rPopAt := by
  intro pins s σ H x vs v us Q I rx rv h
  obtain ⟨l, xs, i, k, y, rfl, rfl, hH, h1, h2, hk, hy, q⟩ := h
  cases rx
  obtain ⟨u, rfl, ru⟩ := rv.one
  obtain ⟨t, rfl⟩ := ru
  obtain ⟨z, its, n, r, hl, e⟩ := I.lstM hH
  obtain ⟨w, hw, rw'⟩ := r.get hy
  refine call_meets F.slot_list_pop ⟨_, e, rfl⟩ F.entry_list_pop (F.args_list_pop_2 _ _)
    (MeetsSeq.list_pop_at l its.toArray n i t k w (fitsIndex_both h1 h2) (by rw [List.size_toArray, ← hl]; exact hk) (by rw [← Array.getElem?_toList]; exact hw) (by rw [List.size_toArray]; omega)) ⟨e, ?_⟩
  refine ⟨y, _, I.lset (its' := its.eraseIdx k) hH e ?_ (r.eraseIdx k) ?_, rw', q⟩
  · show its.toArray.eraseIdxIfInBounds k = (its.eraseIdx k).toArray
    rw [List.eraseIdxIfInBounds_toArray]
  · have := len_erase xs k
    omega

def rReverse : V → List V → Hp → VK → Prop := fun x vs H Q => ∃ l xs, x = .ref l ∧ vs = [] ∧ H l = some (.lst xs) ∧ Q .non (upd H l (.lst xs.reverse))
theorem mt_reverse : MtM X "list.reverse" rReverse := by
  intro pins s σ H x vs v us Q I rx rv h
  obtain ⟨l, xs, rfl, rfl, hH, q⟩ := h
  cases rx
  have hus := rv.zero
  subst hus
  obtain ⟨z, its, n, r, hl, e⟩ := I.lstM hH
  refine call_meets F.slot_list_reverse ⟨_, e, rfl⟩ F.entry_list_reverse (F.args_list_reverse_1 _) (AutoSeq1.list_reverse_list_0 l its.toArray n (by rw [List.size_toArray]; omega)) ⟨e, ?_⟩
  refine ⟨.non, _, I.lset (its' := its.reverse) hH e (by simp) r.reverse ?_, rfl, q⟩
  rw [List.length_reverse]
  omega

def rClear : V → List V → Hp → VK → Prop := fun x vs H Q => ∃ l xs, x = .ref l ∧ vs = [] ∧ H l = some (.lst xs) ∧ Q .non (upd H l (.lst []))
theorem mt_clear : MtM X "list.clear" rClear := by
  intro pins s σ H x vs v us Q I rx rv h
  obtain ⟨l, xs, rfl, rfl, hH, q⟩ := h
  cases rx
  have hus := rv.zero
  subst hus
  obtain ⟨z, its, n, r, hl, e⟩ := I.lstM hH
  refine call_meets F.slot_list_clear ⟨_, e, rfl⟩ F.entry_list_clear (F.args_list_clear_1 _) (AutoSeq1.list_clear_list_0 l its.toArray n (by rw [List.size_toArray]; omega)) ⟨e, ?_⟩
  exact ⟨.non, _, I.lset (its' := []) (ys := []) hH e rfl .nil (Nat.zero_le _), rfl, q⟩

/-! ### list + list, list += list, list * int -/
def rCat : R2 := fun x y H Q => ∃ l b xs zs, x = .ref l ∧ y = .ref b ∧ H l = some (.lst xs) ∧ H b = some (.lst zs) ∧ xs.length + zs.length ≤ sizeLine ∧ ∀ p, H p = none → Q (.ref p) (upd H p (.lst (xs ++ zs)))
theorem op_cat : OpR X (binaryOp .Add) rCat := by
  intro pins s σ H x y v u Q I rx ry h
  obtain ⟨l, b, xs, zs, rfl, rfl, hH, hB, hz, q⟩ := h
  cases rx
  cases ry
  obtain ⟨z, its, n, r, hl, e⟩ := I.lstM hH
  obtain ⟨z2, its2, n2, r2, hl2, e2⟩ := I.lstM hB
  refine PySem.P.add_list e e2 ?_ (by rw [List.size_toArray, List.size_toArray]; omega)
  have ea : its.toArray ++ its2.toArray = (its ++ its2).toArray := by simp
  rw [ea]
  exact ⟨.ref _, _, I.lnew (t' := s.toks) (r.append r2) (by rw [List.length_append]; omega), rfl, q _ I.fresh⟩
/-- a list times an int (a negative one is nothing) -/
def rRep : R2 := fun x y H Q => ∃ l k xs, x = .ref l ∧ y = .int k ∧ H l = some (.lst xs) ∧ -(2 ^ 63) ≤ k ∧ k < 2 ^ 63 ∧ xs.length * k.toNat ≤ sizeLine ∧
  ∀ p, H p = none → Q (.ref p) (upd H p (.lst (List.replicate k.toNat xs).flatten))
theorem len_rep {α : Type} (xs : List α) (k : Nat) : (List.replicate k xs).flatten.length = k * xs.length := by
  induction k with
  | zero => simp
  | succ k ih => rw [List.replicate_succ, List.flatten_cons, List.length_append, ih, Nat.succ_mul, Nat.add_comm]
theorem op_rep : OpR X (binaryOp .Mult) rRep := by
  intro pins s σ H x y v u Q I rx ry h
  obtain ⟨l, k, xs, rfl, rfl, hH, h1, h2, hz, q⟩ := h
  cases rx
  obtain ⟨t, rfl⟩ := ry
  obtain ⟨z, its, n, r, hl, e⟩ := I.lstM hH
  have hlen : its.toArray.size * k.toNat ≤ sizeLine := by rw [List.size_toArray, ← hl]; exact hz
  have hcap : ¬ its.toArray.size * k.toNat > (2 ^ 63 - 1) / 8 := by
    have : (sizeLine : Nat) ≤ (2 ^ 63 - 1) / 8 := by decide
    omega
  have hfit : ¬ (!Builtin.List.listFitsIndex k) = true := by
    rw [fitsIndex_both h1 h2]
    exact Bool.false_ne_true
  have hlong : ¬ Builtin.List.listTooLong (its.toArray.size * k.toNat) = true := by
    rw [notLongL hlen]
    exact Bool.false_ne_true
  have hnew : List.foldl (fun x1 x2 => x1 ++ x2) #[] (List.replicate (if its.toArray.isEmpty = true then 0 else k.toNat) its.toArray) = (List.replicate k.toNat its).flatten.toArray := by
    have f0 : ∀ m : Nat, List.foldl (fun x1 x2 => x1 ++ x2) #[] (List.replicate m its.toArray) = (List.replicate m its).flatten.toArray := fun m => by
      have := foldl_rep its m []
      rw [List.nil_append] at this
      exact this
    rw [f0]
    cases its with
    | nil => simp
    | cons a r' => rw [if_neg (by simp)]
  refine wpAny_binaryOp_repeat_ref (T := "list") (U := "int") (by decide) ⟨_, e, rfl⟩ (fun s' => typeIs_int s' k t) noFill_list_mul F.fills_int_mul F.slot_int_rmul repeat_list F.slot_int_index.lookup
    (call_meets F.slot_int_rmul (typeIs_int s k t) F.entry_int_rmul (F.args_int_rmul_2 _ _) (int___rmul___int_list k t l its.toArray n)
      ⟨e, rfl, ⟨_, e, rfl⟩, call_meets F.slot_list_mul ⟨_, e, rfl⟩ F.entry_list_mul (F.args_list_mul_2 _ _) (AutoListH.list___mul___list_int_3 l its.toArray n k t hfit hcap hlong) ⟨e, ?_⟩⟩)
  rw [hnew]
  exact ⟨.ref _, _, I.lnew (t' := s.toks) (r.rep k.toNat) (by rw [len_rep, Nat.mul_comm]; exact hz), rfl, q _ I.fresh⟩

/-! ### del xs[i] -/
theorem del_list {pins : List (Addr × Obj)} {s : Shared} {σ : St} {H : Hp} {l : Addr} {xs : List V} {i : Int} {t : Tok} {k : Nat} {Q : Unit → Shared → Prop} (I : Inv X pins σ H s) (hH : H l = some (.lst xs))
    (h1 : -(2 ^ 63) ≤ i) (h2 : i < 2 ^ 63) (hk : seqIndex? i xs.length = some k) (h : ∀ s', Inv X pins σ (upd H l (.lst (xs.eraseIdx k))) s' → Q () s') :
    wpAny (model X.prog X.w) X.A (delItem (.ref l) (.int i t)) Q X.xe s := by
  obtain ⟨z, its, n, r, hl, e⟩ := I.lstM hH
  refine PySem.P.delItem_list (k := k) e (fitsIndex_both h1 h2) (by rw [List.size_toArray, ← hl]; exact hk) (h _ ?_) (by rw [List.size_toArray]; omega)
  refine I.lset (its' := its.eraseIdx k) (t' := s.toks) hH e ?_ (r.eraseIdx k) ?_
  · show its.toArray.eraseIdxIfInBounds k = (its.eraseIdx k).toArray
    rw [List.eraseIdxIfInBounds_toArray]
  · have := len_erase xs k
    omega
end

/-! ### xs[a:b] = ys -/
section
variable {prog : Program} {w : World} {A : Around} {E : Value → Shared → Prop} {s : Shared}
theorem splice_eq (its its2 : List Value) (a c : Nat) : its.toArray.extract 0 a ++ its2.toArray ++ its.toArray.extract c its.toArray.size = (its.take a ++ its2 ++ its.drop c).toArray := by
  apply Array.toList_inj.mp
  first
    | (simp
       exact List.take_of_length_le (by simp))
    | simp [List.take_of_length_le]
    | simp
theorem bounds_run {a c n : Nat} (hac : a ≤ c) (hc : c ≤ n) : sliceBounds (some (a : Int)) (some (c : Int)) none n = ((a : Int), (c : Int), 1) := by
  simp only [sliceBounds, Option.getD_none]
  have h1 : ¬ ((a : Int) < 0) := by omega
  have h2 : ¬ ((c : Int) < 0) := by omega
  simp only [h1, h2, if_false, show (1 : Int) > 0 by decide, if_true]
  congr 1
  · omega
  · congr 1; omega
set_option maxRecDepth 100000 in
/-- list.__setitem__ with a slice of step one and another list -/
theorem setItem_slice {l b sl : Addr} {items new : Array Value} {n n2 : Nat} {vl vu : Value} {a c : Nat} {Q : Unit → Shared → Prop}
    (e : s.heap.get? l = some { cls := .type "list", data := .seq items n }) (e2 : s.heap.get? b = some { cls := .type "list", data := .seq new n2 }) (hne : l ≠ b)
    (hs : s.heap.IsSliceOf sl vl vu .none) (pl : IsPart vl (some (a : Int))) (pu : IsPart vu (some (c : Int))) (hac : a ≤ c) (hc : c ≤ items.size)
    (hsz : items.size + new.size ≤ sizeLine) (h : Q () { s with heap := s.heap.update l (Obj.mapSeq fun xs => xs.extract 0 a ++ new ++ xs.extract c xs.size) }) :
    wpAny (model prog w) A (setItem (.ref l) (.ref sl) (.ref b)) Q E s := by
  have hl : s.heap.IsList l items := PySem.IsL.isList e
  have hb : s.heap.IsList b new := PySem.IsL.isList e2
  obtain ⟨os, hos, hcs, hds⟩ := id hs
  have hTs : s.TypeIs (.ref sl) "slice" := ⟨os, hos, hcs⟩
  have hstep : ¬ ((rawPart none == rawInt 0) = true) := Bool.false_ne_true
  have hsame : Builtin.List.listSameRef (.ref l) (.ref b) = false := by
    unfold Builtin.List.listSameRef
    exact beq_eq_false_iff_ne.mpr hne
  have hmax : (max (a : Int) (c : Int)).toNat = c := by omega
  have hz' : ((fun xs : Array Value => xs.extract 0 a ++ new ++ xs.extract c xs.size) items).size ≤ sizeLine + 1 := by
    simp only [Array.size_append, Array.size_extract]
    omega
  unfold setItem
  try with_reducible refine wpAny_holding ?_
  first | refine wpAny_bind (wpAny_pure ?_) | skip
  refine wpAny_bind (wpAny_sequenceKey hl.typeIs (by decide) ?_)
  refine wpAny_bind (wpAny_callSpecial?_slot (name := Str.ofString "__setitem__") hl.typeIs slot_list_setitem
    (wpAny_call_entry slot_list_setitem hl.typeIs entry_list_setitem ?_ (args_list_setitem _ _ _)))
  show wpAny _ _ (Builtin.List.listSubscript? (.ref sl) >>= _) _ _ s
  refine wpAny_bind ?_
  unfold Builtin.List.listSubscript?
  refine wpAny_bind (wpAny_specialOf hTs slice_no_index ?_)
  simp only [Option.isNone_none, if_true]
  refine wpAny_pure ?_
  show wpAny _ _ (typeOf (.ref sl) >>= _) _ _ s
  refine wpAny_bind (wpAny_typeOf hTs ?_)
  first
    | rw [if_neg (by decide)]
    | refine PySem.W.KFB.if_not (by decide) ?_
  rw [listSliceParts_eq]
  refine wpAny_bind (wpAny_bind (wpAny_field hos hds (x := .none) rfl (wpAny_bind (wpAny_listPart .none ?_))))
  rw [if_neg hstep]
  refine wpAny_bind (wpAny_field hos hds (x := vl) rfl (wpAny_bind (wpAny_listPart pl ?_)))
  refine wpAny_bind (wpAny_field hos hds (x := vu) rfl (wpAny_bind (wpAny_listPart pu (wpAny_pure ?_))))
  first
    | simp only [hsame, Bool.false_eq_true, if_false]
    | refine PySem.W.KFB.if_not hsame ?_
    | (dsimp only
       rw [if_neg (by rw [hsame]; exact Bool.false_ne_true)])
  refine wpAny_bind (m := Builtin.List.listAllItems (.ref b) "must assign iterable to extended slice") ?_
  unfold Builtin.List.listAllItems
  refine wpAny_bind (wpAny_typeOf hb.typeIs ?_)
  first
    | refine PySem.W.KFB.if_so (by decide) ?_
    | rw [if_pos (by decide)]
    | simp only [beq_self_eq_true, Bool.true_or, if_true]
  unfold Builtin.List.listItems
  refine wpAny_bind (wpAny_seqItems e2 rfl (wpAny_pure ?_))
  refine wpAny_bind (wpAny_bind (wpAny_seqItems e rfl (wpAny_pure ?_)))
  refine wpAny_bind (wpAny_of_eq ((sliceIndices_raw (some (a : Int)) (some (c : Int)) none items.size (by simp)).trans (congrArg (pure : Int × Int × Int → Sem (Int × Int × Int)) (bounds_run hac hc))) ?_)
  show wpAny _ _ (if ((1 : Int) == 1) = true then _ else _) _ _ s
  rw [if_pos (by decide)]
  refine wpAny_bind (wpAny_rule ?_)
  first
    | simp only [notLongL hsz, Bool.false_eq_true, if_false]
    | refine PySem.W.KFB.if_not (notLongL hsz) ?_
  first | refine wpAny_bind (wpAny_pure ?_) | skip
  show wpAny _ _ (updateSeq l (fun xs => xs.extract 0 ((a : Int)).toNat ++ new ++ xs.extract (max (a : Int) (c : Int)).toNat xs.size) >>= _) _ _ s
  rw [hmax, Int.toNat_natCast]
  refine wpAny_bind (wpAny_updateSeq (hz := Nat.le_trans (Nat.le_add_right _ _) hsz) (_hz' := hz') e rfl ?_)
  refine wpAny_bind (wpAny_letGo ?_)
  first
    | exact wpAny_bind (wpAny_pure (wpAny_pure ⟨.none, rfl, wpAny_pure h⟩))
    | exact wpAny_pure ⟨.none, rfl, wpAny_pure h⟩
end

section
variable {X : Cx}
/-- xs[a:c] = ys of another list, at the value level: sl is the slice object that was just made -/
theorem set_slice {pins : List (Addr × Obj)} {s : Shared} {σ : St} {H : Hp} {l b sl : Addr} {xs ys : List V} {a c : Int} {vl vu : Value} {Q : Unit → Shared → Prop} (I : Inv X pins σ H s)
    (hH : H l = some (.lst xs)) (hB : H b = some (.lst ys)) (hne : l ≠ b) (hs : s.heap.IsSliceOf sl vl vu .none) (ra : RelV (.int a) vl) (rc : RelV (.int c) vu) (h0 : 0 ≤ a) (hac : a ≤ c) (hc : c ≤ xs.length)
    (hz : xs.length + ys.length ≤ sizeLine) (h : ∀ s', Inv X pins σ (upd H l (.lst (xs.take a.toNat ++ ys ++ xs.drop c.toNat))) s' → Q () s') :
    wpAny (model X.prog X.w) X.A (setItem (.ref l) (.ref sl) (.ref b)) Q X.xe s := by
  obtain ⟨ta, rfl⟩ := ra
  obtain ⟨tc, rfl⟩ := rc
  obtain ⟨z, its, n, r, hl, e⟩ := I.lstM hH
  obtain ⟨z2, its2, n2, r2, hl2, e2⟩ := I.lstM hB
  obtain ⟨a', rfl⟩ := Int.eq_ofNat_of_zero_le h0
  obtain ⟨c', rfl⟩ := Int.eq_ofNat_of_zero_le (Int.le_trans h0 hac)
  simp only [Int.toNat_natCast] at h
  refine setItem_slice (a := a') (c := c') e e2 hne hs (.int _ _) (.int _ _) (by omega) (by rw [List.size_toArray]; omega) (by rw [List.size_toArray, List.size_toArray]; omega) (h _ ?_)
  refine I.lset (its' := its.take a' ++ its2 ++ its.drop c') (t' := s.toks) hH e ?_ (Vals.append (Vals.append (r.take _) r2) (r.drop _)) ?_
  · exact splice_eq its its2 a' c'
  · rw [List.length_append, List.length_append, List.length_take, List.length_drop]
    omega
end
end L2

namespace L2
open PySem PySem.Spec PyProof.Rows

/-! ### lists of pairs as tables -/
section
variable {κ : Type} [DecidableEq κ]
def valV (kvs : List (κ × V)) (k : κ) : Option V := (kvs.find? fun kv => decide (kv.1 = k)).map (·.2)
/-- in its place, or at the end -/
def putK (kvs : List (κ × V)) (k : κ) (v : V) : List (κ × V) :=
  if (kvs.any fun kv => decide (kv.1 = k)) = true then kvs.map (fun kv => if kv.1 = k then (kv.1, v) else kv) else kvs ++ [(k, v)]
def dropK (kvs : List (κ × V)) (k : κ) : List (κ × V) := kvs.filter fun kv => decide (kv.1 ≠ k)

theorem valV_nil {k : κ} : valV ([] : List (κ × V)) k = none := rfl
theorem valV_pos {p : κ × V} {r : List (κ × V)} {k : κ} (e : p.1 = k) : valV (p :: r) k = some p.2 := by simp [valV, List.find?_cons, e]
theorem valV_neg {p : κ × V} {r : List (κ × V)} {k : κ} (e : ¬ p.1 = k) : valV (p :: r) k = valV r k := by simp [valV, List.find?_cons, e]
theorem valV_any (k : κ) : ∀ kvs : List (κ × V), (kvs.any fun kv => decide (kv.1 = k)) = (valV kvs k).isSome
  | [] => rfl
  | p :: r => by
    rw [List.any_cons]
    by_cases e : p.1 = k
    · simp only [valV_pos e, decide_eq_true e, Bool.true_or, Option.isSome_some]
    · rw [valV_neg e, decide_eq_false e, Bool.false_or]; exact valV_any k r
theorem valV_map (k j : κ) (y : V) : ∀ kvs : List (κ × V), valV (kvs.map fun kv => if kv.1 = k then (kv.1, y) else kv) j = (valV kvs j).map fun x => if j = k then y else x
  | [] => rfl
  | p :: r => by
    have ih := valV_map k j y r
    rw [List.map_cons]
    by_cases h : p.1 = k
    · rw [if_pos h]
      by_cases e : p.1 = j
      · rw [valV_pos (p := (p.1, y)) e, valV_pos e, Option.map_some, if_pos (e.symm.trans h)]
      · rw [valV_neg (p := (p.1, y)) e, valV_neg e, ih]
    · rw [if_neg h]
      by_cases e : p.1 = j
      · rw [valV_pos (p := p) e, valV_pos e, Option.map_some, if_neg (fun z => h (e.trans z))]
      · rw [valV_neg (p := p) e, valV_neg e, ih]
theorem valV_snoc (k j : κ) (y : V) : ∀ kvs : List (κ × V), valV kvs k = none → valV (kvs ++ [(k, y)]) j = if j = k then some y else valV kvs j
  | [], _ => by
    by_cases e : k = j
    · rw [if_pos e.symm]; exact valV_pos (p := (k, y)) e
    · rw [if_neg (fun z => e z.symm)]; exact valV_neg (p := (k, y)) e
  | p :: r, hn => by
    rw [List.cons_append]
    have hk : ¬ p.1 = k := fun z => by rw [valV_pos z] at hn; cases hn
    rw [valV_neg hk] at hn
    have ih := valV_snoc k j y r hn
    by_cases e : p.1 = j
    · rw [valV_pos e, valV_pos e, if_neg (fun z => hk (e.trans z))]
    · rw [valV_neg e, valV_neg e, ih]
theorem valV_put (kvs : List (κ × V)) (k j : κ) (y : V) : valV (putK kvs k y) j = if j = k then some y else valV kvs j := by
  unfold putK
  by_cases a : (kvs.any fun kv => decide (kv.1 = k)) = true
  · rw [if_pos a, valV_map]
    rw [valV_any] at a
    by_cases e : j = k
    · obtain ⟨x, hx⟩ := Option.isSome_iff_exists.mp a
      rw [if_pos e, e, hx, Option.map_some, if_pos rfl]
    · rw [if_neg e]
      cases valV kvs j with
      | none => rfl
      | some x => rw [Option.map_some, if_neg e]
  · rw [if_neg a]
    refine valV_snoc k j y kvs ?_
    rw [valV_any] at a
    cases q : valV kvs k with
    | none => rfl
    | some x => rw [q] at a; exact (a rfl).elim
theorem length_putK (kvs : List (κ × V)) (k : κ) (v : V) : (putK kvs k v).length ≤ kvs.length + 1 := by
  unfold putK
  split
  · rw [List.length_map]; omega
  · rw [List.length_append, List.length_cons, List.length_nil]; omega
theorem putK_new {kvs : List (κ × V)} {k : κ} (v : V) (h : valV kvs k = none) : putK kvs k v = kvs ++ [(k, v)] := by
  unfold putK
  rw [valV_any, h]
  exact if_neg (by decide)

theorem RelO.isSome_eq {o : Option V} {u : Option Value} (r : RelO o u) : o.isSome = u.isSome := by
  cases o with
  | none => cases u with
    | none => rfl
    | some _ => exact (show False from r).elim
  | some _ => cases u with
    | none => exact (show False from r).elim
    | some _ => rfl
theorem RelO.getD {o : Option V} {u : Option Value} {d : V} {d' : Value} (r : RelO o u) (rd : RelV d d') : RelV (o.getD d) (u.getD d') := by
  cases o with
  | none => cases u with
    | none => exact rd
    | some _ => exact (show False from r).elim
  | some _ => cases u with
    | none => exact (show False from r).elim
    | some _ => exact r

/-- raw tables of the same keys -/
theorem KV.val {kvs : List (κ × V)} {vs : List (κ × Value)} (r : KV kvs vs) (k : κ) : RelO (valV kvs k) (valueAt vs k) := by
  unfold KV at r
  induction r with
  | nil => exact True.intro
  | @cons p q ps qs h t ih =>
    obtain ⟨h1, h2⟩ := h
    by_cases e : p.1 = k
    · have e' : q.1 = k := h1.symm.trans e
      have b : valueAt (q :: qs) k = some q.2 := by simp [valueAt, List.find?_cons, e']
      rw [valV_pos e, b]; exact h2
    · have e' : ¬ q.1 = k := fun z => e (h1.trans z)
      have b : valueAt (q :: qs) k = valueAt qs k := by simp [valueAt, List.find?_cons, e']
      rw [valV_neg e, b]; exact ih
theorem KV.any {kvs : List (κ × V)} {vs : List (κ × Value)} (r : KV kvs vs) (k : κ) : (kvs.any fun kv => decide (kv.1 = k)) = vs.any fun kv => decide (kv.1 = k) := by
  unfold KV at r
  induction r with
  | nil => rfl
  | cons h t ih => rw [List.any_cons, List.any_cons, ih, h.1]
theorem KV.repl {kvs : List (κ × V)} {vs : List (κ × Value)} (r : KV kvs vs) (k : κ) {y : V} {u : Value} (ry : RelV y u) :
    KV (kvs.map fun kv => if kv.1 = k then (kv.1, y) else kv) (vs.map fun kv => if kv.1 = k then (kv.1, u) else kv) := by
  unfold KV at r ⊢
  induction r with
  | nil => exact .nil
  | @cons p q ps qs h t ih =>
    rw [List.map_cons, List.map_cons]
    refine .cons ?_ ih
    obtain ⟨h1, h2⟩ := h
    by_cases e : p.1 = k
    · rw [if_pos e, if_pos (h1.symm.trans e)]; exact ⟨h1, ry⟩
    · rw [if_neg e, if_neg (fun z => e (h1.trans z))]; exact ⟨h1, h2⟩
theorem KV.put {kvs : List (κ × V)} {vs : List (κ × Value)} (r : KV kvs vs) (k : κ) {y : V} {u : Value} (ry : RelV y u) : KV (putK kvs k y) (stored vs k u) := by
  unfold putK stored
  rw [r.any k]
  by_cases e : (vs.any fun kv => decide (kv.1 = k)) = true
  · rw [if_pos e, if_pos e]; exact r.repl k ry
  · rw [if_neg e, if_neg e]; exact Paired.snoc r ⟨rfl, ry⟩
theorem KV.drop {kvs : List (κ × V)} {vs : List (κ × Value)} (r : KV kvs vs) (k : κ) : KV (dropK kvs k) (without vs k) := by
  unfold KV at r ⊢
  unfold dropK without
  induction r with
  | nil => exact .nil
  | @cons p q ps qs h t ih =>
    obtain ⟨h1, h2⟩ := h
    rw [List.filter_cons, List.filter_cons]
    by_cases e : p.1 = k
    · have a : ¬ decide (p.1 ≠ k) = true := by simp [e]
      have b : ¬ decide (q.1 ≠ k) = true := by simp [h1.symm.trans e]
      rw [if_neg a, if_neg b]; exact ih
    · have e' : ¬ q.1 = k := fun z => e (h1.trans z)
      have a : decide (p.1 ≠ k) = true := by simp [e]
      have b : decide (q.1 ≠ k) = true := by simp [e']
      rw [if_pos a, if_pos b]; exact .cons ⟨h1, h2⟩ ih
theorem KV.keys {kvs : List (κ × V)} {vs : List (κ × Value)} (r : KV kvs vs) : kvs.map (·.1) = vs.map (·.1) := by
  unfold KV at r
  induction r with
  | nil => rfl
  | cons h t ih => rw [List.map_cons, List.map_cons, ih, h.1]
theorem KV.length {kvs : List (κ × V)} {vs : List (κ × Value)} (r : KV kvs vs) : kvs.length = vs.length := Paired.length r
theorem dropK_le (kvs : List (κ × V)) (k : κ) : (dropK kvs k).length ≤ kvs.length := List.length_filter_le _ _
end


/-! ### a tracked dict, its keys ints and texts or tuples of these -/
theorem kV_is {P : Program} {w : World} {k : Key} {u : Value} (r : RelV (kV k) u) : (mixKind P w).is k u = true := by
  cases k with
  | inl i => obtain ⟨t, e⟩ := (show ∃ t, u = Value.int i t from r); subst e; exact mixKind_int P w i t
  | inr x => obtain ⟨t, e⟩ := (show ∃ t, u = Value.str x t from r); subst e; exact mixKind_str P w x t
theorem kV_inj {a b : Key} (e : kV a = kV b) : a = b := by
  cases a with
  | inl i => cases b with
    | inl j => have e' : V.int i = V.int j := e; injection e' with e'; rw [e']
    | inr y => exact nomatch (show V.int i = V.str y from e)
  | inr x => cases b with
    | inl j => exact nomatch (show V.str x = V.int j from e)
    | inr y => have e' : V.str x = V.str y := e; injection e' with e'; rw [e']
theorem kVs_inj : ∀ {a b : List Key}, a.map kV = b.map kV → a = b
  | [], [], _ => rfl
  | [], _ :: _, e => by simp at e
  | _ :: _, [], e => by simp at e
  | x :: xs, y :: ys, e => by
    rw [List.map_cons, List.map_cons] at e
    injection e with e1 e2
    rw [kV_inj e1, kVs_inj e2]
theorem items_are {P : Program} {w : World} : ∀ {ks : List Key} {us : List Value}, Vals (ks.map kV) us → ItemsAre (mixKind P w) ks us
  | [], _, r => by rw [List.map_nil] at r; cases r; exact .nil
  | k :: ks, _, r => by
    rw [List.map_cons] at r
    cases r with
    | cons h t => exact .cons (kV_is h) (items_are t)

/-- raw entries of a dict with tuple keys -/
abbrev KT (H : Hp) : List (List Key × V) → List (List Key × Addr × Value) → Prop := Paired fun p q => p.1 = q.1 ∧ H q.2.1 = some (.tup (p.1.map kV)) ∧ RelV p.2 q.2.2
theorem KT.val {H : Hp} {kvs : List (List Key × V)} {xs : List (List Key × Addr × Value)} (r : KT H kvs xs) (k : List Key) : RelO (valV kvs k) ((atKey xs k).map (·.2)) := by
  induction r with
  | nil => exact True.intro
  | @cons p q ps qs h t ih =>
    obtain ⟨h1, _, h2⟩ := h
    by_cases e : p.1 = k
    · have e' : q.1 = k := h1.symm.trans e
      have b : atKey (q :: qs) k = some q.2 := by simp [atKey, List.find?_cons, e']
      rw [valV_pos e, b]; exact h2
    · have e' : ¬ q.1 = k := fun z => e (h1.trans z)
      have b : atKey (q :: qs) k = atKey qs k := by simp [atKey, List.find?_cons, e']
      rw [valV_neg e, b]; exact ih
theorem KT.repl {H : Hp} {kvs : List (List Key × V)} {xs : List (List Key × Addr × Value)} (r : KT H kvs xs) (k : List Key) {y : V} {u : Value} (ry : RelV y u) :
    KT H (kvs.map fun kv => if kv.1 = k then (kv.1, y) else kv) (xs.map (putAt k u)) := by
  induction r with
  | nil => exact .nil
  | @cons p q ps qs h t ih =>
    rw [List.map_cons, List.map_cons]
    refine .cons ?_ ih
    obtain ⟨h1, h2, h3⟩ := h
    unfold putAt
    by_cases e : p.1 = k
    · rw [if_pos e, if_pos (h1.symm.trans e)]; exact ⟨h1, h2, ry⟩
    · rw [if_neg e, if_neg (fun z => e (h1.trans z))]; exact ⟨h1, h2, h3⟩
theorem KT.put {H : Hp} {kvs : List (List Key × V)} {xs : List (List Key × Addr × Value)} (r : KT H kvs xs) (k : List Key) {b : Addr} {y : V} {u : Value} (hb : H b = some (.tup (k.map kV))) (ry : RelV y u) :
    KT H (putK kvs k y) (storedH xs k b u) := by
  have e : (kvs.any fun kv => decide (kv.1 = k)) = (atKey xs k).isSome := by
    rw [valV_any, (r.val k).isSome_eq, Option.isSome_map]
  unfold putK storedH
  rw [e]
  by_cases q : (atKey xs k).isSome = true
  · rw [if_pos q, if_pos q]; exact r.repl k ry
  · rw [if_neg q, if_neg q]; exact Paired.snoc r ⟨rfl, hb, ry⟩
theorem KT.keeps {H H' : Hp} {kvs : List (List Key × V)} {xs : List (List Key × Addr × Value)} (r : KT H kvs xs) (ht : ∀ b ys, H b = some (.tup ys) → H' b = some (.tup ys)) : KT H' kvs xs :=
  Paired.mapP r fun _ _ z => ⟨z.1, ht _ _ z.2.1, z.2.2⟩

section
variable {P : Program} {w : World} {H : Hp} {h : Heap} {a : Addr}
theorem rd_of {u : HO} (ok : HOk P w H h) (e : Rd H a u) : ObjOk P w H h a u := e.ok ok
theorem dk_rd {kvs : List (Key × V)} (ok : HOk P w H h) (e : Rd H a (.dK kvs)) : kvs.length ≤ sizeLine ∧ (a == sysModules) = false ∧ ∃ vs, KV kvs vs ∧ h.DictOf (mixKind P w) a vs :=
  show ObjOk P w H h a (.dK kvs) from rd_of ok e
theorem dk_of {kvs : List (Key × V)} (ok : HOk P w H h) (e : H a = some (.dK kvs)) : kvs.length ≤ sizeLine ∧ (a == sysModules) = false ∧ ∃ vs, KV kvs vs ∧ h.DictOf (mixKind P w) a vs := dk_rd ok (.inl e)
/-- a tracked tuple of ints and texts is a key -/
theorem key_of {ks : List Key} (ok : HOk P w H h) (e : H a = some (.tup (ks.map kV))) : (tupleKind (mixKind P w)).is h ks a := by
  obtain ⟨_, its, r, o, h1, h2, n, h3⟩ := (show ObjOk P w H h a (.tup (ks.map kV)) from ok a _ e)
  exact ⟨o, its.toArray, n, h1, h2, h3, by simpa using items_are r⟩
theorem dt_rd {kvs : List (List Key × V)} (ok : HOk P w H h) (e : Rd H a (.dT kvs)) : kvs.length ≤ sizeLine ∧ (a == sysModules) = false ∧
    ∃ xs, KT H kvs xs ∧ h.DictOfH (tupleKind (mixKind P w)) a xs := by
  obtain ⟨z, y, xs, r, o, es, ep, h1, h2, h3, h4, h5⟩ := (show ObjOk P w H h a (.dT kvs) from rd_of ok e)
  refine ⟨z, y, xs, r, o, es, ep, h1, h2, h3, h4, fun x hx => ?_, h5⟩
  have all : ∀ {l : List (List Key × V)} {m : List (List Key × Addr × Value)}, KT H l m → ∀ x ∈ m, (tupleKind (mixKind P w)).is h x.1 x.2.1 := by
    intro l m q
    induction q with
    | nil => intro x hx; exact nomatch hx
    | @cons p q ps qs hq t ih =>
      intro x hx
      rcases List.mem_cons.mp hx with e | hx
      · subst e
        exact key_of ok (by rw [← hq.1]; exact hq.2.1)
      · exact ih x hx
  exact all r x hx
theorem dt_of {kvs : List (List Key × V)} (ok : HOk P w H h) (e : H a = some (.dT kvs)) : kvs.length ≤ sizeLine ∧ (a == sysModules) = false ∧
    ∃ xs, KT H kvs xs ∧ h.DictOfH (tupleKind (mixKind P w)) a xs := dt_rd ok (.inl e)
end

/-- what the dict at a holds at the key y -/
def DGet (H : Hp) (a : Addr) (y : V) (r : Option V) : Prop :=
  (∃ kvs k, Rd H a (.dK kvs) ∧ y = kV k ∧ r = valV kvs k) ∨ ∃ kvs k b, Rd H a (.dT kvs) ∧ y = .ref b ∧ H b = some (.tup (k.map kV)) ∧ r = valV kvs k
/-- the heap behind a[y] = v -/
def DPut (H : Hp) (a : Addr) (y v : V) (H' : Hp) : Prop :=
  (∃ kvs k, H a = some (.dK kvs) ∧ y = kV k ∧ kvs.length < sizeLine ∧ H' = upd H a (.dK (putK kvs k v))) ∨
  ∃ kvs k b, H a = some (.dT kvs) ∧ y = .ref b ∧ H b = some (.tup (k.map kV)) ∧ kvs.length < sizeLine ∧ H' = upd H a (.dT (putK kvs k v))
theorem DGet.k {H : Hp} {a : Addr} {kvs : List (Key × V)} {k : Key} (e : H a = some (.dK kvs)) : DGet H a (kV k) (valV kvs k) := .inl ⟨kvs, k, .inl e, rfl, rfl⟩
theorem DGet.t {H : Hp} {a b : Addr} {kvs : List (List Key × V)} {k : List Key} (e : H a = some (.dT kvs)) (eb : H b = some (.tup (k.map kV))) : DGet H a (.ref b) (valV kvs k) := .inr ⟨kvs, k, b, .inl e, rfl, eb, rfl⟩
theorem DPut.k {H : Hp} {a : Addr} {kvs : List (Key × V)} {k : Key} {v : V} (e : H a = some (.dK kvs)) (hl : kvs.length < sizeLine) : DPut H a (kV k) v (upd H a (.dK (putK kvs k v))) := .inl ⟨kvs, k, e, rfl, hl, rfl⟩
theorem DPut.t {H : Hp} {a b : Addr} {kvs : List (List Key × V)} {k : List Key} {v : V} (e : H a = some (.dT kvs)) (eb : H b = some (.tup (k.map kV))) (hl : kvs.length < sizeLine) :
    DPut H a (.ref b) v (upd H a (.dT (putK kvs k v))) := .inr ⟨kvs, k, b, e, rfl, eb, hl, rfl⟩


section
variable {X : Cx} {pins : List (Addr × Obj)} {σ : St} {H : Hp} {s : Shared} {a : Addr} {y v : V} {u r : Value} {o : Option V} {A : Around} {E : Value → Shared → Prop}

theorem Inv.big (I : Inv X pins σ H s) : sysModules < s.heap.objs.size := by
  have h : mainGlobals < s.heap.objs.size := (I.mod.glob.keeps I.bk).lt
  exact Nat.lt_trans (by decide) h

/-- d[y], there -/
theorem d_getItem {Q : Value → Shared → Prop} (hu : A.units + 1 < cLine) (I : Inv X pins σ H s) (g : DGet H a y (some v)) (ry : RelV y u) (h : ∀ w' s', Inv X pins σ H s' → RelV v w' → Q w' s') :
    wpAny (model X.prog X.w) A (getItem (.ref a) u) Q E s := by
  rcases g with ⟨kvs, k, e, ey, l⟩ | ⟨kvs, k, b, e, ey, eb, l⟩
  · subst ey
    obtain ⟨z, hd, vs, rel, dd⟩ := dk_rd I.hok e
    obtain ⟨w', hw, rw'⟩ := RelO.some_of (v := v) (o := valueAt vs k) (by rw [l]; exact rel.val k)
    exact wpAny_getItem_of (kV_is ry) dd.mapOf hw (h w' _ (I.tok _) rw')
  · subst ey
    cases (show u = Value.ref b from ry)
    obtain ⟨z, hd, xs, rel, dd⟩ := dt_rd I.hok e
    obtain ⟨w', hw, rw'⟩ := RelO.some_of (v := v) (o := (atKey xs k).map (·.2)) (by rw [l]; exact rel.val k)
    obtain ⟨p, hp, hp2⟩ := Option.map_eq_some_iff.mp hw
    refine wpAny_getItem_heap (tupleKind_room_in1 hu) (key_of I.hok eb) dd hp ?_
    rw [hp2]
    exact h w' _ (I.tok _) rw'
/-- y in d -/
theorem d_in {Q : Value → Shared → Prop} (hu : A.units + 1 < cLine) (I : Inv X pins σ H s) (g : DGet H a y o) (ry : RelV y u) (h : ∀ s', Inv X pins σ H s' → Q (.bool o.isSome) s') :
    wpAny (model X.prog X.w) A (compareOp .In u (.ref a)) Q E s := by
  rcases g with ⟨kvs, k, e, ey, l⟩ | ⟨kvs, k, b, e, ey, eb, l⟩
  · subst ey
    obtain ⟨z, hd, vs, rel, dd⟩ := dk_rd I.hok e
    refine wpAny_in_of (kV_is ry) hd dd.mapOf ?_
    rw [← (rel.val k).isSome_eq, ← l]
    exact h _ (I.tok _)
  · subst ey
    cases (show u = Value.ref b from ry)
    obtain ⟨z, hd, xs, rel, dd⟩ := dt_rd I.hok e
    refine wpAny_in_heap (tupleKind_room_in1 hu) (key_of I.hok eb) hd dd ?_
    have q := (rel.val k).isSome_eq
    rw [Option.isSome_map] at q
    rw [← q, ← l]
    exact h _ (I.tok _)
theorem d_notIn {Q : Value → Shared → Prop} (hu : A.units + 1 < cLine) (I : Inv X pins σ H s) (g : DGet H a y o) (ry : RelV y u) (h : ∀ s', Inv X pins σ H s' → Q (.bool (!o.isSome)) s') :
    wpAny (model X.prog X.w) A (compareOp .NotIn u (.ref a)) Q E s := by
  rcases g with ⟨kvs, k, e, ey, l⟩ | ⟨kvs, k, b, e, ey, eb, l⟩
  · subst ey
    obtain ⟨z, hd, vs, rel, dd⟩ := dk_rd I.hok e
    refine wpAny_notIn_of (kV_is ry) hd dd.mapOf ?_
    rw [← (rel.val k).isSome_eq, ← l]
    exact h _ (I.tok _)
  · subst ey
    cases (show u = Value.ref b from ry)
    obtain ⟨z, hd, xs, rel, dd⟩ := dt_rd I.hok e
    refine wpAny_notIn_heap (tupleKind_room_in1 hu) (key_of I.hok eb) hd dd ?_
    have q := (rel.val k).isSome_eq
    rw [Option.isSome_map] at q
    rw [← q, ← l]
    exact h _ (I.tok _)
/-- a dict's object is replaced -/
theorem d_write {h' : Heap} {t' : Nat} {ob : HO} (I : Inv X pins σ H s) (mu : Mut (H a)) (hs : Heap.SameBut a s.heap h') (he : ∃ q, h'.get? a = some q) (new : ObjOk X.prog X.w (upd H a ob) h' a ob) :
    Inv X pins σ (upd H a ob) { s with heap := h', toks := t' } :=
  I.write (x := a) (e := a) mu (.inl rfl) (fun b q hb z => (hs.2 b hb).trans z) he new
theorem dk_new {P : Program} {w : World} {H' : Hp} {h' : Heap} {kvs : List (Key × V)} {vs : List (Key × Value)} (z : kvs.length ≤ sizeLine) (hd : (a == sysModules) = false) (rel : KV kvs vs) (dd : h'.DictOf (mixKind P w) a vs) :
    ObjOk P w H' h' a (.dK kvs) := ⟨z, hd, vs, rel, dd⟩
/-- d[y] = v -/
theorem d_setItem {H' : Hp} {Q : Unit → Shared → Prop} (hu : A.units + 1 < cLine) (I : Inv X pins σ H s) (g : DPut H a y v H') (ry : RelV y u) (rv : RelV v r) (h : ∀ s', Inv X pins σ H' s' → Q () s') :
    wpAny (model X.prog X.w) A (setItem (.ref a) u r) Q E s := by
  rcases g with ⟨kvs, k, e, ey, l, eH⟩ | ⟨kvs, k, b, e, ey, eb, l, eH⟩
  · subst ey eH
    obtain ⟨z, hd, vs, rel, dd⟩ := dk_of I.hok e
    have hz : vs.length ≤ sizeLine := by rw [← rel.length]; exact z
    have hl : (putK kvs k v).length ≤ sizeLine := by have := length_putK kvs k v; omega
    refine wpAny_setItem_pairs (hsz := hz) (kV_is ry) dd fun h' dd' hs => h _ ?_
    have he : ∃ q, h'.get? a = some q := let ⟨q, _, _, hq, _⟩ := dd'; ⟨q, hq⟩
    exact d_write I (by rw [e]; exact True.intro) hs he (dk_new hl hd (rel.put k rv) dd')
  · subst ey eH
    cases (show u = Value.ref b from ry)
    obtain ⟨z, hd, xs, rel, dd⟩ := dt_of I.hok e
    have hz : xs.length ≤ sizeLine := by rw [← Paired.length rel]; exact z
    have hl : (putK kvs k v).length ≤ sizeLine := by have := length_putK kvs k v; omega
    refine wpAny_setItem_heap (hsz := hz) (tupleKind_room_in1 hu) (key_of I.hok eb) dd fun h' dd' hs => h _ ?_
    obtain ⟨q, es, ep, hq, h2, h3, h4, _, h5⟩ := dd'
    refine d_write I (by rw [e]; exact True.intro) hs ⟨q, hq⟩ ⟨hl, hd, _, (rel.put k eb rv).keeps fun c ys ec => ?_, q, es, ep, hq, h2, h3, h4, h5⟩
    rw [upd_ne (ne_of ec e (fun z => nomatch z))]
    exact ec
end

section
variable {X : Cx} {pins : List (Addr × Obj)} {σ : St} {H : Hp} {s : Shared} {a : Addr} {kvs : List (Key × V)} {k : Key} {u : Value} {A : Around} {E : Value → Shared → Prop}
/-- del d[k] -/
theorem d_delItem {Q : Unit → Shared → Prop} (I : Inv X pins σ H s) (e : H a = some (.dK kvs)) (ry : RelV (kV k) u) (l : (valV kvs k).isSome = true) (h : ∀ s', Inv X pins σ (upd H a (.dK (dropK kvs k))) s' → Q () s') :
    wpAny (model X.prog X.w) A (delItem (.ref a) u) Q E s := by
  obtain ⟨z, hd, vs, rel, dd⟩ := dk_of I.hok e
  refine wpAny_delItem_slot dd.typeIs (by decide) PySem.F.slot_dict_delitem
    (call_meetsIn PySem.F.slot_dict_delitem dd.typeIs PySem.F.entry_dict_delitem (PySem.F.args_dict_delitem_2 _ _) (meets_dict_delitem_pairs (mixKind X.prog X.w) a (kV_is ry)) ⟨vs, dd, by rw [← rel.length]; exact z, by rw [← (rel.val k).isSome_eq]; exact l, fun h' dd' hs => h _ ?_⟩)
  have he : ∃ q, h'.get? a = some q := let ⟨q, _, _, hq, _⟩ := dd'; ⟨q, hq⟩
  exact d_write I (by rw [e]; exact True.intro) hs he (dk_new (Nat.le_trans (dropK_le kvs k) z) hd (rel.drop k) dd')
/-- d.pop(k[, x]), there -/
theorem d_pop {v : V} {more : List Value} {Q : Value → Shared → Prop} (I : Inv X pins σ H s) (e : H a = some (.dK kvs)) (ry : RelV (kV k) u) (l : valV kvs k = some v) (hm : more = [] ∨ ∃ x, more = [x])
    (h : ∀ w' s', Inv X pins σ (upd H a (.dK (dropK kvs k))) s' → RelV v w' → Q w' s') : wpAny (model X.prog X.w) A (call (.builtin "dict.pop") (.ref a :: u :: more)) Q E s := by
  obtain ⟨z, hd, vs, rel, dd⟩ := dk_of I.hok e
  obtain ⟨w', hw, rw'⟩ := RelO.some_of (v := v) (o := valueAt vs k) (by rw [← l]; exact rel.val k)
  have hp : (keyPart u).isSome = true := by
    cases k with
    | inl i => obtain ⟨t, q⟩ := (show ∃ t, u = Value.int i t from ry); subst q; rfl
    | inr x => obtain ⟨t, q⟩ := (show ∃ t, u = Value.str x t from ry); subst q; rfl
  have ha : argsOk "dict.pop" ⟨.ref a :: u :: more, []⟩ := by
    rcases hm with q | ⟨x, q⟩
    · subst q; exact PySem.F.args_dict_pop_2 _ _
    · subst q; exact PySem.F.args_dict_pop_3 _ _ _
  refine call_meetsIn PySem.F.slot_dict_pop dd.typeIs PySem.F.entry_dict_pop ha (meets_dict_pop_there (mixKind X.prog X.w) a (kV_is ry) more hm hp)
    ⟨vs, w', dd, by rw [← rel.length]; exact z, hw, fun h' dd' hs => h w' _ ?_ rw'⟩
  have he : ∃ q, h'.get? a = some q := let ⟨q, _, _, hq, _⟩ := dd'; ⟨q, hq⟩
  exact d_write I (by rw [e]; exact True.intro) hs he (dk_new (Nat.le_trans (dropK_le kvs k) z) hd (rel.drop k) dd')
/-- d.pop(k, x), not there -/
theorem d_popD {r : Value} {Q : Value → Shared → Prop} (I : Inv X pins σ H s) (e : H a = some (.dK kvs)) (ry : RelV (kV k) u) (l : valV kvs k = none) (h : ∀ s', Inv X pins σ H s' → Q r s') :
    wpAny (model X.prog X.w) A (call (.builtin "dict.pop") [.ref a, u, r]) Q E s := by
  obtain ⟨z, hd, vs, rel, dd⟩ := dk_of I.hok e
  have hn : valueAt vs k = none := RelO.none_of (by rw [← l]; exact rel.val k)
  have hp : (keyPart u).isSome = true := by
    cases k with
    | inl i => obtain ⟨t, q⟩ := (show ∃ t, u = Value.int i t from ry); subst q; rfl
    | inr x => obtain ⟨t, q⟩ := (show ∃ t, u = Value.str x t from ry); subst q; rfl
  exact call_meetsIn PySem.F.slot_dict_pop dd.typeIs PySem.F.entry_dict_pop (PySem.F.args_dict_pop_3 _ _ _) (meets_dict_pop_default (mixKind X.prog X.w) a (kV_is ry) hd hp r) ⟨vs, dd, hn, h _ (I.tok _)⟩
/-- d.clear() -/
theorem d_clear {Q : Value → Shared → Prop} (I : Inv X pins σ H s) (e : H a = some (.dK kvs)) (h : ∀ s', Inv X pins σ (upd H a (.dK [])) s' → Q .none s') : wpAny (model X.prog X.w) A (call (.builtin "dict.clear") [.ref a]) Q E s := by
  obtain ⟨z, hd, vs, rel, dd⟩ := dk_of I.hok e
  refine call_meetsIn PySem.F.slot_dict_clear dd.typeIs PySem.F.entry_dict_clear (PySem.F.args_dict_clear_1 _) (meets_dict_clear (mixKind X.prog X.w) a) ⟨vs, dd, by rw [← rel.length]; exact z, fun h' dd' hs => h _ ?_⟩
  have he : ∃ q, h'.get? a = some q := let ⟨q, _, _, hq, _⟩ := dd'; ⟨q, hq⟩
  exact d_write (t' := s.toks) I (by rw [e]; exact True.intro) hs he (dk_new (Nat.zero_le _) hd .nil dd')
/-- len(d) -/
theorem d_len {Q : Value → Shared → Prop} (I : Inv X pins σ H s) (e : Rd H a (.dK kvs)) (h : ∀ t s', Inv X pins σ H s' → Q (.int kvs.length t) s') : wpAny (model X.prog X.w) A (call (.builtin "len") [.ref a]) Q E s := by
  obtain ⟨z, hd, vs, rel, dd⟩ := dk_rd I.hok e
  refine call_len_dict hd dd (by rw [← rel.length]; rw [sizeLine_eq] at z; omega) ?_
  rw [← rel.length]
  exact h _ _ (I.tok _)
/-- if d -/
theorem d_truth {Q : Bool → Shared → Prop} (I : Inv X pins σ H s) (e : Rd H a (.dK kvs)) (h : ∀ s', Inv X pins σ H s' → Q (!kvs.isEmpty) s') : wpAny (model X.prog X.w) A (truthy (.ref a)) Q E s := by
  obtain ⟨z, hd, vs, rel, dd⟩ := dk_rd I.hok e
  refine wpAny_truthy_dict hd dd (by rw [← rel.length]; rw [sizeLine_eq] at z; omega) ?_
  have q : kvs.isEmpty = vs.isEmpty := by cases rel <;> rfl
  rw [← q]
  exact h _ (I.tok _)
end


/-! ### readings and rules -/
/-- the element of a subscription, not a slice -/
def NoSl (i : Expr) : Prop := ∀ ov iv, subscripted i false ov iv = operate [ov, iv] (getItem ov iv)
theorem subD_of {prog : Program} {w : World} {A : Around} {E : Value → Shared → Prop} {s : Shared} {env : Env} {value slice : Expr} {pos : Pos} {T id : String} {Q : Value → Shared → Prop}
    (hl : typeLookup (.type T) "__getitem__" = pure (some (.builtin id))) (hs : NoSl slice)
    (h : wpAny (model prog w) A (eval value env) (fun o s₁ => wpAny (model prog w) A (eval slice env) (fun i s₂ => s₂.TypeIs o T ∧ wpAny (model prog w) A (getItem o i) Q E s₂) E s₁) E s) :
    wpAny (model prog w) A (eval (.Subscript value slice pos) env) Q E s := by
  refine Subscript_ (wpAny_mono h (fun o s₁ h₁ => wpAny_mono h₁ (fun i s₂ h₂ => ?_) fun _ _ x => x) fun _ _ x => x)
  obtain ⟨hT, h₂⟩ := h₂
  unfold subscriptTail
  refine wpAny_bind ?_
  rw [getitemInPython_of_ne hT.not_modules]
  refine wpAny_bind (wpAny_specialOf hT hl ?_)
  have fin : wpAny (model prog w) A (subscripted slice false o i) (fun r s₃ => wpAny (model prog w) A (letTemporaryGo value o r >>= fun _ => pure r) Q E s₃) E s₂ := by
    rw [hs o i]
    exact wpAny_operating (wpAny_mono h₂ (fun r s₃ h₃ => wpAny_bind (wpAny_letTemporaryGo (wpAny_pure h₃))) fun _ _ x => x)
  first
    | exact wpAny_pure (wpAny_bind fin)
    | exact wpAny_bind (wpAny_pure (wpAny_bind fin))
    | exact wpAny_bind fin

theorem dict_typeIs {X : Cx} {pins : List (Addr × Obj)} {σ : St} {H : Hp} {s : Shared} {a : Addr} {y : V} {o : Option V} (I : Inv X pins σ H s) (g : DGet H a y o) : s.TypeIs (.ref a) "dict" := by
  rcases g with ⟨kvs, k, e, _, _⟩ | ⟨kvs, k, b, e, _, _, _⟩
  · obtain ⟨_, _, vs, _, dd⟩ := dk_rd I.hok e
    exact dd.typeIs
  · obtain ⟨_, _, xs, _, dd⟩ := dt_rd I.hok e
    exact dd.typeIs
theorem dict_noDict {X : Cx} {pins : List (Addr × Obj)} {σ : St} {H : Hp} {s : Shared} {a : Addr} {y : V} {o : Option V} (I : Inv X pins σ H s) (g : DGet H a y o) :
    ∀ b, Value.ref a = .ref b → ∃ ob, s.heap.get? b = some ob ∧ ob.dict = none := fun b q => by
  cases q
  rcases g with ⟨kvs, k, e, _, _⟩ | ⟨kvs, k, b, e, _, _, _⟩
  · obtain ⟨_, _, vs, _, ob, _, _, h1, h2, _⟩ := dk_rd I.hok e
    exact ⟨ob, h1, h2.2.1⟩
  · obtain ⟨_, _, xs, _, ob, _, _, h1, h2, _⟩ := dt_rd I.hok e
    exact ⟨ob, h1, h2.2.1⟩

/-- d[y] -/
def tDGet (td ty : TE) : TE := fun σ H Q => td σ H fun x H1 => ty σ H1 fun y H2 => ∃ a v, x = .ref a ∧ DGet H2 a y (some v) ∧ Q v H2
/-- y in d, y not in d -/
def tDIn (ty td : TE) : TE := fun σ H Q => ty σ H fun y H1 => td σ H1 fun x H2 => ∃ a o, x = .ref a ∧ DGet H2 a y o ∧ Q (.bl o.isSome) H2
def tDNotIn (ty td : TE) : TE := fun σ H Q => ty σ H fun y H1 => td σ H1 fun x H2 => ∃ a o, x = .ref a ∧ DGet H2 a y o ∧ Q (.bl (!o.isSome)) H2
/-- d[y] = v -/
def sDPut (td ty tv : TE) : TS := fun D σ H => tv σ H fun v H1 => td σ H1 fun x H2 => ty σ H2 fun y H3 => ∃ a H4, x = .ref a ∧ DPut H3 a y v H4 ∧ D.nx σ H4
/-- d[y] op= v -/
def sDAug (td ty tv : TE) (rd : V → V → Hp → VK → Prop) : TS := fun D σ H => td σ H fun x H1 => ty σ H1 fun y H2 => ∃ a v, x = .ref a ∧ DGet H2 a y (some v) ∧
  tv σ H2 fun y2 H3 => rd v y2 H3 fun z H4 => ∃ H5, DPut H4 a y z H5 ∧ D.nx σ H5
/-- del d[y] -/
def sDDel (td ty : TE) : TS := fun D σ H => td σ H fun x H1 => ty σ H1 fun y H2 => ∃ a kvs k, x = .ref a ∧ H2 a = some (.dK kvs) ∧ y = kV k ∧ (valV kvs k).isSome = true ∧ D.nx σ (upd H2 a (.dK (dropK kvs k)))

section
variable {X : Cx} {o i e value : Expr} {pos pos' tpos : Pos} {td ty tv : TE}
theorem pe_dget (hu : X.A.units + 1 < cLine) (ho : PE X o td) (hi : PE X i ty) (hs : NoSl i) : PE X (.Subscript o i pos) (tDGet td ty) := by
  intro pins s σ H Q I h
  refine subD_of PySem.F.slot_dict_getitem.lookup hs (thn (ho pins s σ H _ I h) fun u s1 ⟨x, H1, I1, rx, q1⟩ => thn (hi pins s1 σ H1 _ I1 q1) fun iv s2 ⟨y, H2, I2, ry, a, v, ex, g, q2⟩ => ?_)
  subst ex
  obtain rfl : u = Value.ref a := rx
  exact ⟨dict_typeIs I2 g, d_getItem hu I2 g ry fun w' s3 I3 rw' => ⟨v, H2, I3, rw', q2⟩⟩
theorem pc_din (hu : X.A.units + 1 < cLine) (hi : PE X i ty) (ho : PE X o td) : PC X .In i o (tDIn ty td) := by
  intro pins s σ H Q I h
  refine thn (hi pins s σ H _ I h) fun iv s1 ⟨y, H1, I1, ry, q1⟩ => thn (ho pins s1 σ H1 _ I1 q1) fun u s2 ⟨x, H2, I2, rx, a, ov, ex, g, q2⟩ => ?_
  subst ex
  obtain rfl : u = Value.ref a := rx
  exact d_in hu I2 g ry fun s3 I3 => ⟨.bl ov.isSome, H2, I3, rfl, q2⟩
theorem pc_dnotin (hu : X.A.units + 1 < cLine) (hi : PE X i ty) (ho : PE X o td) : PC X .NotIn i o (tDNotIn ty td) := by
  intro pins s σ H Q I h
  refine thn (hi pins s σ H _ I h) fun iv s1 ⟨y, H1, I1, ry, q1⟩ => thn (ho pins s1 σ H1 _ I1 q1) fun u s2 ⟨x, H2, I2, rx, a, ov, ex, g, q2⟩ => ?_
  subst ex
  obtain rfl : u = Value.ref a := rx
  exact d_notIn hu I2 g ry fun s3 I3 => ⟨.bl (!ov.isSome), H2, I3, rfl, q2⟩
theorem ps_dput (hu : X.A.units + 1 < cLine) (ho : PE X o td) (hi : PE X i ty) (hv : PE X value tv) (hs : swapsWith value (some (.Subscript o i pos')) pos.line X.env = pure false) :
    PS X (.Assign [.Subscript o i pos'] value pos) (sDPut td ty tv) := by
  intro pins s σ H D I h
  refine wpAny_Assign_Subscript (thn (hv pins s σ H _ I h) fun r s1 ⟨v, H1, I1, rv, q1⟩ => thn (ho pins s1 σ H1 _ I1 q1) fun u s2 ⟨x, H2, I2, rx, q2⟩ => thn (hi pins s2 σ H2 _ I2 q2) fun iv s3 ⟨y, H3, I3, ry, a, H4, ex, g, q3⟩ => ?_) hs
  subst ex
  obtain rfl : u = Value.ref a := rx
  exact d_setItem hu I3 g ry rv fun s4 I4 => ⟨σ, H4, I4, q3⟩
theorem ps_daug {op : Operator} {rd : V → V → Hp → VK → Prop} (hu : X.A.units + 1 < cLine) (ho : PE X o td) (hi : PE X i ty) (hv : PE X value tv) (hop : InOp X op rd)
    (ha : ∀ ov iv new, augStore i ov iv new = (do holding [new, ov, iv] (setItem ov iv new); release [new, ov, iv] []; pure .next)) : PS X (.AugAssign (.Subscript o i tpos) op value pos) (sDAug td ty tv rd) := by
  intro pins s σ H D I h
  refine wpAny_AugAssign_SubscriptAny (thn (ho pins s σ H _ I h) fun u s1 ⟨x, H1, I1, rx, q1⟩ => thn (hi pins s1 σ H1 _ I1 q1) fun iv s2 ⟨y, H2, I2, ry, a, v, ex, g, q2⟩ => ?_) ha
  subst ex
  obtain rfl : u = Value.ref a := rx
  refine d_getItem hu I2 g ry fun w' s3 I3 rw' => thn (hv pins s3 σ H2 _ I3 q2) fun w2 s4 ⟨y2, H3, I4, ry2, q3⟩ => thn (hop pins s4 σ H3 v y2 w' w2 _ I4 rw' ry2 q3) fun w3 s5 ⟨z, H4, I5, rz, H5, g5, q4⟩ => ?_
  exact d_setItem hu I5 g5 ry rz fun s6 I6 => ⟨σ, H5, I6, q4⟩
theorem ps_ddel (ho : PE X o td) (hi : PE X i ty) : PS X (.Delete [.Subscript o i tpos] pos) (sDDel td ty) := by
  intro pins s σ H D I h
  refine wpAny_Delete (wpAny_deleteEach_cons (wpAny_delete_Subscript (thn (ho pins s σ H _ I h) fun u s1 ⟨x, H1, I1, rx, q1⟩ => thn (hi pins s1 σ H1 _ I1 q1) fun iv s2 ⟨y, H2, I2, ry, a, kvs, k, ex, e, ey, l, q2⟩ => ?_)))
  subst ex ey
  obtain rfl : u = Value.ref a := rx
  exact d_delItem I2 e ry l fun s3 I3 => wpAny_deleteEach_nil ⟨σ, _, I3, q2⟩
end


/-! ### displays -/
theorem dk_empty {P : Program} {w : World} {H : Hp} (h : Heap) (hb : sysModules < h.objs.size) : ObjOk P w H (h.push { cls := .type "dict", data := .dict #[] }) h.objs.size (.dK []) :=
  ⟨Nat.zero_le _, beq_eq_false_iff_ne.mpr (Ne.symm (Nat.ne_of_lt hb)), [], .nil, Heap.DictOf.new h⟩
theorem dt_empty {P : Program} {w : World} {H : Hp} (h : Heap) (hb : sysModules < h.objs.size) : ObjOk P w H (h.push { cls := .type "dict", data := .dict #[] }) h.objs.size (.dT []) :=
  ⟨Nat.zero_le _, beq_eq_false_iff_ne.mpr (Ne.symm (Nat.ne_of_lt hb)), [], .nil, _, #[], 0, Heap.get?_push_size _ rfl, ⟨rfl, rfl, rfl⟩, rfl, rfl, List.nodup_nil⟩
/-- {}, to be a dict of the kind that is wanted -/
def tDNewK : TE := fun _ H Q => ∀ p, H p = none → Q (.ref p) (upd H p (.dK []))
def tDNewT : TE := fun _ H Q => ∀ p, H p = none → Q (.ref p) (upd H p (.dT []))
section
variable {X : Cx} {pos : Pos}
theorem pe_dnewK : PE X (.Dict [] [] pos) tDNewK := fun pins s σ H Q I h =>
  wpAny_Dict_empty ⟨.ref s.heap.objs.size, _, I.laid (a := s.heap.objs.size) (o := .dK []) (t' := s.toks) (fun _ _ q => Heap.get?_push_of_some _ q) (Nat.le_refl _) (dk_empty s.heap I.big), rfl, h _ (I.hok.fresh (Nat.le_refl _))⟩
theorem pe_dnewT : PE X (.Dict [] [] pos) tDNewT := fun pins s σ H Q I h =>
  wpAny_Dict_empty ⟨.ref s.heap.objs.size, _, I.laid (a := s.heap.objs.size) (o := .dT []) (t' := s.toks) (fun _ _ q => Heap.get?_push_of_some _ q) (Nat.le_refl _) (dt_empty s.heap I.big), rfl, h _ (I.hok.fresh (Nat.le_refl _))⟩
end

/-- the pairs of a display, from the left -/
def tPairs : List (TE × TE) → St → Hp → (List (V × V) → Hp → Prop) → Prop
  | [], _, H, Q => Q [] H
  | (tk, tv) :: r, σ, H, Q => tk σ H fun x H1 => tv σ H1 fun y H2 => tPairs r σ H2 fun ps H3 => Q ((x, y) :: ps) H3
abbrev VV : List (V × V) → List (Value × Value) → Prop := Paired fun p q => RelV p.1 q.1 ∧ RelV p.2 q.2
def PPs (X : Cx) (pos : Pos) (keys : List (Option Expr)) (values : List Expr) (trs : List (TE × TE)) : Prop :=
  ∀ (pins : List (Addr × Obj)) (s : Shared) (σ : St) (H : Hp) (Q : List (V × V) → Hp → Prop), Inv X pins σ H s → tPairs trs σ H Q →
    wpAny (model X.prog X.w) X.A (evalPairs (pairTrees keys values X.env pos)) (fun vs s' => ∃ ps H', Inv X pins σ H' s' ∧ VV ps vs ∧ Q ps H') X.xe s
theorem pps_nil {X : Cx} {pos : Pos} : PPs X pos [] [] [] := fun pins s σ H Q I h => pairTrees_nil_walk ⟨[], H, I, .nil, h⟩
theorem pps_cons {X : Cx} {pos : Pos} {k v : Expr} {ks : List (Option Expr)} {vs : List Expr} {tk tv : TE} {trs : List (TE × TE)} (hk : PE X k tk) (hv : PE X v tv) (hr : PPs X pos ks vs trs) :
    PPs X pos (some k :: ks) (v :: vs) ((tk, tv) :: trs) := fun pins s σ H Q I h =>
  pairTrees_cons_walk (thn (hk pins s σ H _ I h) fun u s1 ⟨x, H1, I1, rx, q1⟩ => thn (hv pins s1 σ H1 _ I1 q1) fun w2 s2 ⟨y, H2, I2, ry, q2⟩ =>
    thn (hr pins s2 σ H2 _ I2 q2) fun ws s3 ⟨ps, H3, I3, rel, q3⟩ => ⟨(x, y) :: ps, H3, I3, .cons ⟨rx, ry⟩ rel, q3⟩)

def mergeK (kvs more : List (Key × V)) : List (Key × V) := more.foldl (fun acc kv => putK acc kv.1 kv.2) kvs
theorem KV.merge : ∀ {more : List (Key × V)} {rs : List (Key × Value)} {kvs : List (Key × V)} {vs : List (Key × Value)}, KV more rs → KV kvs vs → KV (mergeK kvs more) (merged vs rs) := by
  intro more rs kvs vs r
  unfold KV at r
  induction r generalizing kvs vs with
  | nil => intro q; exact q
  | @cons p q ps qs h t ih =>
    intro r0
    have e : KV (putK kvs p.1 p.2) (stored vs q.1 q.2) := by
      have := r0.put p.1 h.2
      rw [← h.1]; exact this
    exact ih e
theorem length_mergeK : ∀ (more kvs : List (Key × V)), (mergeK kvs more).length ≤ kvs.length + more.length
  | [], kvs => by show kvs.length ≤ kvs.length + 0; omega
  | p :: r, kvs => by
    have h1 := length_mergeK r (putK kvs p.1 p.2)
    have h2 := length_putK kvs p.1 p.2
    show (mergeK (putK kvs p.1 p.2) r).length ≤ _
    rw [List.length_cons]; omega
theorem carries_of {P : Program} {w : World} : ∀ {kvs : List (Key × V)} {ws : List (Value × Value)}, VV (kvs.map fun kv => (kV kv.1, kv.2)) ws → ∃ rs, Carries (mixKind P w) ws rs ∧ KV kvs rs
  | [], _, r => by rw [List.map_nil] at r; cases r; exact ⟨[], True.intro, .nil⟩
  | p :: kvs, _, r => by
    rw [List.map_cons] at r
    cases r with
    | @cons a b as bs h t =>
      obtain ⟨rs, c, q⟩ := carries_of (P := P) (w := w) t
      obtain ⟨b1, b2⟩ := b
      exact ⟨(p.1, b2) :: rs, ⟨kV_is h.1, rfl, c⟩, .cons ⟨rfl, h.2⟩ q⟩
/-- {k: v, ..} with keys ints and texts; the new dict stands empty while the pairs are made -/
def tDisp (trs : List (TE × TE)) : TE := fun σ H Q => ∀ p, H p = none → tPairs trs σ (upd H p (.dK [])) fun ps H2 => H2 p = some (.dK []) ∧ ∃ kvs : List (Key × V), ps = kvs.map (fun kv => (kV kv.1, kv.2)) ∧ kvs.length ≤ 15 ∧ Q (.ref p) (upd H2 p (.dK (mergeK [] kvs)))
theorem pe_disp {X : Cx} {pos : Pos} {keys : List (Option Expr)} {values : List Expr} {trs : List (TE × TE)} (h : PPs X pos keys values trs) (hall : keys.all (·.isSome) = true) (hl : keys.length = values.length) (h0 : keys ≠ [])
    (h15 : keys.length ≤ 15) : PE X (.Dict keys values pos) (tDisp trs) := by
  intro pins s σ H Q I q
  have hn := I.hok.fresh (Nat.le_refl s.heap.objs.size)
  have I1 := I.laid (a := s.heap.objs.size) (o := .dK []) (h' := s.heap.push { cls := .type "dict", data := .dict #[] }) (t' := s.toks) (fun _ _ q => Heap.get?_push_of_some _ q) (Nat.le_refl _) (dk_empty s.heap I.big)
  refine wpAny_Dict_walk (knd := mixKind X.prog X.w) hall hl h0 h15 (thn (h pins _ σ _ _ I1 (q _ hn)) fun ws s2 ⟨ps, H2, I2, rel, e, kvs, ep, lk, q2⟩ => ?_)
  subst ep
  obtain ⟨rs, c, rk⟩ := carries_of (P := X.prog) (w := X.w) rel
  obtain ⟨z, hd, vs0, r0, dd⟩ := dk_of I2.hok e
  cases r0
  refine ⟨rs, c, dd, fun h' dd' hs => ⟨.ref s.heap.objs.size, _, ?_, rfl, q2⟩⟩
  have hz : (mergeK [] kvs).length ≤ sizeLine := by
    have h1 := length_mergeK kvs []
    rw [List.length_nil] at h1
    rw [sizeLine_eq]; omega
  have he : ∃ q, h'.get? s.heap.objs.size = some q := let ⟨q, _, _, hq, _⟩ := dd'; ⟨q, hq⟩
  exact d_write I2 (by rw [e]; exact True.intro) hs he (dk_new hz hd (rk.merge .nil) dd')


/-! ### methods -/
/-- a method call o.m(e) of a built-in, with one argument: what must be seen of the text -/
structure M1 (X : Cx) (o : Expr) (m : Str) (apos : Pos) (e : Expr) (cpos : Pos) : Prop where
  base : attributeBase o m X.env (eval o X.env) = eval o X.env
  few : ((backTo cpos (starEach [e] X.env)).all (fun x => !x.1) && (backToKw cpos (keywordEach [] X.env)).all (fun x => x.1.isSome)
    && decide (([e] : List Expr).length + ([] : List Keyword).length + (if ([] : List Keyword).isEmpty then 0 else 1) < 30)) = true
  line : (apos.endLine == cpos.line) = true
  trees : backTo cpos (starEach [e] X.env) = [(false, eval e X.env)]
structure M2 (X : Cx) (o : Expr) (m : Str) (apos : Pos) (e f : Expr) (cpos : Pos) : Prop where
  base : attributeBase o m X.env (eval o X.env) = eval o X.env
  few : ((backTo cpos (starEach [e, f] X.env)).all (fun x => !x.1) && (backToKw cpos (keywordEach [] X.env)).all (fun x => x.1.isSome)
    && decide (([e, f] : List Expr).length + ([] : List Keyword).length + (if ([] : List Keyword).isEmpty then 0 else 1) < 30)) = true
  line : (apos.endLine == cpos.line) = true
  trees : backTo cpos (starEach [e, f] X.env) = [(false, eval e X.env), (false, eval f X.env)]

/-- a is a dict, whatever its keys -/
def IsD (H : Hp) (a : Addr) : Prop := (∃ kvs, Rd H a (.dK kvs)) ∨ ∃ kvs, Rd H a (.dT kvs)
theorem isD_at {X : Cx} {pins : List (Addr × Obj)} {σ : St} {H : Hp} {s : Shared} {a : Addr} (I : Inv X pins σ H s) (d : IsD H a) :
    s.TypeIs (.ref a) "dict" ∧ (∀ b, Value.ref a = .ref b → ∃ ob, s.heap.get? b = some ob ∧ ob.dict = none) ∧ (a == sysModules) = false := by
  rcases d with ⟨kvs, e⟩ | ⟨kvs, e⟩
  · obtain ⟨_, hd, vs, _, dd⟩ := dk_rd I.hok e
    refine ⟨dd.typeIs, fun b q => ?_, hd⟩
    cases q
    obtain ⟨ob, _, _, h1, h2, _⟩ := dd
    exact ⟨ob, h1, h2.2.1⟩
  · obtain ⟨_, hd, xs, _, dd⟩ := dt_rd I.hok e
    refine ⟨dd.typeIs, fun b q => ?_, hd⟩
    cases q
    obtain ⟨ob, _, _, h1, h2, _⟩ := dd
    exact ⟨ob, h1, h2.2.1⟩

section
variable {X : Cx} {pins : List (Addr × Obj)} {σ : St} {H : Hp} {s : Shared} {a : Addr} {y d : V} {u r : Value} {o : Option V} {A : Around} {E : Value → Shared → Prop}
/-- d.get(y) -/
theorem d_get1 {Q : Value → Shared → Prop} (hu : A.units + 1 < cLine) (I : Inv X pins σ H s) (g : DGet H a y o) (ry : RelV y u) (h : ∀ w' s', Inv X pins σ H s' → RelV (o.getD .non) w' → Q w' s') :
    wpAny (model X.prog X.w) A (call (.builtin "dict.get") [.ref a, u]) Q E s := by
  rcases g with ⟨kvs, k, e, ey, l⟩ | ⟨kvs, k, b, e, ey, eb, l⟩
  · subst ey
    obtain ⟨z, hd, vs, rel, dd⟩ := dk_rd I.hok e
    refine call_meetsIn PySem.F.slot_dict_get dd.typeIs PySem.F.entry_dict_get (PySem.F.args_dict_get_2 _ _) (meets_dict_get (mixKind X.prog X.w) a (kV_is ry) hd) ⟨_, dd.mapOf, h _ _ (I.tok _) ?_⟩
    rw [l]
    exact (rel.val k).getD rfl
  · subst ey
    cases (show u = Value.ref b from ry)
    obtain ⟨z, hd, xs, rel, dd⟩ := dt_rd I.hok e
    refine call_meetsIn PySem.F.slot_dict_get dd.typeIs PySem.F.entry_dict_get (PySem.F.args_dict_get_2 _ _) (meetsH_dict_get (tupleKind (mixKind X.prog X.w)) a b hd) ⟨tupleKind_room_in1 hu, k, xs, key_of I.hok eb, dd, h _ _ (I.tok _) ?_⟩
    rw [l]
    exact (rel.val k).getD rfl
/-- d.get(y, x) -/
theorem d_get2 {Q : Value → Shared → Prop} (hu : A.units + 1 < cLine) (I : Inv X pins σ H s) (g : DGet H a y o) (ry : RelV y u) (rd : RelV d r) (h : ∀ w' s', Inv X pins σ H s' → RelV (o.getD d) w' → Q w' s') :
    wpAny (model X.prog X.w) A (call (.builtin "dict.get") [.ref a, u, r]) Q E s := by
  rcases g with ⟨kvs, k, e, ey, l⟩ | ⟨kvs, k, b, e, ey, eb, l⟩
  · subst ey
    obtain ⟨z, hd, vs, rel, dd⟩ := dk_rd I.hok e
    refine call_meetsIn PySem.F.slot_dict_get dd.typeIs PySem.F.entry_dict_get (PySem.F.args_dict_get_3 _ _ _) (meets_dict_get_default (mixKind X.prog X.w) a (kV_is ry) hd r) ⟨_, dd.mapOf, h _ _ (I.tok _) ?_⟩
    rw [l]
    exact (rel.val k).getD rd
  · subst ey
    cases (show u = Value.ref b from ry)
    obtain ⟨z, hd, xs, rel, dd⟩ := dt_rd I.hok e
    refine call_meetsIn PySem.F.slot_dict_get dd.typeIs PySem.F.entry_dict_get (PySem.F.args_dict_get_3 _ _ _) (meetsH_dict_get_default (tupleKind (mixKind X.prog X.w)) a b hd r) ⟨tupleKind_room_in1 hu, k, xs, key_of I.hok eb, dd, h _ _ (I.tok _) ?_⟩
    rw [l]
    exact (rel.val k).getD rd
end

def tDGet1 (td ty : TE) : TE := fun σ H Q => td σ H fun x H1 => ∃ a, x = .ref a ∧ IsD H1 a ∧ ty σ H1 fun y H2 => ∃ o, DGet H2 a y o ∧ Q (o.getD .non) H2
def tDGet2 (td ty tx : TE) : TE := fun σ H Q => td σ H fun x H1 => ∃ a, x = .ref a ∧ IsD H1 a ∧ ty σ H1 fun y H2 => tx σ H2 fun z H3 => ∃ o, DGet H3 a y o ∧ Q (o.getD z) H3
/-- d.pop(k): there; d.pop(k, x): there or not -/
def tDPop1 (td ty : TE) : TE := fun σ H Q => td σ H fun x H1 => ∃ a, x = .ref a ∧ IsD H1 a ∧ ty σ H1 fun y H2 => ∃ kvs k v, H2 a = some (.dK kvs) ∧ y = kV k ∧ valV kvs k = some v ∧ Q v (upd H2 a (.dK (dropK kvs k)))
def tDPop2 (td ty tx : TE) : TE := fun σ H Q => td σ H fun x H1 => ∃ a, x = .ref a ∧ IsD H1 a ∧ ty σ H1 fun y H2 => tx σ H2 fun z H3 => ∃ kvs k, H3 a = some (.dK kvs) ∧ y = kV k ∧
  (∀ v, valV kvs k = some v → Q v (upd H3 a (.dK (dropK kvs k)))) ∧ (valV kvs k = none → Q z H3)
section
variable {X : Cx} {o e f : Expr} {apos cpos : Pos} {td ty tx : TE}
theorem pe_dget1 (hu : X.A.units + 1 < cLine) (ho : PE X o td) (he : PE X e ty) (m : M1 X o "get" apos e cpos) : PE X (.Call (.Attribute o "get" apos) [e] [] cpos) (tDGet1 td ty) := by
  intro pins s σ H Q I h
  refine wpAny_Call_method m.base m.few m.line PySem.F.plainAttrs_dict PySem.F.slot_dict_get PySem.F.type_dict_get (thn (ho pins s σ H _ I h) fun u s1 ⟨x, H1, I1, rx, a, ex, d, q1⟩ => ?_)
  subst ex
  obtain rfl : u = Value.ref a := rx
  obtain ⟨t1, t2, _⟩ := isD_at I1 d
  refine ⟨t1, t2, ?_⟩
  rw [m.trees]
  refine Calls.callWith_builtin rfl (Calls.evalArgs_plain (Calls.spliced_cons (thn (he pins s1 σ H1 _ I1 q1) fun iv s2 ⟨y, H2, I2, ry, ov, g, q2⟩ => Calls.spliced_nil ?_)))
  exact d_get1 hu I2 g ry fun w' s3 I3 rw' => ⟨_, H2, I3, rw', q2⟩
theorem pe_dget2 (hu : X.A.units + 1 < cLine) (ho : PE X o td) (he : PE X e ty) (hf : PE X f tx) (m : M2 X o "get" apos e f cpos) : PE X (.Call (.Attribute o "get" apos) [e, f] [] cpos) (tDGet2 td ty tx) := by
  intro pins s σ H Q I h
  refine wpAny_Call_method m.base m.few m.line PySem.F.plainAttrs_dict PySem.F.slot_dict_get PySem.F.type_dict_get (thn (ho pins s σ H _ I h) fun u s1 ⟨x, H1, I1, rx, a, ex, d, q1⟩ => ?_)
  subst ex
  obtain rfl : u = Value.ref a := rx
  obtain ⟨t1, t2, _⟩ := isD_at I1 d
  refine ⟨t1, t2, ?_⟩
  rw [m.trees]
  refine Calls.callWith_builtin rfl (Calls.evalArgs_plain (Calls.spliced_cons (thn (he pins s1 σ H1 _ I1 q1) fun iv s2 ⟨y, H2, I2, ry, q2⟩ =>
    Calls.spliced_cons (thn (hf pins s2 σ H2 _ I2 q2) fun fv s3 ⟨z, H3, I3, rz, ov, g, q3⟩ => Calls.spliced_nil ?_))))
  exact d_get2 hu I3 g ry rz fun w' s4 I4 rw' => ⟨_, H3, I4, rw', q3⟩
theorem pe_dpop1 (ho : PE X o td) (he : PE X e ty) (m : M1 X o "pop" apos e cpos) : PE X (.Call (.Attribute o "pop" apos) [e] [] cpos) (tDPop1 td ty) := by
  intro pins s σ H Q I h
  refine wpAny_Call_method m.base m.few m.line PySem.F.plainAttrs_dict PySem.F.slot_dict_pop PySem.F.type_dict_pop (thn (ho pins s σ H _ I h) fun u s1 ⟨x, H1, I1, rx, a, ex, d, q1⟩ => ?_)
  subst ex
  obtain rfl : u = Value.ref a := rx
  obtain ⟨t1, t2, _⟩ := isD_at I1 d
  refine ⟨t1, t2, ?_⟩
  rw [m.trees]
  refine Calls.callWith_builtin rfl (Calls.evalArgs_plain (Calls.spliced_cons (thn (he pins s1 σ H1 _ I1 q1) fun iv s2 ⟨y, H2, I2, ry, kvs, k, v, ea, ey, l, q2⟩ => Calls.spliced_nil ?_)))
  subst ey
  exact d_pop I2 ea ry l (.inl rfl) fun w' s3 I3 rw' => ⟨v, _, I3, rw', q2⟩
theorem pe_dpop2 (ho : PE X o td) (he : PE X e ty) (hf : PE X f tx) (m : M2 X o "pop" apos e f cpos) : PE X (.Call (.Attribute o "pop" apos) [e, f] [] cpos) (tDPop2 td ty tx) := by
  intro pins s σ H Q I h
  refine wpAny_Call_method m.base m.few m.line PySem.F.plainAttrs_dict PySem.F.slot_dict_pop PySem.F.type_dict_pop (thn (ho pins s σ H _ I h) fun u s1 ⟨x, H1, I1, rx, a, ex, d, q1⟩ => ?_)
  subst ex
  obtain rfl : u = Value.ref a := rx
  obtain ⟨t1, t2, _⟩ := isD_at I1 d
  refine ⟨t1, t2, ?_⟩
  rw [m.trees]
  refine Calls.callWith_builtin rfl (Calls.evalArgs_plain (Calls.spliced_cons (thn (he pins s1 σ H1 _ I1 q1) fun iv s2 ⟨y, H2, I2, ry, q2⟩ =>
    Calls.spliced_cons (thn (hf pins s2 σ H2 _ I2 q2) fun fv s3 ⟨z, H3, I3, rz, kvs, k, ea, ey, q3, q4⟩ => Calls.spliced_nil ?_))))
  subst ey
  cases l : valV kvs k with
  | some v => exact d_pop I3 ea ry l (.inr ⟨fv, rfl⟩) fun w' s4 I4 rw' => ⟨v, _, I4, rw', q3 v l⟩
  | none => exact d_popD I3 ea ry l fun s4 I4 => ⟨z, H3, I4, rz, q4 l⟩
end

/-! ### dict(d): a copy -/
section
variable {X : Cx} {pins : List (Addr × Obj)} {σ : St} {H : Hp} {s : Shared} {a : Addr} {kvs : List (Key × V)} {A : Around} {E : Value → Shared → Prop}
theorem d_copyOf {Q : Value → Shared → Prop} (I : Inv X pins σ H s) (e : Rd H a (.dK kvs)) (h : ∀ p s', H p = none → Inv X pins σ (upd H p (.dK kvs)) s' → Q (.ref p) s') : wpAny (model X.prog X.w) A (call (.type "dict") [.ref a]) Q E s := by
  obtain ⟨z, hd, vs, rel, dd⟩ := dk_rd I.hok e
  refine kt_call_dict hd dd (by rw [← rel.length]; exact z) fun h' dd' hs => ?_
  refine h _ _ (I.hok.fresh (Nat.le_refl _)) (I.laid (a := s.heap.objs.size) (o := .dK kvs) (t' := s.toks) (fun b q hq => ?_) (Nat.le_refl _) (dk_new z (beq_eq_false_iff_ne.mpr (Ne.symm (Nat.ne_of_lt I.big))) rel dd'))
  exact (hs.2 b (Nat.ne_of_lt (Heap.lt_size hq))).trans (Heap.get?_push_of_some _ hq)
end


section
variable {X : Cx} {pins : List (Addr × Obj)} {σ : St} {H : Hp} {s : Shared} {a : Addr} {y : V} {u : Value} {A : Around} {E : Value → Shared → Prop}
/-- d[y], not there: a KeyError -/
theorem d_missing {Q : Value → Shared → Prop} (hu : A.units + 1 < cLine) (hh : A.handled = none) (I : Inv X pins σ H s) (g : DGet H a y none) (ry : RelV y u)
    (h : ∀ h' e t', Heap.NewExc s.heap h' e "KeyError" → E (.ref e) { s with heap := h', toks := t' }) : wpAny (model X.prog X.w) A (getItem (.ref a) u) Q E s := by
  rcases g with ⟨kvs, k, e, ey, l⟩ | ⟨kvs, k, b, e, ey, eb, l⟩
  · subst ey
    obtain ⟨z, hd, vs, rel, dd⟩ := dk_rd I.hok e
    have hn : valueAt vs k = none := RelO.none_of (by rw [l]; exact rel.val k)
    exact wpAny_getItem_missing_of (kV_is ry) hd hh dd.mapOf hn fun h' ex ne => h h' ex _ ne
  · subst ey
    cases (show u = Value.ref b from ry)
    obtain ⟨z, hd, xs, rel, dd⟩ := dt_rd I.hok e
    have hn : (atKey xs k).map (·.2) = none := RelO.none_of (by rw [l]; exact rel.val k)
    exact wpAny_getItem_missing_heap (tupleKind_room_in1 hu) (key_of I.hok eb) hd hh dd (Option.map_eq_none_iff.mp hn) fun h' ex ne => h h' ex _ ne
end
end L2

namespace Att
open PySem PySem.W PySem.Calls PyProof.Rows

/-! ### the script -/
theorem ints_of_wellAll {P : Params} {h : Heap} : ∀ (ns : List Int) (vs : List Value), WellAll P h vs (ns.map WData.int) → IntsAre vs ns := by
  intro ns
  induction ns with
  | nil =>
    intro vs w
    rw [List.map_nil] at w
    cases w
    exact .nil
  | cons n ns ih =>
    intro vs w
    rw [List.map_cons] at w
    cases w with
    | cons a b =>
      cases a
      exact .cons _ _ (ih _ b)

theorem script_of {l : OpenLaw} {n : Nat} (hn : l.most = some n) {P : Params} {h : Heap} {args : List WData} {vals : List Value}
    (hpre : l.row.toRowW.claim.pre args = true) (hwl : WellAll P h vals args) :
    ∃ a vs ns, vals = [Value.ref a] ∧ args = [WData.list (ns.map WData.int)] ∧ h.get? a = some { cls := .type "list", data := .seq vs.toArray } ∧ IntsAre vs ns ∧ ns.length ≤ n := by
  have hsh : WShape.hasAll [] args [.list .int] = true := (pre_splitW hpre).1
  have hc : l.pre.holds [] { args := args } = true := (pre_splitW hpre).2
  obtain ⟨d, r, rfl, h1, h2⟩ := hasAllW_cons hsh
  obtain rfl := hasAllW_nil h2
  obtain ⟨xs, rfl, h3⟩ := hasW_list h1
  obtain ⟨ns, rfl⟩ := items_int h3
  have hlen : ns.length ≤ n := by
    unfold OpenLaw.pre at hc
    have h4 : (WTm.not (.lt (.lit (.int (n : Int))) (.len (.arg 0)))).holds [] { args := [.list (ns.map .int)] } = true := by
      have h4 := (holds_andW hc).1
      rw [hn] at h4
      exact h4
    have h5 := condW_of h4 (w_not (w_lt w_lit (w_len_list (w_arg rfl))))
    rw [List.length_map] at h5
    refine Nat.le_of_not_lt fun q => ?_
    have q' : (n : Int) < ((ns.length : Nat) : Int) := by omega
    first
      | (rw [decide_eq_true q'] at h5; exact absurd h5 (by decide))
      | (simp at h5; omega)
  cases hwl with
  | cons w1 w2 =>
    cases w2
    cases w1 with
    | list ho hall => exact ⟨_, _, ns, rfl, rfl, ho, ints_of_wellAll ns _ hall, hlen⟩

theorem post_true (l : OpenLaw) (args : List WData) : l.row.toRowW.claim.post args (.bool true) args = true :=
  postW_of (r := l.row.toRowW) (X := (true == true))
    (show WShape.has [] (.bool true) .bool = true by first | rfl | decide | simp [WShape.has, WShape.arms, WShape.armsAll])
    (show (WTm.eq .res (.lit (.bool true))).value [] { args := args, res := some (.bool true), after := args } = some (.bool (true == true)) from w_eq_bool (w_res rfl) w_lit) rfl

/-! ### the attachment: holds_open's last premise (the goal 'hc' behind k_head) from a wpAny of the law's body -/
theorem attach {l : OpenLaw} {n : Nat} {q : Program} {loose : List Str} {XP : (Str → Option Value) → Heap → Prop} {YP : World → Heap → Prop} {d : DefRec} {x : Str}
    (hn : l.most = some n) (hdf : d.params.defaults = [])
    (hbind : ∀ pm cd doc v : Value, bindArgs (docDef d.name d.params d.body d.scope pm cd doc) ⟨[v], []⟩ = pure [(x, v)])
    (hx : d.scope.names.lookup x = some .local ∨ d.scope.names.lookup x = some .cell)
    (hk : d.scope.kind = .function) (hco : d.scope.isCoroutine = false) (hgen : d.scope.isGenerator = false)
    (body : ∀ (w : World) (s₀ s₁ s : Shared) (mg mb : Str → Option Value) (fa : Addr) (o : Obj) (pm cd doc : Value) (a : Addr) (vs : List Value) (ns : List Int),
      Ground q loose [] XP w s₀ mg mb s₁.heap → YP w s₁.heap →
      s₁.heap.get? fa = some o → o.data = .func (docDef d.name d.params d.body d.scope pm cd doc) → s₁.heap.CodeRec cd d.name → mg d.name = some (.ref fa) →
      s₁.heap.get? a = some { cls := .type "list", data := .seq vs.toArray } → IntsAre vs ns → ns.length ≤ n →
      s.gens = #[] → s.os = s₁.os →
      Fr s₁.heap s₁.heap.objs.size s.heap (bindL (envOfC d.name d.scope s₁.heap.objs.size fa cd).kindOf [(x, .ref a)] fun _ => none) →
      Cl s₁.heap.objs.size (cellsFrom (s₁.heap.objs.size + 1) d.scope.names []) s.heap (bindC (envOfC d.name d.scope s₁.heap.objs.size fa cd).kindOf [(x, .ref a)] fun _ => none) →
      wpAny (model l.prog w) (callerA.deeper (envOfC d.name d.scope s₁.heap.objs.size fa cd)) (execs d.body (envOfC d.name d.scope s₁.heap.objs.size fa cd))
        (fun f s' => f = .ret (.bool true) ∧ OldK s₁.heap s'.heap ∧ s'.os = s₁.os ∧ AllBare s'.gens) (fun _ _ => False) s) :
    WalkO q loose XP YP l.row.toRowW d [] (fun f vs => PySem.call f vs) := by
  intro w s₀ s₁ mg mb G Y fa o pm cd doc dV kV ho hd hcd hD hmg hg args vals as hpre hlay hrd hwl hlo
  obtain rfl : dV = .none := Dflts.none hD hdf
  obtain rfl : kV = .none := Dflts.noKw hD
  obtain ⟨a, vs, ns, rfl, rfl, hobj, hints, hlen⟩ := script_of hn hpre hwl
  refine enter_call ?_
  refine call_cells_ret (o := o) (by rw [depth_caller]; decide) ho (fd_plain hd) G.T.nolimit hcd (hbind pm cd doc (.ref a)) (fun y hy => ?_) (fun h₁ tk F X => ?_) hco hgen hk
  · obtain rfl : y = (x, Value.ref a) := List.mem_singleton.mp hy
    rcases hx with e | e
    · exact .inl e
    · exact .inr ⟨e, cellsFrom_some _ _ _ (.inl e)⟩
  · refine wpAny_mono (body w s₀ s₁ { s₁ with heap := h₁, toks := tk } mg mb fa o pm cd doc a vs ns G Y ho (fd_plain hd) hcd hmg hobj hints hlen hg rfl F X) (fun f s' hq => ?_) (fun _ _ hq => hq)
    obtain ⟨rfl, h2, h3, h4⟩ := hq
    exact ⟨.inl ⟨.bool true, .bool true, [], rfl, fun _ => rfl, .bool true, post_true l _, fun _ => ⟨List.Pairwise.nil, fun _ hm => (nomatch hm)⟩⟩, h2, h3, h4⟩

/-- the same from a codeAny of the CALL (for a layer whose function contracts speak of calls) -/
theorem attach_call {l : OpenLaw} {n : Nat} {q : Program} {loose : List Str} {XP : (Str → Option Value) → Heap → Prop} {YP : World → Heap → Prop} {d : DefRec}
    (hn : l.most = some n) (hdf : d.params.defaults = [])
    (call : ∀ (w : World) (s₀ s₁ : Shared) (mg mb : Str → Option Value) (fa : Addr) (o : Obj) (pm cd doc : Value) (a : Addr) (vs : List Value) (ns : List Int),
      Ground q loose [] XP w s₀ mg mb s₁.heap → YP w s₁.heap →
      s₁.heap.get? fa = some o → o.data = .func (docDef d.name d.params d.body d.scope pm cd doc) → s₁.heap.CodeRec cd d.name → mg d.name = some (.ref fa) →
      s₁.heap.get? a = some { cls := .type "list", data := .seq vs.toArray } → IntsAre vs ns → ns.length ≤ n → s₁.gens = #[] →
      codeAny (model l.prog w) callerA (.call (.ref fa) ⟨[.ref a], []⟩) (fun r s' => r = .ok (.ret (.bool true)) ∧ OldK s₁.heap s'.heap ∧ s'.os = s₁.os ∧ AllBare s'.gens) s₁) :
    WalkO q loose XP YP l.row.toRowW d [] (fun f vs => PySem.call f vs) := by
  intro w s₀ s₁ mg mb G Y fa o pm cd doc dV kV ho hd hcd hD hmg hg args vals as hpre hlay hrd hwl hlo
  obtain rfl : dV = .none := Dflts.none hD hdf
  obtain rfl : kV = .none := Dflts.noKw hD
  obtain ⟨a, vs, ns, rfl, rfl, hobj, hints, hlen⟩ := script_of hn hpre hwl
  refine enter_call (codeAny_mono (call w s₀ s₁ mg mb fa o pm cd doc a vs ns G Y ho (fd_plain hd) hcd hmg hobj hints hlen hg) fun r s' hq => ?_)
  obtain ⟨rfl, h2, h3, h4⟩ := hq
  exact ⟨.inl ⟨.bool true, .bool true, [], rfl, fun _ => rfl, .bool true, post_true l _, fun _ => ⟨List.Pairwise.nil, fun _ hm => (nomatch hm)⟩⟩, h2, h3, h4⟩

/-- the same where the top left finished generators (o_head chose holds_openN): nothing may have changed at all and no generator may be left -/
theorem attachN {l : OpenLaw} {n : Nat} {q : Program} {loose : List Str} {XP : (Str → Option Value) → Heap → Prop} {YP : World → Heap → Prop} {d : DefRec} {x : Str}
    (hn : l.most = some n) (hdf : d.params.defaults = [])
    (hbind : ∀ pm cd doc v : Value, bindArgs (docDef d.name d.params d.body d.scope pm cd doc) ⟨[v], []⟩ = pure [(x, v)])
    (hx : d.scope.names.lookup x = some .local ∨ d.scope.names.lookup x = some .cell)
    (hk : d.scope.kind = .function) (hco : d.scope.isCoroutine = false) (hgen : d.scope.isGenerator = false)
    (body : ∀ (w : World) (s₀ s₁ s : Shared) (mg mb : Str → Option Value) (fa : Addr) (o : Obj) (pm cd doc : Value) (a : Addr) (vs : List Value) (ns : List Int),
      Ground q loose [] XP w s₀ mg mb s₁.heap → YP w s₁.heap →
      s₁.heap.get? fa = some o → o.data = .func (docDef d.name d.params d.body d.scope pm cd doc) → s₁.heap.CodeRec cd d.name → mg d.name = some (.ref fa) →
      s₁.heap.get? a = some { cls := .type "list", data := .seq vs.toArray } → IntsAre vs ns → ns.length ≤ n →
      s.gens = #[] → s.os = s₁.os →
      Fr s₁.heap s₁.heap.objs.size s.heap (bindL (envOfC d.name d.scope s₁.heap.objs.size fa cd).kindOf [(x, .ref a)] fun _ => none) →
      Cl s₁.heap.objs.size (cellsFrom (s₁.heap.objs.size + 1) d.scope.names []) s.heap (bindC (envOfC d.name d.scope s₁.heap.objs.size fa cd).kindOf [(x, .ref a)] fun _ => none) →
      wpAny (model l.prog w) (callerA.deeper (envOfC d.name d.scope s₁.heap.objs.size fa cd)) (execs d.body (envOfC d.name d.scope s₁.heap.objs.size fa cd))
        (fun f s' => f = .ret (.bool true) ∧ (∀ b o, s₁.heap.get? b = some o → s'.heap.get? b = some o) ∧ s'.os = s₁.os ∧ s'.gens = #[]) (fun _ _ => False) s) :
    WalkN q loose XP YP l.row.toRowW d [] (fun f vs => PySem.call f vs) := by
  intro w s₀ s₁ mg mb G Y fa o pm cd doc dV kV ho hd hcd hD hmg hg args vals as hpre hlay hrd hwl hlo
  obtain rfl : dV = .none := Dflts.none hD hdf
  obtain rfl : kV = .none := Dflts.noKw hD
  obtain ⟨a, vs, ns, rfl, rfl, hobj, hints, hlen⟩ := script_of hn hpre hwl
  refine enter_callW ?_
  refine call_cells_ret (o := o) (by rw [depth_caller]; decide) ho (fd_plain hd) G.T.nolimit hcd (hbind pm cd doc (.ref a)) (fun y hy => ?_) (fun h₁ tk F X => ?_) hco hgen hk
  · obtain rfl : y = (x, Value.ref a) := List.mem_singleton.mp hy
    rcases hx with e | e
    · exact .inl e
    · exact .inr ⟨e, cellsFrom_some _ _ _ (.inl e)⟩
  · refine wpAny_mono (body w s₀ s₁ { s₁ with heap := h₁, toks := tk } mg mb fa o pm cd doc a vs ns G Y ho (fd_plain hd) hcd hmg hobj hints hlen hg rfl F X) (fun f s' hq => ?_) (fun _ _ hq => hq)
    obtain ⟨rfl, h2, h3, h4⟩ := hq
    exact ⟨.inl ⟨.bool true, .bool true, [], rfl, fun _ => rfl, .bool true, post_true l _, fun _ => ⟨List.Pairwise.nil, fun _ hm => (nomatch hm)⟩⟩, h2, h3, h4⟩

/-! ### rules over ANY heap (no ledger) from facts about the written part K: the library's own take a ledger (News) for what they write -/
section
variable {prog : Program} {w : World} {A : Around} {E : Value → Shared → Prop} {s : Shared} {K : Frag}

/-- a def of the module, or a method (qual 'C.m'), entered: the frame is the next address; cells behind it -/
theorem call_fn {R : Result → Shared → Prop} {name qual : Str} {params : Arguments} {body : List Stmt} {scope : Scope} {dV kV doc pm cdv ct oc : Value} {an od : Option Addr} {osl : Array (Option Value)} {f : Addr} {args : Args} {binds : List (Str × Value)}
    (X : K.In s.heap) (hlim : s.heap.NoLimit) (ho : K.lookup f = some ⟨oc, od, .func (fnOf name qual params body scope dV kV doc pm an cdv ct), osl⟩) (hcd : codeIn K cdv qual = true) (hroom : A.depth < recursionLimit)
    (hbind : BindsTo s (fnOf name qual params body scope dV kV doc pm an cdv ct) args binds)
    (hkind : (binds.all fun y => scope.names.lookup y.1 == some .local || scope.names.lookup y.1 == some .cell) = true)
    (h : ∀ s₁, InCallC s s.heap.objs.size (bindL (envOfC qual scope s.heap.objs.size f cdv).kindOf binds fun _ => none) (cellsFrom (s.heap.objs.size + 1) scope.names [])
        (bindC (envOfC qual scope s.heap.objs.size f cdv).kindOf binds fun _ => none) s₁ →
      wpAny (model prog w) (A.deeper (envOfC qual scope s.heap.objs.size f cdv)) (execs body (envOfC qual scope s.heap.objs.size f cdv))
        (fun fl s' => R (.ok (.ret (match fl with | .ret v => v | _ => .none))) s')
        (fun e s' => wpAny (model prog w) (A.deeper (envOfC qual scope s.heap.objs.size f cdv)) (leaving (envOfC qual scope s.heap.objs.size f cdv) e) (fun _ s'' => R (.error e) s'') (fun e' s'' => R (.error e') s'') s') s₁)
    (hco : scope.isCoroutine = false) (hgen : scope.isGenerator = false) (hk : scope.kind = .function) : codeAny (model prog w) A (.call (.ref f) args) R s := by
  refine codeAny_call_function hroom (X _ _ ho) rfl hco hgen rfl (codeRec_of X hcd) (hbind _ _ _ _ ?_)
  refine wpAny_newFunctionEnv_cells hk (kindsX hkind _) fun env he s₁ x => ?_
  subst he
  exact ⟨hlim.keeps x.toInCall.keep, codeAny_func (h s₁ x)⟩

/-- C(..): dict at size, instance at size + 1, then __init__ -/
theorem make_obj {R : Result → Shared → Prop} {C fI : Addr} {rest : List Value} {kw : List (Str × Value)}
    (X : K.In s.heap) (hm : makesIn K C = true) (hi : findIn K (.ref C) "__init__" = some (some (.ref fI))) (hf : isFn K (.ref fI) = true)
    (h : codeAny (model prog w) (A.under (.builtin "type.__call__" ⟨.ref C :: rest, kw⟩)) (.call (.ref fI) ⟨.ref (s.heap.objs.size + 1) :: rest, kw⟩) (InitBack (s.heap.objs.size + 1) R)
      { s with heap := (s.heap.push emptyDict).push (instObj C s.heap.objs.size) }) : codeAny (model prog w) A (.call (.ref C) ⟨rest, kw⟩) R s := by
  obtain ⟨hh, g, d, t, os⟩ := s
  exact make_core (makes_of X hm) (looks_findIn X hi) (fun self => bind_fn X self (beq_iff_eq.mp hf)) (.inl rfl) h

/-- x.name where the instance's dict holds the name and the class does not -/
theorem get_field {x C : Addr} {ox : Obj} {es : List DictEntry} {n : Nat} {name : Str} {expr : Bool} {v : Value} {Q : Value → Shared → Prop}
    (X : K.In s.heap) (I : PySem.W.InstAt s.heap x ox C (some (dictOf es n))) (hg : plainGet K C name = true) (hh : hasDictIn K C = true) (ha : findIn K (.ref C) name = some none)
    (hl : getL name es = some (some v)) (hv : handedIn v = true) (h : Q v { s with toks := s.toks + 1 }) : wpAny (model prog w) A (getAttr (.ref x) name expr) Q E s :=
  get_value X I (plainGet_of hg).1 (findObj_own hh ha rfl hl) hv h

/-- x.m(..): the method found in the class -/
theorem get_method {x C f : Addr} {ox : Obj} {es : List DictEntry} {n : Nat} {name : Str} {pl : Sem Bool} {Q : Value × List Value → Shared → Prop}
    (X : K.In s.heap) (I : PySem.W.InstAt s.heap x ox C (some (dictOf es n))) (hg : plainGet K C name = true) (hf : findIn K (.ref C) name = some (some (.ref f))) (ht : isFn K (.ref f) = true)
    (hl : getL name es = some none) (h : Q (.ref f, [.ref x]) s) : wpAny (model prog w) A (getMethod (.ref x) name pl) Q E s :=
  method_fn X I (plainGet_of hg).1 (plainGet_of hg).2 hf (beq_iff_eq.mp ht) (by show (lookIn name (dictOf es n)).map _ = _; rw [lookIn_dict, hl]; rfl) h

/-! the whole heap as the ledger: makes every rule that writes through a ledger a rule over any heap -/
def noObjs (h : Heap) : Heap := { h with objs := #[] }
theorem noObjs_get (h : Heap) (b : Addr) : (noObjs h).get? b = none := by
  cases e : (noObjs h).get? b with
  | none => rfl
  | some o => exact absurd (Heap.lt_size e) (Nat.not_lt_zero _)
def ledger (h : Heap) (L d : Addr) : List (Addr × Obj) := (List.range h.objs.size).filterMap fun a => if a = L ∨ a = d then none else (h.get? a).map fun o => (a, o)
theorem mem_ledger {h : Heap} {L d a : Addr} {o : Obj} : (a, o) ∈ ledger h L d ↔ a ≠ L ∧ a ≠ d ∧ h.get? a = some o := by
  unfold ledger
  rw [List.mem_filterMap]
  constructor
  · rintro ⟨b, _, e⟩
    split at e
    · cases e
    · rename_i hb
      obtain ⟨o', ho, e'⟩ := Option.map_eq_some_iff.mp e
      cases e'
      exact ⟨fun q => hb (.inl q), fun q => hb (.inr q), ho⟩
  · rintro ⟨n1, n2, ho⟩
    refine ⟨a, List.mem_range.mpr (Heap.lt_size ho), ?_⟩
    rw [if_neg (show ¬ (a = L ∨ a = d) from fun q => q.elim n1 n2), ho] <;> rfl
theorem news_ledger {h : Heap} {L d : Addr} {od : Obj} (hne : d ≠ L) (ho : h.get? d = some od) : News (noObjs h) L h ([] ++ (d, od) :: ledger h L d) := by
  rintro ⟨a, o⟩ hp
  rcases List.mem_cons.mp hp with e | hp
  · cases e
    exact ⟨ho, hne, noObjs_get _ _⟩
  · obtain ⟨n1, n2, e⟩ := mem_ledger.mp hp
    exact ⟨e, n1, noObjs_get _ _⟩
theorem fr_all {h : Heap} {L : Addr} {m : Str → Option Value} (n : h.Ns L m) : Fr (noObjs h) L h m :=
  ⟨n, fun b o e => (by rw [noObjs_get] at e; cases e), Nat.zero_le _⟩
/-- Upd of the head entry (for append_K, setItem_K ..) -/
theorem upd_ledger {h : Heap} {L d : Addr} {o o' : Obj} : Upd d o o' ((d, o) :: ledger h L d) ((d, o') :: ledger h L d) :=
  .head fun ⟨_, _⟩ hp => (mem_ledger.mp hp).2.1

/-- x.name = v over any heap: L is any namespace of the heap (the frame's, say): its map stays, its object is not told; all else but the dict stays -/
theorem set_field {x C dx L : Addr} {ox : Obj} {m : Str → Option Value} {es es' : List DictEntry} {n n' : Nat} {name : Str} {v : Value} {Q : Unit → Shared → Prop}
    (X : K.In s.heap) (I : PySem.W.InstAt s.heap x ox C (some (dictOf es n))) (hd : ox.dict = some dx) (hL : s.heap.Ns L m) (hne : dx ≠ L)
    (hs : findIn K (.ref C) "__setattr__" = some (some (.builtin "object.__setattr__"))) (hp : plainOver K C = true) (ht : takerIn K C name = some none) (hh : hasDictIn K C = true) (hl : (getL name es).isSome = true)
    (e : (putL name (PyData.keyHash w.params name) (.str name (s.toks + 1)) v es, putN name es n) = (es', n')) (hz : es'.length ≤ 1000)
    (h : ∀ h' : Heap, h'.Ns L m → h'.get? dx = some (dictOf es' n') → (∀ b o, b ≠ dx → b ≠ L → s.heap.get? b = some o → h'.get? b = some o) → Q () { s with heap := h', toks := s.toks + 2 }) :
    wpAny (model prog w) A (setAttr (.ref x) name v) Q E s := by
  obtain ⟨e1, e2⟩ := Prod.mk.inj e
  have hdx : s.heap.get? dx = some (dictOf es n) := by
    have := I.dict
    rw [hd] at this
    exact this
  refine set_plain X I hs (osa_dict (s := { s with toks := s.toks + 1 }) (h₀ := noObjs s.heap) (L := L) (m := m) (od := dictOf es n) (od' := dictOf es' n') (es := es') (n := n') (pre := []) (post := ledger s.heap L dx)
    (fr_all hL) (news_ledger hne hdx) X I hd hp ht hh hl (fun _ q => nomatch q) (fun ⟨_, _⟩ q => (mem_ledger.mp q).2.1) (by rw [putName_dict, e1, e2]) rfl hz fun h' F' N' => ?_)
  exact h h' F'.ns (N'.get (List.Mem.head _)) fun b o n1 n2 ho => N'.get (List.Mem.tail _ (mem_ledger.mpr ⟨n2, n1, ho⟩))
end
end Att

namespace L2
open PySem PySem.Spec PyProof.Rows

theorem vals_ints : ∀ {vs : List Value} {ns : List Int}, IntsAre vs ns → Vals (ns.map V.int) vs
  | _, _, .nil => .nil
  | _, _, .cons n t h => .cons ⟨t, rfl⟩ (vals_ints h)

/-- nothing is tracked but the script, known to the object (or it is an object of the module) -/
def Only (H : Hp) : Prop := ∀ b, H b = none ∨ ∃ o xs, H b = some (.frz o (.lst xs))

/-- THE HEAD: the law's promise, at the heap behind the top. F, the promise of the law's def, may use that base is part of the heap (so K.In base, base.Ns mainGlobals mg stand in Mod) -/
theorem law_call {P : Program} {w : World} {K : PySem.W.Frag} {mg mb : Str → Option Value} {CX : CXT} {k : Nat} {fa a : Addr} {fd : FuncData} {x : Str} {sp : Sp} {s₁ : Shared} {vs : List Value} {ns : List Int}
    (KX : K.In s₁.heap) (hns : s₁.heap.Ns mainGlobals mg) (hb : s₁.heap.Ns builtinsNs mb) (hbb : ∀ x : Str, x ≠ "__name__" → mb x = bootBuiltins x) (hlim : s₁.heap.NoLimit) (hg : s₁.gens = #[])
    (ha : s₁.heap.get? a = some { cls := .type "list", data := .seq vs.toArray }) (hi : IntsAre vs ns) (hl : ns.length ≤ sizeLine) (hr : Room k callerA)
    (F : ∀ base : Heap, K.In base → base.Ns mainGlobals mg → FnOk P w K mg base CX k fa fd [x] sp) (hbind : ∀ (s : Shared) (u : Value), BindsTo s fd ⟨[u], []⟩ [(x, u)])
    (hsp : ∀ H : Hp, Only H → SqL K H a (ns.map V.int) → sp [.ref a] H (fun v _ => v = .bl true) fun _ _ _ => False)
    (hCX : ∀ H e s', CX [] H s₁ (fun _ _ _ => False) e s' → False) :
    codeAny (model P w) callerA (.call (.ref fa) ⟨[.ref a], []⟩) (fun r s' => r = .ok (.ret (.bool true)) ∧ OldK s₁.heap s'.heap ∧ s'.os = s₁.os ∧ AllBare s'.gens) s₁ := by
  have rv := vals_ints hi
  have lenV := hi.length
  -- from an abstract heap in which nothing but the script may be tracked
  have core : ∀ H : Hp, Only H → SqL K H a (ns.map V.int) → HOk P w H s₁.heap → (∀ b, H b ≠ none → b = a) → (H a ≠ none → K.lookup a = none) →
      codeAny (model P w) callerA (.call (.ref fa) ⟨[.ref a], []⟩) (fun r s' => r = .ok (.ret (.bool true)) ∧ OldK s₁.heap s'.heap ∧ s'.os = s₁.os ∧ AllBare s'.gens) s₁ := by
    intro H hO hS hok hA hK
    have base_of : ∀ {b : Addr} {o : Obj}, s₁.heap.get? b = some o → H b = none → (hidT s₁.heap H).get? b = some o := fun e n => hidT_get e n
    have noA : ∀ {b : Addr} {o : Obj} {es : Array DictEntry} {ep : Nat}, s₁.heap.get? b = some o → o.data = .dict es ep → H b = none := fun {b o es ep} e d => by
      cases q : H b with
      | none => rfl
      | some u =>
        have e' : b = a := hA b (by rw [q]; simp)
        subst e'
        rw [ha] at e; cases e
        have d' : Data.seq vs.toArray _ = Data.dict es ep := d
        cases d'
    have nsK : ∀ {b : Addr} {m : Str → Option Value}, s₁.heap.Ns b m → (hidT s₁.heap H).Ns b m := fun {b m} ⟨o, es, ep, e, d, r⟩ => ⟨o, es, ep, base_of e (noA e d), d, r⟩
    have hKb : K.In (hidT s₁.heap H) := fun b o e => base_of (KX b o e) (by
      cases q : H b with
      | none => rfl
      | some u =>
        have e' : b = a := hA b (by rw [q]; simp)
        subst e'
        rw [hK (by rw [q]; simp)] at e; cases e)
    have hM : Mod K mg (hidT s₁.heap H) := ⟨hKb, nsK hns, ⟨mb, nsK hb, hbb⟩, let ⟨mc, h1, h2⟩ := hlim; ⟨mc, nsK h1, h2⟩⟩
    have e0 : Env0 P w K mg (hidT s₁.heap H) callerA [] s₁ H := ⟨rfl, hM, fun b o e => of_hidT e, Nat.le_of_eq (hidT_size _ _), trivial, fun b hb => absurd (show b ∈ ([] : List Addr) from hb) (by simp), hok, .of_eq hg⟩
    refine codeAny_mono ((F _ hKb (nsK hns)).run callerA [] s₁ H ⟨[.ref a], []⟩ [.ref a] [.ref a] _ _ hr e0 (hbind s₁ (.ref a)) (.cons rfl .nil) (hsp H hO hS)) fun r s' h => ?_
    cases r with
    | error e => exact (hCX H e s' h).elim
    | ok fl =>
      cases fl with
      | next => exact False.elim h
      | brk => exact False.elim h
      | cont => exact False.elim h
      | ret u =>
        obtain ⟨v, H', os, bare, un, hok', r', q⟩ := h
        have q' : v = .bl true := q
        subst q'
        obtain rfl : u = Value.bool true := r'
        refine ⟨rfl, OldK.of_keep fun b o e => ?_, os, bare⟩
        cases q : H b with
        | none => exact un.keep b o e q (by intro z; exact absurd (show b ∈ ([] : List Addr) from z) (by simp)) (by simp)
        | some u =>
          rcases hO b with z | ⟨ob, xs, z⟩
          · rw [q] at z; cases z
          · have z2 := un.frzs b ob _ z
            obtain ⟨e1, _⟩ := hok b _ z
            obtain ⟨e2, _⟩ := hok' b _ z2
            rw [e] at e1; cases e1
            exact e2
  cases hk : K.lookup a with
  | some o =>
    -- the script is one of the module's own objects
    have e := KX a o hk
    rw [ha] at e
    cases e
    refine core (fun _ => none) (fun _ => .inl rfl) (.inr ⟨_, vs.toArray, _, hk, rfl, rfl, rfl, by rw [List.size_toArray, lenV]; exact hl, by simpa using rv⟩) (fun b u z => by have z' : (none : Option HO) = some u := z; cases z') (fun b z => absurd rfl z) fun z => absurd rfl z
  | none =>
    refine core (fun b => if b = a then some (.frz { cls := .type "list", data := .seq vs.toArray } (.lst (ns.map V.int))) else none) (fun b => ?_) (.inl (.inr ⟨{ cls := .type "list", data := .seq vs.toArray }, if_pos rfl⟩)) (fun b u z => ?_) (fun b z => ?_) fun _ => hk
    · by_cases hb : b = a
      · exact .inr ⟨_, _, if_pos hb⟩
      · exact .inl (if_neg hb)
    · by_cases hb : b = a
      · have z' := (if_pos hb).symm.trans z
        cases z'
        subst hb
        exact ⟨ha, by rw [List.length_map]; exact hl, vs, _, rv, ha⟩
      · have z' := (if_neg hb).symm.trans z
        cases z'
    · by_cases hb : b = a
      · exact hb
      · exact absurd (if_neg hb) z
end L2

namespace L2
open PySem PySem.Spec PyProof.Rows

abbrev KOf {K : PySem.W.Frag} {h : Heap} (_ : K.In h) : PySem.W.Frag := K

/-- the goal that k_head leaves (case hc), from the law's promise. F gives the function object fd (K's own) once, then the promise over every base -/
theorem walk_of {l : PySem.W.OpenLaw} {n k : Nat} {q : Program} {loose : List Str} {XP : (Str → Option Value) → Heap → Prop} {YP : World → Heap → Prop} {d : DefRec} {K : Params → PySem.W.Frag} {CX : World → CXT} {sp : World → Sp} {x : Str}
    (hn : l.most = some n) (hn2 : n ≤ sizeLine) (hdf : d.params.defaults = []) (hr : Room k callerA)
    (hY : ∀ (w : World) (h : Heap), YP w h → (K w.params).In h)
    (F : ∀ (w : World) (mg : Str → Option Value) (fa : Addr) (h : Heap), (K w.params).In h → h.Ns mainGlobals mg → mg d.name = some (.ref fa) →
      ∃ fd : FuncData, (∀ (s : Shared) (u : Value), BindsTo s fd ⟨[u], []⟩ [(x, u)]) ∧
        ∀ base : Heap, (K w.params).In base → base.Ns mainGlobals mg → FnOk l.prog w (K w.params) mg base (CX w) k fa fd [x] (sp w))
    (hsp : ∀ (w : World) (H : Hp) (a : Addr) (ns : List Int), ns.length ≤ n → Only H → SqL (K w.params) H a (ns.map V.int) → sp w [.ref a] H (fun v _ => v = .bl true) fun _ _ _ => False)
    (hCX : ∀ (w : World) (H : Hp) (s : Shared) (e : Value) (s' : Shared), CX w [] H s (fun _ _ _ => False) e s' → False) :
    PySem.W.WalkO q loose XP YP l.row.toRowW d [] (fun f vs => PySem.call f vs) := by
  refine Att.attach_call hn hdf fun w s₀ s₁ mg mb fa o pm cd doc a vs ns G Y ho hd hcd hmg hobj hints hlen hg => ?_
  have KX := hY w _ Y
  obtain ⟨fd, hb, hF⟩ := F w mg fa _ KX G.T.g hmg
  exact law_call KX G.T.g G.T.b G.T.builtins G.T.nolimit hg hobj hints (Nat.le_trans hlen hn2) hr hF hb (fun H hO hS => hsp w H a ns hlen hO hS) fun H e s' => hCX w H s₁ e s'
/-- the same where the promise hangs on the written part alone: (sp := My.sp_law), no hole under a binder -/
theorem walk_ofK {l : PySem.W.OpenLaw} {n k : Nat} {q : Program} {loose : List Str} {XP : (Str → Option Value) → Heap → Prop} {YP : World → Heap → Prop} {d : DefRec} {K : Params → PySem.W.Frag} {CX : CXT} {sp : PySem.W.Frag → Sp} {x : Str}
    (hn : l.most = some n) (hn2 : n ≤ sizeLine) (hdf : d.params.defaults = []) (hr : Room k callerA)
    (hY : ∀ (w : World) (h : Heap), YP w h → (K w.params).In h)
    (F : ∀ (w : World) (mg : Str → Option Value) (fa : Addr) (h : Heap), (K w.params).In h → h.Ns mainGlobals mg → mg d.name = some (.ref fa) →
      ∃ fd : FuncData, (∀ (s : Shared) (u : Value), BindsTo s fd ⟨[u], []⟩ [(x, u)]) ∧
        ∀ base : Heap, (K w.params).In base → base.Ns mainGlobals mg → FnOk l.prog w (K w.params) mg base CX k fa fd [x] (sp (K w.params)))
    (hsp : ∀ (K : PySem.W.Frag) (H : Hp) (a : Addr) (ns : List Int), ns.length ≤ n → Only H → SqL K H a (ns.map V.int) → sp K [.ref a] H (fun v _ => v = .bl true) fun _ _ _ => False)
    (hCX : ∀ (H : Hp) (s : Shared) (e : Value) (s' : Shared), CX [] H s (fun _ _ _ => False) e s' → False) :
    PySem.W.WalkO q loose XP YP l.row.toRowW d [] (fun f vs => PySem.call f vs) :=
  walk_of (K := K) (CX := fun _ => CX) (sp := fun w => sp (K w.params)) hn hn2 hdf hr hY F (fun w H a ns h1 h2 h3 => hsp (K w.params) H a ns h1 h2 h3) fun _ H s e s' => hCX H s e s'
end L2

/- THE LAST THEOREM (shape; LID, My.* are yours):
   My.Adr: a structure of the addresses that your layer names (classes, functions); My.Txt K t: a structure (Prop) of the equations over K;
   My.txt_mk : {K} {implicit addresses ..} (e1 : nsIn K mainGlobals "law" = some (some (.ref f))) (e2 : K.lookup f = some ⟨oc, od, .func (fnOf "law" "law" params body scope dV kV doc pm an cdv ct), sl⟩) (e3 : codeIn K cdv "law" = true) .. : ∃ t, My.Txt K t

set_option maxRecDepth 100000 in
set_option maxHeartbeats 0 in
theorem PySem.Challenge.cw_LID_holds : PySem.Challenge.rw_LID.Holds := by
  w_on; o_law; k_head; (case hw => w_witness2)
  k_fill
  refine L2.walk_of (l := PySem.Challenge.rw_LID) (n := 63) (k := 40) (x := "script") (CX := fun w => ..) (sp := fun _ => My.sp_law) rfl (by decide) rfl ⟨rfl, by decide, by decide⟩ (fun w h Y => PySem.W.kIn_of Y) ?F ?S ?C
  case F =>
    intro w mg fa h KX G hmg
    have T : ∃ t, My.Txt (L2.KOf KX) t := by
      dsimp only [L2.KOf]                          -- K must stand as «<heap const> w.params» for k_is
      refine' My.txt_mk ?e1 ?e2 ?e3 ..
      (case e1 => PySem.W.k_is)                    -- in the order: a name -> its address -> its object -> its parts
      (case e2 => PySem.W.k_is)
      ..
    obtain ⟨t, T⟩ := T
    have e0 := hmg.symm.trans (PySem.W.mg_of KX G T.law)
    cases e0                                       -- fa is the law's own address
    exact ⟨_, fun s u => .of_eq rfl, fun base kb nb => My.law_fn T kb nb⟩     -- if «.of_eq rfl» comes too early: refine' ⟨_, ?b, fun base kb nb => My.law_fn T kb nb⟩; exact fun s u => .of_eq rfl
  case S => exact fun w H a ns hl hO hS => ..
  case C => exact ..
(the tactic k_is has no namespace: write k_is) -/

/-! SHORT WORDS over the layer: a def of the text, its body, what a loop and a test want. -/
namespace L2
open PySem PySem.Spec PyProof.Rows

/-! ### the text by places -/
/-- the j-th statement of a class's body -/
def inClass (s : Stmt) (j : Nat) : Stmt := match s with
  | .ClassDef _ _ _ body _ _ _ _ _ _ _ => body.getD j (.Pass ⟨0, 0, 0, 0⟩)
  | _ => .Pass ⟨0, 0, 0, 0⟩
def defArgs (s : Stmt) : Arguments := match s with
  | .FunctionDef _ a _ _ _ _ _ _ _ _ => a
  | _ => { posonlyargs := [], args := [], vararg := none, kwonlyargs := [], kw_defaults := [], kwarg := none, defaults := [] }
def defBody (s : Stmt) : List Stmt := match s with
  | .FunctionDef _ _ b _ _ _ _ _ _ _ => b
  | _ => []
def defScope (s : Stmt) : Scope := match s with
  | .FunctionDef _ _ _ _ _ _ sc _ _ _ => sc
  | _ => { kind := .function, names := [], isGenerator := false, isCoroutine := false }

/-! ### no exception leaves a def -/
abbrev CX0 : CXT := fun _ _ _ _ _ _ => False
abbrev E0 : XK := fun _ _ _ => False
theorem pass0 {X : Cx} : Passes CX0 X E0 := fun _ _ _ _ _ _ _ h => h.elim

/-! ### a def (or method) of the text as it stands behind the top -/
structure Fun (K : PySem.W.Frag) (x qual : Str) (st : Stmt) (f : Addr) (fd : FuncData) : Prop where
  ex : ∃ (oc : Value) (od : Option Addr) (kV doc pm : Value) (an : Option Addr) (cdv ct : Value) (osl : Array (Option Value)),
    fd = PySem.W.fnOf x qual (defArgs st) (defBody st) (defScope st) .none kV doc pm an cdv ct ∧ K.lookup f = some ⟨oc, od, .func fd, osl⟩ ∧ PySem.W.codeIn K cdv qual = true
  kp : PySem.W.keepIn K (.ref f) = true
section
variable {P : Program} {w : World} {K : PySem.W.Frag} {mg : Str → Option Value} {base : Heap}
/-- THE RULE for a def: its body as a term of rules, and the reading of that term -/
theorem Fun.ok {x qual : Str} {st : Stmt} {f : Addr} {fd : FuncData} {N ps : List Str} {k : Nat} {sp : Sp} (F : Fun K x qual st f fd) (S : FnScope N ps (defScope st)) (len : ∀ vs H Q E, sp vs H Q E → vs.length = ps.length)
    (hbody : ∀ (cdv : Value) (A : Around) (outer : List Env) (s : Shared) (H : Hp) (vs : List V) (Q : VK) (E : XK), Room k (A.deeper (envOfC qual (defScope st) s.heap.objs.size f cdv)) → sp vs H Q E →
      ∃ t, PSs (cxOf CX0 P w K mg base N qual (defScope st) f cdv A outer s H E).nox (defBody st) t ∧ t { nx := fun _ H' => Q .non H', rt := Q } (start N vs) H) : FnOk P w K mg base CX0 (k + 1) f fd ps sp := by
  obtain ⟨oc, od, kV, doc, pm, an, cdv, ct, osl, rfl, lk, hcd⟩ := F.ex
  refine fn_of lk hcd S len fun A outer s H vs Q E hr hsp => ?_
  obtain ⟨t, h, q⟩ := hbody cdv A outer s H vs Q E hr hsp
  exact ⟨t, h.nox, q⟩
/-- how its arguments bind (no defaults): h is «fun _ _ _ _ _ _ us hl => match us, hl with | [_, _], _ => rfl», one _ a parameter -/
theorem Fun.binds {x qual : Str} {st : Stmt} {f : Addr} {fd : FuncData} {ps : List Str} (F : Fun K x qual st f fd)
    (h : ∀ (kV doc pm : Value) (an : Option Addr) (cdv ct : Value) (us : List Value), us.length = ps.length → bindArgs (PySem.W.fnOf x qual (defArgs st) (defBody st) (defScope st) .none kV doc pm an cdv ct) ⟨us, []⟩ = pure (ps.zip us)) : Binds K fd ps [] := by
  obtain ⟨oc, od, kV, doc, pm, an, cdv, ct, osl, rfl, lk, hcd⟩ := F.ex
  exact .all (h kV doc pm an cdv ct)
theorem fun_mk {x qual : Str} {st : Stmt} {f : Addr} {oc : Value} {od an : Option Addr} {osl : Array (Option Value)} {kV doc pm cdv ct : Value} (l : K.lookup f = some ⟨oc, od, .func (PySem.W.fnOf x qual (defArgs st) (defBody st) (defScope st) .none kV doc pm an cdv ct), osl⟩)
    (c : PySem.W.codeIn K cdv qual = true) (k : PySem.W.keepIn K (.ref f) = true) : Fun K x qual st f (PySem.W.fnOf x qual (defArgs st) (defBody st) (defScope st) .none kV doc pm an cdv ct) := ⟨⟨oc, od, kV, doc, pm, an, cdv, ct, osl, rfl, l, c⟩, k⟩
end
theorem hu_of {A : Around} {k : Nat} (hr : Room k A) : A.units + 1 < cLine := Nat.lt_of_le_of_lt (Nat.add_le_add_left (by decide : 1 ≤ 64) _) hr.units
theorem small1000 {n : Nat} (h : n ≤ 1000) : n < sizeLine := Nat.lt_of_le_of_lt h (by decide)

/-! ### expressions in short: the name that stands in the i-th slot -/
section
variable {X : Cx}
theorem pv (i : Nat) {x : Str} {pos : Pos} (hN : X.N[i]? = some x := by rfl) (hv : Vis X.env.scope x := by first | exact Or.inl rfl | exact Or.inr (Or.inl rfl) | exact Or.inr (Or.inr rfl)) (hd : (x == ("__debug__" : Str)) = false := by decide)
    (hcd : (x == ("__classdict__" : Str)) = false := by decide) : PE X (.Name x pos) (tVar i) := pe_var hN hv hd hcd
end

/-! ### tests -/
theorem iteF {A B : Prop} (h : B) : if false = true then A else B := by
  rw [if_neg Bool.false_ne_true]
  exact h
theorem iteT {A B : Prop} (h : A) : if true = true then A else B := by
  rw [if_pos rfl]
  exact h
theorem ite2 {c A B : Prop} [Decidable c] (h1 : c → A) (h2 : ¬ c → B) : if c then A else B := by
  by_cases h : c
  · rw [if_pos h]
    exact h1 h
  · rw [if_neg h]
    exact h2 h
theorem iteNS {c A B : Prop} [Decidable c] (hc : c) (h : B) : if (!decide c) = true then A else B := by
  rw [decide_eq_true hc]
  exact iteF h

/-! ### heaps -/
/-- all that was tracked is as it was -/
def Same (H H' : Hp) : Prop := ∀ b o, H b = some o → H' b = some o
theorem Same.refl (H : Hp) : Same H H := fun _ _ h => h
theorem Same.trans {H H1 H2 : Hp} (a : Same H H1) (b : Same H1 H2) : Same H H2 := fun c o h => b c o (a c o h)
theorem Same.free {H H' : Hp} (e : Same H H') {l : Addr} (h : H' l = Option.none) : H l = Option.none := by
  cases q : H l with
  | none => rfl
  | some o =>
    rw [e l o q] at h
    cases h
theorem Same.seq {K : PySem.W.Frag} {H H' : Hp} {a : Addr} {xs : List V} (e : Same H H') (h : SqL K H a xs) : SqL K H' a xs := by
  rcases h with (h | ⟨o, h⟩) | h
  · exact .inl (.inl (e _ _ h))
  · exact .inl (.inr ⟨o, e _ _ h⟩)
  · exact .inr h

end L2

namespace L2
open PySem PySem.Spec PyProof.Rows
section
variable {X : Cx}
/-- len of a dict -/
theorem call_lenD : CallR X (.builtin "len") (fun xs H Q => ∃ a kvs, xs = [V.ref a] ∧ H a = some (.dK kvs) ∧ Q (.int kvs.length) H) := by
  intro pins s σ H xs us Q I r h
  obtain ⟨a, kvs, rfl, ha, q⟩ := h
  obtain ⟨u, rfl, ru⟩ := vals1 r
  cases ru
  exact d_len I (.inl ha) fun t s' I' => ⟨.int kvs.length, H, I', ⟨t, rfl⟩, q⟩
end
end L2
namespace L2
open PySem PySem.Spec PyProof.Rows
/-! ### a dict's pairs: keys that differ -/
section
variable {κ : Type} [DecidableEq κ]
theorem valV_not {kvs : List (κ × V)} {k : κ} (h : valV kvs k = none) : ¬ k ∈ kvs.map (·.1) := by
  intro m
  obtain ⟨p, hp, e⟩ := List.mem_map.mp m
  have q : (kvs.any fun kv => decide (kv.1 = k)) = true := List.any_eq_true.mpr ⟨p, hp, decide_eq_true e⟩
  rw [valV_any, h] at q
  exact absurd q (by simp)
theorem valV_in {kvs : List (κ × V)} {k : κ} {v : V} (h : valV kvs k = some v) : k ∈ kvs.map (·.1) := by
  have q : (kvs.any fun kv => decide (kv.1 = k)) = true := by
    rw [valV_any, h]
    all_goals rfl
  obtain ⟨p, hp, e⟩ := List.any_eq_true.mp q
  exact List.mem_map.mpr ⟨p, hp, of_decide_eq_true e⟩
theorem nd_snoc : ∀ {l : List κ} {k : κ}, l.Nodup → ¬ k ∈ l → (l ++ [k]).Nodup
  | [], k, _, _ => by simp
  | a :: r, k, h, hk => by
    obtain ⟨h1, h2⟩ := List.nodup_cons.mp h
    show (a :: (r ++ [k])).Nodup
    refine List.nodup_cons.mpr ⟨fun m => ?_, nd_snoc h2 fun m => hk (List.mem_cons.mpr (Or.inr m))⟩
    rcases List.mem_append.mp m with q | q
    · exact h1 q
    · exact hk (List.mem_cons.mpr (Or.inl (List.mem_singleton.mp q).symm))
theorem nd_putK {kvs : List (κ × V)} {k : κ} (v : V) (hn : (kvs.map (·.1)).Nodup) (h : valV kvs k = none) : ((putK kvs k v).map (·.1)).Nodup := by
  rw [putK_new v h, List.map_append]
  exact nd_snoc hn (valV_not h)
theorem dropK_pos {p : κ × V} {r : List (κ × V)} {k : κ} (e : p.1 = k) : dropK (p :: r) k = dropK r k := by
  unfold dropK
  rw [List.filter_cons, if_neg (by simp [e])]
theorem dropK_neg {p : κ × V} {r : List (κ × V)} {k : κ} (e : ¬ p.1 = k) : dropK (p :: r) k = p :: dropK r k := by
  unfold dropK
  rw [List.filter_cons, if_pos (by simp [e])]
theorem dropK_no : ∀ {kvs : List (κ × V)} {k : κ}, ¬ k ∈ kvs.map (·.1) → dropK kvs k = kvs
  | [], _, _ => rfl
  | p :: r, k, h => by
    have h' : ¬ k ∈ r.map (·.1) := fun m => by
      obtain ⟨q, hq, e⟩ := List.mem_map.mp m
      exact h (List.mem_map.mpr ⟨q, List.mem_cons.mpr (Or.inr hq), e⟩)
    rw [dropK_neg fun e => h (List.mem_map.mpr ⟨p, List.mem_cons.mpr (Or.inl rfl), e⟩), dropK_no h']
theorem dropK_mem {kvs : List (κ × V)} {k : κ} {p : κ × V} (h : p ∈ dropK kvs k) : p ∈ kvs := (List.mem_filter.mp h).1
theorem nd_dropK : ∀ {kvs : List (κ × V)} {k : κ}, (kvs.map (·.1)).Nodup → ((dropK kvs k).map (·.1)).Nodup
  | [], _, _ => List.nodup_nil
  | p :: r, k, h => by
    have h : (p.1 :: r.map (·.1)).Nodup := h
    obtain ⟨h1, h2⟩ := List.nodup_cons.mp h
    by_cases e : p.1 = k
    · rw [dropK_pos e]
      exact nd_dropK h2
    · rw [dropK_neg e]
      show (p.1 :: (dropK r k).map (·.1)).Nodup
      refine List.nodup_cons.mpr ⟨fun m => h1 ?_, nd_dropK h2⟩
      obtain ⟨q, hq, eq⟩ := List.mem_map.mp m
      exact List.mem_map.mpr ⟨q, dropK_mem hq, eq⟩
theorem dropK_len : ∀ {kvs : List (κ × V)} {k : κ}, (kvs.map (·.1)).Nodup → k ∈ kvs.map (·.1) → (dropK kvs k).length + 1 = kvs.length
  | [], _, _, m => by simp at m
  | p :: r, k, h, m => by
    have h : (p.1 :: r.map (·.1)).Nodup := h
    have m : k = p.1 ∨ k ∈ r.map (·.1) := List.mem_cons.mp m
    obtain ⟨h1, h2⟩ := List.nodup_cons.mp h
    by_cases e : p.1 = k
    · subst e
      rw [dropK_pos rfl, dropK_no h1]
      all_goals rfl
    · have m' : k ∈ r.map (·.1) := m.resolve_left fun z => e z.symm
      have q := dropK_len h2 m'
      rw [dropK_neg e, List.length_cons, List.length_cons]
      omega
end
end L2

/-! MORE OF THE HAND LAYER, our own: the signs of a text walked, a comprehension's block, slices of texts, all, isinstance. -/
namespace L2
open PySem PySem.Spec PyProof.Rows

/-! ### a text, sign by sign -/
def Its (z : Str) : It := ⟨fun i _ => i < z.cps.size, fun i H x H' => H' = H ∧ ∃ c, z.cps[i]? = some c ∧ x = .str ⟨#[c]⟩, fun i _ => z.cps.size ≤ i⟩
theorem turn_sign {P : Program} {w : World} {K : PySem.W.Frag} {tg : Expr} (it : Addr) (z : Str) (t : Tok) (wide : Bool) :
    Turn P w K tg (Its z) [it] it (fun i h => h.IsStrIter it (if wide then "str_iterator" else "str_ascii_iterator") z t i) where
  mem := List.mem_singleton.mpr rfl
  obj := fun i h st b hb => by
    obtain rfl : b = it := List.mem_singleton.mp hb
    obtain ⟨o, e, _, d⟩ := st
    exact ⟨o, e, fun v q => by rw [d] at q; cases q⟩
  keep := fun i h h' st k => by
    obtain ⟨o, e, r⟩ := st
    exact ⟨o, k it (List.mem_singleton.mpr rfl) o e, r⟩
  item := by
    intro X hP hw hK hc i pins s σ H E I hf st hg
    subst hP hw hK
    obtain ⟨f0, f1, _, f3, f4, f5⟩ := hf it (List.mem_singleton.mpr rfl)
    have hi : i < z.cps.size := hg
    have hz : z.cps[i]? = some z.cps[i] := by simp [hi]
    have fin : ∀ h', h'.IsStrIter it (if wide then "str_iterator" else "str_ascii_iterator") z t (i + 1) → Heap.SameBut it s.heap h' →
        ∃ u, (some (Value.str ⟨#[z.cps[i]]⟩ s.toks)) = some u ∧ wpAny (model X.prog X.w) X.A (letOwnedTupleGo tg (.ref it) u)
          (fun _ s2 => ∃ x H', Inv X pins σ H' s2 ∧ RelV x u ∧ (Its z).yld i H x H' ∧ s2.heap.IsStrIter it (if wide then "str_iterator" else "str_ascii_iterator") z t (i + 1) ∧ ∀ b ∈ [it], H' b = none) E { s with heap := h', toks := s.toks + 1 } := by
      intro h' st' sb
      have I1 : Inv X pins σ H { s with heap := h', toks := s.toks + 1 } := I.turned (fun b o hb e => (sb.2 b hb).trans e) f0 f1 f3 f4 f5
      obtain ⟨o, e, c, d⟩ := id st'
      refine ⟨_, rfl, go_of (s := { s with heap := h', toks := s.toks + 1 }) e c d (by cases wide <;> decide) ⟨.str ⟨#[z.cps[i]]⟩, H, I1, ⟨_, rfl⟩, ⟨rfl, _, hz, rfl⟩, st', fun b hb => (hf b hb).1⟩⟩
    cases wide with
    | true => exact wpAny_pyNext_wide_item st hz fun h' st' sb => fin h' st' sb
    | false => exact wpAny_pyNext_ascii_item st hz fun h' st' sb => fin h' st' sb
  done := by
    intro X hP hw hK hc i pins s σ H E I hf st hg
    subst hP hw hK
    obtain ⟨f0, f1, _, f3, f4, f5⟩ := hf it (List.mem_singleton.mpr rfl)
    have hi : z.cps.size ≤ i := hg
    have hz : z.cps[i]? = none := by simp [hi]
    cases wide with
    | true => exact wpAny_pyNext_wide_end (I.ok.hd hc) st hz fun h' eb => ⟨rfl, I.turned (t' := s.toks) (fun b o hb e => eb b o hb e) f0 f1 f3 f4 f5⟩
    | false => exact wpAny_pyNext_ascii_end (I.ok.hd hc) st hz fun h' eb => ⟨rfl, I.turned (t' := s.toks) (fun b o hb e => eb b o hb e) f0 f1 f3 f4 f5⟩
  self := fun _ _ _ _ _ st h => by
    cases wide with
    | true => exact wpAny_pyIter_striter_wide st h
    | false => exact wpAny_pyIter_striter_ascii st h
section
variable {X : Cx} {tg : Expr}
def iStr (tl : TE) : TI := fun σ H R => tl σ H fun x H1 => ∃ z, x = .str z ∧ R (Its z) H1
theorem pi_str {l : Expr} {tl : TE} (hl : PE X l tl) : PI X tg l (iStr tl) := by
  intro pins s σ H R I h
  refine thn (hl pins s σ H _ I h) fun v s1 ⟨x, H1, I1, r1, q1⟩ => ?_
  obtain ⟨z, e, q⟩ := q1
  subst e
  obtain ⟨t, rfl⟩ := r1
  have fin : ∀ (wide : Bool), PIE X pins σ tg R (.ref s1.heap.objs.size) { s1 with heap := s1.heap.push { cls := .type (if wide then "str_iterator" else "str_ascii_iterator"), data := .fields #[.str z t, .int 0 0] } } := by
    intro wide
    refine ⟨s1.heap.objs.size, [s1.heap.objs.size], _, _, H1, rfl, I1.kept (t' := s1.toks) fun b o e => Heap.get?_push_of_some _ e, turn_sign _ z t wide, ⟨_, Heap.get?_push_size _ rfl, rfl, rfl⟩, fun b hb => ?_, q⟩
    obtain rfl : b = s1.heap.objs.size := List.mem_singleton.mp hb
    exact I1.fpOk (Nat.le_refl _) (I1.hok.fresh (Nat.le_refl _))
  cases ha : z.cps.all (· < 128) with
  | false => exact wpAny_pyIter_wide ha (fin true)
  | true => exact wpAny_pyIter_ascii ha (fin false)
end
/-- a loop over the signs of z -/
theorem for_str {z : Str} {g : TG} {tb : TS} {D : Ends} {σ : St} {H : Hp} (Pv : Nat → St → Hp → Prop) (h0 : Pv 0 σ H)
    (hs : ∀ i c σ H, z.cps[i]? = some c → Pv i σ H → g (.str ⟨#[c]⟩) σ H fun σ2 H2 => tb { D with nx := Pv (i + 1), ct := Pv (i + 1), bk := D.nx } σ2 H2) (hd : ∀ σ H, Pv z.cps.size σ H → D.nx σ H) :
    ∃ W : Nat → Nat → St → Hp → Prop, (∃ m, W 0 m σ H) ∧ ∀ i m σ H, W i m σ H →
      ((Its z).stop i H ∧ D.nx σ H) ∨ ((Its z).go i H ∧ ∃ N : St → Hp → Prop, (∀ σ' H', N σ' H' → ∃ m', m' < m ∧ W (i + 1) m' σ' H') ∧ ∀ x H', (Its z).yld i H x H' → g x σ H' fun σ2 H2 => tb { D with nx := N, ct := N, bk := D.nx } σ2 H2) := by
  refine ⟨fun i m σ H => m = z.cps.size - i ∧ i ≤ z.cps.size ∧ Pv i σ H, ⟨z.cps.size, Nat.sub_zero _ |>.symm, Nat.zero_le _, h0⟩, ?_⟩
  rintro i m σ H ⟨rfl, hi, p⟩
  by_cases hlt : i < z.cps.size
  · refine .inr ⟨hlt, Pv (i + 1), fun σ' H' p' => ⟨z.cps.size - (i + 1), by omega, rfl, hlt, p'⟩, fun x H' y => ?_⟩
    obtain ⟨e, c, hc, ex⟩ := y
    subst e ex
    exact hs i c σ _ hc p
  · obtain rfl : i = z.cps.size := by omega
    exact .inl ⟨Nat.le_refl _, hd σ H p⟩

/-! ### a comprehension: its block has a frame of its own, what it reads of the def lies in cells -/
/-- the context of the block -/
abbrev blk (X : Cx) (N' : List Str) (sc : Scope) (cl : List (Str × Addr)) (s₀ : Shared) (H₀ : Hp) (C : Addr) (ex : List Addr) : Cx :=
  { X with N := N', s₀ := s₀, H₀ := H₀, env := compEnvC sc cl C X.env, outer := X.stack, ex := ex, fn := fun _ => false, xe := fun _ _ => False }
/-- own: the block's targets; caps: the names of the def that it reads; cl: their cells -/
structure BlkSc (X : Cx) (caps : List Str) (sc : Scope) (cl : List (Str × Addr)) : Prop where
  kind : sc.kind = .function
  nocell : ∀ y ∈ sc.names, y.2 ≠ .cell
  names : ∀ y ∈ sc.names, y.2 = .local → sc.names.lookup y.1 = some .local
  clos : closureFor sc X.env = pure cl
  has : (sc.names.all fun y => y.2 != .free || (cl.lookup y.1).isSome) = true
  sub : ∀ y ∈ cl, X.env.cells.lookup y.1 = some y.2
  caps : ∀ x ∈ caps, (X.env.kindOf x = some .cell ∨ X.env.kindOf x = some .free) ∧ (cl.lookup x).isSome = true ∧ ((relabel sc X.env).names.lookup x = some .cell ∨ (relabel sc X.env).names.lookup x = some .free)
theorem relabel_inv {env : Env} : ∀ {names : List (Str × NameKind)} {x : Str} {k : NameKind}, (names.map fun (n, k) => if (k == NameKind.free && env.scope.kind == .function && env.kindOf n == some .cell) then (n, NameKind.cell) else (n, k)).lookup x = some k →
    ∃ k', (x, k') ∈ names ∧ (k' = k ∨ k' = .free)
  | [], _, _, h => by simp at h
  | (n, k0) :: r, x, k, h => by
    have h' : List.lookup x ((if (k0 == NameKind.free && env.scope.kind == .function && env.kindOf n == some .cell) = true then (n, NameKind.cell) else (n, k0)) :: (r.map fun (n, k) => if (k == NameKind.free && env.scope.kind == .function && env.kindOf n == some .cell) then (n, NameKind.cell) else (n, k))) = some k := h
    by_cases hx : x = n
    · subst hx
      refine ⟨k0, List.mem_cons_self, ?_⟩
      by_cases hc : (k0 == NameKind.free && env.scope.kind == .function && env.kindOf x == some .cell) = true
      · have hf : (k0 == NameKind.free) = true := by
          rw [Bool.and_eq_true, Bool.and_eq_true] at hc
          exact hc.1.1
        exact .inr (by cases k0 <;> first | rfl | exact absurd hf (by decide))
      · rw [if_neg hc, List.lookup_cons_self] at h'
        exact .inl (Option.some.inj h')
    · have hb : (x == n) = false := beq_eq_false_iff_ne.mpr hx
      have h2 : (r.map fun (n, k) => if (k == NameKind.free && env.scope.kind == .function && env.kindOf n == some .cell) then (n, NameKind.cell) else (n, k)).lookup x = some k := by
        split at h' <;> simpa [List.lookup_cons, hb] using h'
      obtain ⟨k', hm, hk⟩ := relabel_inv h2
      exact ⟨k', List.mem_cons_of_mem _ hm, hk⟩
theorem BlkSc.hasc {X : Cx} {caps : List Str} {sc : Scope} {cl : List (Str × Addr)} (S : BlkSc X caps sc cl) {x : Str} (h : (relabel sc X.env).names.lookup x = some .cell ∨ (relabel sc X.env).names.lookup x = some .free) : ∃ c, cl.lookup x = some c := by
  have key : (x, NameKind.free) ∈ sc.names := by
    rcases h with h | h
    · obtain ⟨k', hm, hk⟩ := relabel_inv h
      rcases hk with rfl | rfl
      · exact absurd rfl (S.nocell _ hm)
      · exact hm
    · obtain ⟨k', hm, hk⟩ := relabel_inv h
      rcases hk with rfl | rfl <;> exact hm
  have q := List.all_eq_true.mp S.has _ key
  have q2 : (cl.lookup x).isSome = true := by simpa using q
  exact Option.isSome_iff_exists.mp q2
theorem BlkSc.subc {X : Cx} {caps : List Str} {sc : Scope} {cl : List (Str × Addr)} (S : BlkSc X caps sc cl) {x : Str} {c : Addr} (h : cl.lookup x = some c) : X.env.cells.lookup x = some c := S.sub _ (PySem.mem_of_lookup h)

/-- the names' values at a turn's begin: own targets unknown, then what is captured -/
def blkSt (n : Nat) (κ : List Nat) (σ : St) : St := List.replicate n none ++ κ.map fun k => (σ[k]?).join
/-- the turns of a comprehension: W is the invariant by the turn, a measure, the items so far -/
def CompRun (n : Nat) (κ : List Nat) (g : TG) (tc : TT) (te : TE) (σ : St) (J : It) (H1 : Hp) (Q : VK) : Prop :=
  ∃ W : Nat → Nat → List V → Hp → Prop, (∃ m, W 0 m [] H1) ∧ ∀ i m ys H2, W i m ys H2 →
    (J.stop i H2 ∧ ∀ D, H2 D = none → Q (.ref D) (upd H2 D (.lst ys))) ∨
    (J.go i H2 ∧ ys.length < sizeLine ∧ ∀ x H3, J.yld i H2 x H3 → g x (blkSt n κ σ) H3 fun σ4 H4 => σ4.drop n = (blkSt n κ σ).drop n ∧
      tc σ4 H4 fun b H5 => if b = true then te σ4 H5 fun v H6 => ∃ m', m' < m ∧ W (i + 1) m' (ys ++ [v]) H6 else ∃ m', m' < m ∧ W (i + 1) m' ys H5)
def tComp (n : Nat) (κ : List Nat) (wi : TI) (g : TG) (tc : TT) (te : TE) : TE := fun σ H Q => wi σ H fun J H1 => CompRun n κ g tc te σ J H1 Q
def tYes : TT := fun _ H Q => Q true H
theorem tYes_go {σ : St} {H : Hp} {A B : Hp → Prop} (h : A H) : tYes σ H fun b H5 => if b = true then A H5 else B H5 := by
  show (if true = true then A H else B H)
  rw [if_pos rfl]
  exact h

section
variable {X : Cx} {pins : List (Addr × Obj)} {σ : St} {H : Hp} {s : Shared}
/-- into the block -/
theorem Inv.block {caps : List Str} {own : List Str} {κ : List Nat} {sc : Scope} {cl : List (Str × Addr)} {fp : List Addr} {h₁ : Heap} {tk : Nat} (S : BlkSc X caps sc cl) (hκ : κ.map (fun k => X.N[k]?) = caps.map some) (I : Inv X pins σ H s)
    (f2 : ∀ b ∈ fp, FpOk X pins H b) (hfp : ∀ b ∈ fp, b < s.heap.objs.size)
    {hp : Heap} {ol : Obj} (ehp : hp = s.heap.push ol) (hns : h₁.Ns hp.objs.size fun _ => none) (old : ∀ b o, hp.get? b = some o → h₁.get? b = some o) :
    Inv (blk X (own ++ caps) sc cl { s with heap := hp } H hp.objs.size (s.heap.objs.size :: fp)) pins (blkSt own.length κ σ) H { s with heap := h₁, toks := tk } := by
  have hsz : hp.objs.size = s.heap.objs.size + 1 := by rw [ehp, Heap.size_push]
  have up : ∀ b o, s.heap.get? b = some o → hp.get? b = some o := fun b o e => by rw [ehp]; exact Heap.get?_push_of_some _ e
  have I3 : Inv X pins σ H { s with heap := hp } := I.kept (t' := s.toks) up
  have stk : ∀ b, b ≠ X.env.locals → b ∉ X.fs → b ∉ frs X.stack := fun b h1 h2 z => (List.mem_cons.mp (I.stkSub b z)).elim h1 h2
  have dD : s.heap.objs.size ≠ X.env.locals := Nat.ne_of_gt I.lt
  have cellLt : ∀ x c, X.env.cells.lookup x = some c → c < s.heap.objs.size := fun x c e => by
    obtain ⟨v, q⟩ := I.cell x c e
    exact q.lt
  have ltC : ∀ b, b < s.heap.objs.size → b ≠ hp.objs.size := fun b hb => by rw [hsz]; exact Nat.ne_of_lt (Nat.lt_succ_of_lt hb)
  have cellK : ∀ c v, s.heap.IsCell c v → h₁.IsCell c v := fun c v ⟨o, ho, hd⟩ => ⟨o, old _ _ (up _ _ ho), hd⟩
  refine ⟨⟨I.ok.mod, ?_, I.ok.glob, I.ok.blt, Nat.le_refl _, fun x y c h1 h2 => I.ok.inj x y c (S.subc h1) (S.subc h2), fun x h => S.hasc h, fun _ _ z => absurd z Bool.false_ne_true, I.ok.hd, I.ok.frames, .inl rfl, fun b hb => ?_, fun b o e => ⟨up _ _ (I.bs b o e).1, (I.bs b o e).2⟩,
      Nat.le_trans (Nat.le_trans I.ok.bsz I.sz) (by show s.heap.objs.size ≤ hp.objs.size; rw [hsz]; exact Nat.le_succ _), fun b o e hb => ?_, fun b hb => ?_, I3.stack, I.stkFree⟩,
    rfl, I.bare, Un.kept old, ⟨_, hns, fun i x v e1 e2 e3 => ?_⟩, fun x c h => ?_, I.hok.fresh (by rw [hsz]; exact Nat.le_succ _), fun x c h => I.freeC x c (S.subc h), fun p hp' => ?_, I.hok.kept fun b u e => old _ _ (up _ _ e), ?_⟩
  · show (relabel sc X.env).kind = .function
    exact S.kind
  · show b ≠ hp.objs.size ∧ ∀ x c, cl.lookup x = some c → c ≠ b
    rcases List.mem_cons.mp hb with rfl | hb
    · exact ⟨by rw [hsz]; exact Nat.ne_of_lt (Nat.lt_succ_self _), fun x c h => Nat.ne_of_lt (cellLt x c (S.subc h))⟩
    · exact ⟨ltC b (hfp b hb), fun x c h => (f2 b hb).2.2.2.2.1 x c (S.subc h)⟩
  · have hlt : b < X.s₀.heap.objs.size := Nat.lt_of_lt_of_le (Heap.lt_size e) I.ok.bsz
    rcases List.mem_cons.mp hb with rfl | hb
    · exact absurd (Nat.lt_of_lt_of_le hlt I.sz) (Nat.lt_irrefl _)
    · rcases (f2 b hb).2.2.2.1 with z | z
      · exact I.ok.noex b o e z
      · exact absurd (Nat.lt_of_lt_of_le hlt z) (Nat.lt_irrefl _)
  · rcases List.mem_cons.mp hb with rfl | hb
    · exact stk _ dD (I.nofs (Nat.le_refl _))
    · exact stk _ (f2 b hb).2.1 (f2 b hb).2.2.1
  · have e1' : (own ++ caps)[i]? = some x := e1
    have hlen : (List.replicate own.length (none : Option V)).length = own.length := List.length_replicate
    have hge : own.length ≤ i := by
      refine Nat.le_of_not_lt fun hlt => ?_
      unfold blkSt at e2
      rw [List.getElem?_append_left (by rw [hlen]; exact hlt), List.getElem?_replicate, if_pos hlt] at e2
      cases e2
    unfold blkSt at e2
    rw [List.getElem?_append_right (by rw [hlen]; exact hge), hlen, List.getElem?_map] at e2
    rw [List.getElem?_append_right hge] at e1'
    cases ek : κ[i - own.length]? with
    | none => rw [ek] at e2; cases e2
    | some k =>
      rw [ek] at e2
      have e2' : (σ[k]?).join = some v := Option.some.inj e2
      have e4 : σ[k]? = some (some v) := by
        cases eσ : σ[k]? with
        | none => rw [eσ] at e2'; cases e2'
        | some w => rw [eσ] at e2'; exact congrArg some e2'
      have e5 : X.N[k]? = some x := by
        have z := congrArg (fun l => l[i - own.length]?) hκ
        simp only [List.getElem?_map, ek, e1', Option.map_some] at z
        exact Option.some.inj z
      obtain ⟨c1, c2, c3⟩ := S.caps x (List.mem_of_getElem? e1')
      obtain ⟨m, hn, hl⟩ := I.loc
      obtain ⟨u, r, l⟩ := hl k x v e5 e4 (c1.elim (fun z => .inr (.inl z)) fun z => .inr (.inr z))
      refine ⟨u, r, ?_⟩
      rcases l with ⟨hk, _⟩ | ⟨_, c, hc, hcell⟩
      · rcases c1 with z | z <;> (rw [hk] at z; cases z)
      · obtain ⟨c', hc'⟩ := Option.isSome_iff_exists.mp c2
        have ecc : c' = c := Option.some.inj ((S.subc hc').symm.trans hc)
        subst ecc
        exact .inr ⟨c3, c', hc', cellK _ _ hcell⟩
  · obtain ⟨v, q⟩ := I.cell x c (S.subc h)
    exact ⟨v, cellK c v q⟩
  · obtain ⟨e, n, ne, nf, d⟩ := I.pin p hp'
    exact ⟨old _ _ (up _ _ e), n, ltC _ (Heap.lt_size e), stk _ ne nf, d⟩
  · show (blkSt own.length κ σ).length = (own ++ caps).length
    have z := congrArg List.length hκ
    rw [List.length_map, List.length_map] at z
    unfold blkSt
    rw [List.length_append, List.length_append, List.length_replicate, List.length_map, z]
/-- out of the block again: the new list is tracked -/
theorem Inv.unblock {own caps : List Str} {sc : Scope} {cl : List (Str × Addr)} {fp : List Addr} {H' : Hp} {s4 : Shared} {σ' : St} {pins' : List (Addr × Obj)} {hp h' : Heap} {ol : Obj} {ys : List V} {its : List Value} {cap : Nat} (I : Inv X pins σ H s)
    (f2 : ∀ b ∈ fp, FpOk X pins H b) (ehp : hp = s.heap.push ol)
    (J : Inv (blk X (own ++ caps) sc cl { s with heap := hp } H hp.objs.size (s.heap.objs.size :: fp)) pins' σ' H' s4)
    (hD : s4.heap.get? s.heap.objs.size = some { cls := .type "list", data := .seq its.toArray cap }) (nD : H' s.heap.objs.size = none) (r : Vals ys its) (hz : ys.length ≤ sizeLine) (sb : Heap.SameBut hp.objs.size s4.heap h') :
    Inv X pins σ (upd H' s.heap.objs.size (.lst ys)) { s4 with heap := h' } := by
  have hsz : hp.objs.size = s.heap.objs.size + 1 := by rw [ehp, Heap.size_push]
  have up : ∀ b o, s.heap.get? b = some o → hp.get? b = some o := fun b o e => by rw [ehp]; exact Heap.get?_push_of_some _ e
  have nDs : H s.heap.objs.size = none := I.hok.fresh (Nat.le_refl _)
  have neD : ∀ b o, s.heap.get? b = some o → b ≠ s.heap.objs.size := fun b o e => Nat.ne_of_lt (Heap.lt_size e)
  have neC : ∀ b o, s.heap.get? b = some o → b ≠ hp.objs.size := fun b o e => by rw [hsz]; exact Nat.ne_of_lt (Nat.lt_succ_of_lt (Heap.lt_size e))
  have nex : ∀ b o, s.heap.get? b = some o → b ∉ fp → b ∉ s.heap.objs.size :: fp := fun b o e hb z => (List.mem_cons.mp z).elim (neD b o e) hb
  have u := J.base
  have hDC : s.heap.objs.size ≠ hp.objs.size := by rw [hsz]; exact Nat.ne_of_lt (Nat.lt_succ_self _)
  have eD : h'.get? s.heap.objs.size = some { cls := .type "list", data := .seq its.toArray cap } := (sb.2 _ hDC).trans hD
  refine I.call' (ch := fp) J.os ⟨fun b o e n hb hx => ?_, fun b o e n hb hx => ?_, fun b o e n hx => ?_, fun b o e hx => ?_, fun b xs e => ?_, fun b o x e => ?_, fun b ps e => ?_⟩ (fun b o e => ?_) J.bare fun b hb => ?_
  · exact (sb.2 b (neC b o e)).trans (u.keep b o (up _ _ e) n hb (nex b o e hx))
  · obtain ⟨sl, q⟩ := u.slot b o (up _ _ e) n hb (nex b o e hx)
    exact ⟨sl, (sb.2 b (neC b o e)).trans q⟩
  · rw [upd_ne (neD b o e)]
    exact u.free b o (up _ _ e) n (nex b o e hx)
  · obtain ⟨o', q⟩ := u.there b o (up _ _ e) (nex b o e hx)
    exact ⟨o', (sb.2 b (neC b o e)).trans q⟩
  · rw [upd_ne (ne_of_none e nDs)]
    exact u.tups b xs e
  · rw [upd_ne (ne_of_none e nDs)]
    exact u.frzs b o x e
  · rw [upd_ne (ne_of_none e nDs)]
    exact u.tbls b ps e
  · by_cases hb : b = s.heap.objs.size
    · subst hb
      rw [upd_same] at e
      cases e
      exact ⟨hz, its, cap, r, eD⟩
    · rw [upd_ne hb] at e
      have nC : ∀ c w, H' c = some w → c ≠ hp.objs.size := fun c w q => ne_of_none q J.free
      refine (J.hok b o e).stay (fun c v hc q => (sb.2 c ?_).trans q) (fun c q => by rw [upd_ne (ne_of_none q nD)]; exact q) fun c xs q => by rw [upd_ne (ne_of_none q nD)]; exact q
      rcases hc with rfl | hc
      · exact nC c o e
      · exact nC c _ hc
  · obtain ⟨_, f1, _, f3, f4, f5⟩ := f2 b hb
    exact ⟨f3, f1, f4, f5⟩
end

section
variable {X : Cx}
/-- THE RULE of a comprehension with one clause -/
theorem pe_compG {tg elt iter : Expr} {ifs : List Expr} {own caps : List Str} {κ : List Nat} {sc : Scope} {cl : List (Str × Addr)} {pos : Pos} {wi : TI} {g : TG} {tc : TT} {te : TE} (hcalm : X.calm = true) (S : BlkSc X caps sc cl) (hκ : κ.map (fun k => X.N[k]?) = caps.map some)
    (hi : PI X tg iter wi) (hg : ∀ s₀ H₀ C ex, PG (blk X (own ++ caps) sc cl s₀ H₀ C ex) tg g)
    (hc : ∀ s₀ H₀ C ex (pins : List (Addr × Obj)) (s : Shared) (σ : St) (H : Hp) (Q : Bool → Hp → Prop), Inv (blk X (own ++ caps) sc cl s₀ H₀ C ex) pins σ H s → tc σ H Q →
      wpAny (model X.prog X.w) X.A (forIn ifs true fun c r => if r = true then do let ok ← isTrue c (compEnvC sc cl C X.env) (eval c (compEnvC sc cl C X.env)); pure (ForInStep.yield ok) else pure (ForInStep.yield r)) (TP (blk X (own ++ caps) sc cl s₀ H₀ C ex) pins σ Q) (fun _ _ => False) s)
    (he : ∀ s₀ H₀ C ex, PE (blk X (own ++ caps) sc cl s₀ H₀ C ex) elt te)
    (hs : ∀ x, foldedSetIterable iter X.env x = pure x := by intro _; rfl) : PE X (.ListComp elt [⟨tg, iter, ifs, 0⟩] sc pos) (tComp own.length κ wi g tc te) := by
  intro pins s σ H Q I h
  rw [eval_ListComp]
  refine wpAny_comprehension_free (use := none) rfl hs S.clos S.kind S.names (thn (hi pins s σ H _ I h) fun v s1 h1 => thn h1 fun itv s2 h2 => ?_)
  obtain ⟨it, fp, tn, J, H2, e, I2, T, st2, f2, W, ⟨m0, w0⟩, turn⟩ := h2
  subst e
  have hfp : ∀ b ∈ fp, b < s2.heap.objs.size := fun b hb => by
    obtain ⟨o, e, _⟩ := T.obj _ _ st2 b hb
    exact Heap.lt_size e
  refine wpAny_newObj_type (wpAny_newFunctionEnv S.nocell (fun y hy => nomatch hy) (fun h₁ hns hsb => ?_) S.kind)
  generalize ehp : s2.heap.push { cls := .type "list", dict := none, data := .seq ([] : List Value).toArray } = hp at hns hsb ⊢
  have hsz : hp.objs.size = s2.heap.objs.size + 1 := by rw [← ehp, Heap.size_push]
  have hDC : s2.heap.objs.size ≠ hp.objs.size := by rw [hsz]; exact Nat.ne_of_lt (Nat.lt_succ_self _)
  have old : ∀ b o, hp.get? b = some o → h₁.get? b = some o := fun b o e => (hsb.2 b (Nat.ne_of_lt (Heap.lt_size e))).trans (Heap.get?_push_of_some _ e)
  have eD : h₁.get? s2.heap.objs.size = some { cls := .type "list", data := .seq ([] : List Value).toArray } := old _ _ (by rw [← ehp]; exact Heap.get?_push_size _ rfl)
  have I0 := Inv.block (own := own) (h₁ := h₁) (tk := s2.toks + ([] : List (Str × Value)).length) S hκ I2 f2 hfp ehp.symm hns old
  have stkD : s2.heap.objs.size ∉ frs X.stack := fun z => (List.mem_cons.mp (I2.stkSub _ z)).elim (Nat.ne_of_gt I2.lt) (I2.nofs (Nat.le_refl _))
  have cellD : ∀ x c, cl.lookup x = some c → c ≠ s2.heap.objs.size := fun x c q => by
    obtain ⟨v, z⟩ := I2.cell x c (S.subc q)
    exact Nat.ne_of_lt z.lt
  have pinD : ∀ p ∈ X.pn ++ pins, p.1 ≠ s2.heap.objs.size := fun p hp => Nat.ne_of_lt (Heap.lt_size (I2.pin p hp).1)
  have stkF : ∀ b ∈ fp, b ∉ frs X.stack := fun b hb z => (List.mem_cons.mp (I2.stkSub _ z)).elim (f2 b hb).2.1 (f2 b hb).2.2.1
  -- the loop
  have loop : codeAny (model X.prog X.w) X.A (.compLoop (.ListComp elt [⟨tg, iter, ifs, 0⟩] sc pos) 0 (.ref it) (.ref s2.heap.objs.size) (compEnvC sc cl hp.objs.size X.env))
      (compPost (model X.prog X.w) X.A X.xe none (EP X pins σ Q) (.ref s2.heap.objs.size) hp.objs.size) { s2 with heap := h₁, toks := s2.toks + ([] : List (Str × Value)).length } := by
    refine codeAny_loop rfl (fun n s' => ∃ (i : Nat) (ys : List V) (its : List Value) (cap : Nat) (H' : Hp), Inv (blk X (own ++ caps) sc cl { s2 with heap := hp } H2 hp.objs.size (s2.heap.objs.size :: fp)) pins (blkSt own.length κ σ) H' s' ∧ tn i s'.heap ∧ (∀ b ∈ fp, H' b = none) ∧
      s'.heap.get? s2.heap.objs.size = some { cls := .type "list", data := .seq its.toArray cap } ∧ H' s2.heap.objs.size = none ∧ Vals ys its ∧ ys.length ≤ sizeLine ∧ W i n ys H') (fun n s3 hI => ?_) m0
      ⟨0, [], [], 0, H2, I0, T.keep _ _ _ st2 fun b hb o e => old _ _ (by rw [← ehp]; exact Heap.get?_push_of_some _ e), fun b hb => (f2 b hb).1, eD, I2.hok.fresh (Nat.le_refl _), .nil, Nat.zero_le _, w0⟩
    obtain ⟨i, ys, its, cap, H3, I3, st3, fr3, eD3, nD3, rv, hz, w3⟩ := hI
    show wpAny _ X.A ((compTurn (.ListComp elt [⟨tg, iter, ifs, 0⟩] sc pos) 0 (.ref it) (.ref s2.heap.objs.size) (compEnvC sc cl hp.objs.size X.env)).onRaise fun x => do noteFrame x (compEnvC sc cl hp.objs.size X.env); theTreesLotGoes x) _ _ s3
    refine wpAny_noted ?_
    rw [compTurn_list]
    -- the list that grows is pinned
    have I3' : Inv (blk X (own ++ caps) sc cl { s2 with heap := hp } H2 hp.objs.size (s2.heap.objs.size :: fp)) (pins ++ [(s2.heap.objs.size, { cls := .type "list", data := .seq its.toArray cap })]) (blkSt own.length κ σ) H3 s3 := by
      refine I3.pins_of fun p hp => (List.mem_append.mp hp).elim (fun z => I3.pin p (List.mem_append_right _ z)) fun z => ?_
      obtain rfl := List.mem_singleton.mp z
      exact ⟨eD3, nD3, hDC, stkD, fun v q => by cases q⟩
    have fpk : ∀ {H' : Hp}, (∀ b ∈ fp, H' b = none) → ∀ b ∈ fp, FpOk (blk X (own ++ caps) sc cl { s2 with heap := hp } H2 hp.objs.size (s2.heap.objs.size :: fp)) (pins ++ [(s2.heap.objs.size, { cls := .type "list", data := .seq its.toArray cap })]) H' b := fun {H'} hn b hb =>
      ⟨hn b hb, by show b ≠ hp.objs.size; rw [hsz]; exact Nat.ne_of_lt (Nat.lt_succ_of_lt (hfp b hb)), stkF b hb, .inl (List.mem_cons_of_mem _ hb), fun x c q => (f2 b hb).2.2.2.2.1 x c (S.subc q), fun p hp => by
        rw [← List.append_assoc] at hp
        rcases List.mem_append.mp hp with z | z
        · exact (f2 b hb).2.2.2.2.2 p z
        · obtain rfl := List.mem_singleton.mp z
          exact Nat.ne_of_gt (hfp b hb)⟩
    rcases turn i n ys H3 w3 with ⟨stop, fin⟩ | ⟨go, hlt, step⟩
    · refine wpAny_bind (wpAny_standAt (wpAny_bind (thn (T.done (blk X (own ++ caps) sc cl { s2 with heap := hp } H2 hp.objs.size (s2.heap.objs.size :: fp)) rfl rfl rfl hcalm i _ s3 _ H3 _ I3' (fpk fr3) st3 stop) fun r s4 ⟨hr, I4⟩ => ?_)))
      subst hr
      refine wpAny_pure ?_
      obtain ⟨m, hm, _⟩ := I4.loc
      refine ⟨m, hm, fun h' sb => ?_⟩
      have eD4 := (I4.pin (s2.heap.objs.size, { cls := .type "list", data := .seq its.toArray cap }) (List.mem_append_right _ (List.mem_append_right _ (List.mem_singleton.mpr rfl)))).1
      exact ⟨.ref s2.heap.objs.size, _, Inv.unblock I2 f2 ehp.symm I4 eD4 nD3 rv hz sb, rfl, fin _ nD3⟩
    · refine wpAny_bind (wpAny_standAt (wpAny_bind (thn (T.item (blk X (own ++ caps) sc cl { s2 with heap := hp } H2 hp.objs.size (s2.heap.objs.size :: fp)) rfl rfl rfl hcalm i _ s3 _ H3 _ I3' (fpk fr3) st3 go) fun r s4 ⟨u, hr, h4⟩ => ?_)))
      subst hr
      refine wpAny_bind (thn h4 fun _ s5 ⟨x, H5, I5, r5, y5, st5, fr5⟩ => ?_)
      have I5' := I5.pinned (fpk fr5) (T.obj _ _ st5)
      refine wpAny_bind (wpAny_mono (hg _ _ _ _ _ s5 _ H5 x u _ I5' r5 (step x H5 y5)) (fun _ s6 ⟨σ6, H6, I6, eσ, q6⟩ => ?_) fun _ _ z => z.elim)
      refine wpAny_bind (wpAny_mono (hc _ _ _ _ _ s6 σ6 H6 _ I6 q6) (fun ok s7 ⟨H7, I7, q7⟩ => ?_) fun _ _ z => z.elim)
      -- back to the invariant: what was pinned is as it was
      have back : ∀ {s8 : Shared} {H8 : Hp}, Inv (blk X (own ++ caps) sc cl { s2 with heap := hp } H2 hp.objs.size (s2.heap.objs.size :: fp)) ((pins ++ [(s2.heap.objs.size, { cls := .type "list", data := .seq its.toArray cap })]) ++ pinsAt fp s5.heap) σ6 H8 s8 →
          Inv (blk X (own ++ caps) sc cl { s2 with heap := hp } H2 hp.objs.size (s2.heap.objs.size :: fp)) pins (blkSt own.length κ σ) H8 s8 ∧ tn (i + 1) s8.heap ∧ (∀ b ∈ fp, H8 b = none) ∧ s8.heap.get? s2.heap.objs.size = some { cls := .type "list", data := .seq its.toArray cap } ∧ H8 s2.heap.objs.size = none := by
        intro s8 H8 I8
        have pk : ∀ b ∈ fp, ∀ o, s5.heap.get? b = some o → s8.heap.get? b = some o ∧ H8 b = none := fun b hb o e => by
          have z := I8.pin (b, o) (List.mem_append_right _ (List.mem_append_right _ (mem_pinsAt hb e)))
          exact ⟨z.1, z.2.1⟩
        have zD := I8.pin (s2.heap.objs.size, { cls := .type "list", data := .seq its.toArray cap }) (List.mem_append_right _ (List.mem_append_left _ (List.mem_append_right _ (List.mem_singleton.mpr rfl))))
        refine ⟨(I8.pins_of fun p hp => I8.pin p (List.mem_append_right _ (List.mem_append_left _ (List.mem_append_left _ hp)))).weak ?_ fun j v e => ?_, T.keep _ _ _ st5 fun b hb o e => (pk b hb o e).1, fun b hb => ?_, zD.1, zD.2.1⟩
        · exact I3.len.trans I8.len.symm
        · have hge : own.length ≤ j := by
            refine Nat.le_of_not_lt fun q => ?_
            unfold blkSt at e
            rw [List.getElem?_append_left (by rw [List.length_replicate]; exact q), List.getElem?_replicate, if_pos q] at e
            cases e
          have z := congrArg (fun l => l[j - own.length]?) eσ
          simp only [List.getElem?_drop] at z
          rw [show own.length + (j - own.length) = j by omega] at z
          rw [z]
          exact e
        · obtain ⟨o, e, _⟩ := T.obj _ _ st5 b hb
          exact (pk b hb o e).2
      cases ok with
      | false =>
        obtain ⟨m', hm, w7⟩ := (if_neg Bool.false_ne_true) ▸ q7
        obtain ⟨I8, st8, fr8, e8, n8⟩ := back I7
        exact wpAny_pure ⟨rfl, m', hm, i + 1, ys, its, cap, H7, I8, st8, fr8, e8, n8, rv, hz, w7⟩
      | true =>
        have q7' := (if_pos rfl) ▸ q7
        refine wpAny_bind (wpAny_bind (wpAny_mono (he _ _ _ _ _ s7 σ6 H7 _ I7 q7') (fun y s8 ⟨v8, H8, I8, r8, m', hm, w8⟩ => ?_) fun _ _ z => z.elim))
        obtain ⟨I9, st9, fr9, e9, n9⟩ := back I8
        have hl := rv.length
        refine wpAny_bind (wpAny_list_append_plain (items := its.toArray) ⟨cap, e9⟩ (fun h' hl' sb => ?_) (by rw [List.size_toArray, ← hl]; exact hz))
        obtain ⟨cap', e'⟩ := hl'
        refine wpAny_pure (wpAny_pure ⟨rfl, m', hm, i + 1, ys ++ [v8], its ++ [y], cap', H8, ?_, ?_, fr9, ?_, n9, Vals.append rv (.cons r8 .nil), ?_, w8⟩)
        · exact I9.turned (t' := s8.toks) (fun b o hb e => (sb.2 b hb).trans e) n9 hDC (.inl List.mem_cons_self) cellD pinD
        · exact T.keep _ _ _ st9 fun b hb o e => (sb.2 b (Nat.ne_of_lt (hfp b hb))).trans e
        · rw [e']
          congr 3
          simp
        · rw [List.length_append]
          exact hlt
  exact codeAny_compStart_list loop (T.self _ 0 _ _ _ (T.keep _ _ _ st2 fun b hb o e => old _ _ (by rw [← ehp]; exact Heap.get?_push_of_some _ e)) loop)
theorem pe_comp {tg elt iter : Expr} {own caps : List Str} {κ : List Nat} {sc : Scope} {cl : List (Str × Addr)} {pos : Pos} {wi : TI} {g : TG} {te : TE} (hcalm : X.calm = true) (S : BlkSc X caps sc cl) (hκ : κ.map (fun k => X.N[k]?) = caps.map some)
    (hi : PI X tg iter wi) (hg : ∀ s₀ H₀ C ex, PG (blk X (own ++ caps) sc cl s₀ H₀ C ex) tg g) (he : ∀ s₀ H₀ C ex, PE (blk X (own ++ caps) sc cl s₀ H₀ C ex) elt te)
    (hs : ∀ x, foldedSetIterable iter X.env x = pure x := by intro _; rfl) : PE X (.ListComp elt [⟨tg, iter, [], 0⟩] sc pos) (tComp own.length κ wi g tYes te) :=
  pe_compG hcalm S hκ hi hg (fun s₀ H₀ C ex pins s σ H Q I h => wpAny_tests_nil ⟨H, I, h⟩) he hs
theorem pe_comp_if {tg elt iter c : Expr} {own caps : List Str} {κ : List Nat} {sc : Scope} {cl : List (Str × Addr)} {pos : Pos} {wi : TI} {g : TG} {tc : TT} {te : TE} (hcalm : X.calm = true) (S : BlkSc X caps sc cl) (hκ : κ.map (fun k => X.N[k]?) = caps.map some)
    (hi : PI X tg iter wi) (hg : ∀ s₀ H₀ C ex, PG (blk X (own ++ caps) sc cl s₀ H₀ C ex) tg g) (hc : ∀ s₀ H₀ C ex, PT (blk X (own ++ caps) sc cl s₀ H₀ C ex) c tc) (he : ∀ s₀ H₀ C ex, PE (blk X (own ++ caps) sc cl s₀ H₀ C ex) elt te)
    (hs : ∀ x, foldedSetIterable iter X.env x = pure x := by intro _; rfl) : PE X (.ListComp elt [⟨tg, iter, [c], 0⟩] sc pos) (tComp own.length κ wi g tc te) :=
  pe_compG hcalm S hκ hi hg (fun s₀ H₀ C ex pins s σ H Q I h => wpAny_tests_one (hc s₀ H₀ C ex pins s σ H Q I h)) he hs
end
end L2
namespace L2
open PySem PySem.Spec PyProof.Rows
section
variable {X : Cx}
/-! ### z[lo:hi] of a text -/
def rSlS : V → Option Int → Option Int → Hp → VK → Prop := fun x lo hi H Q => ∃ z, x = .str z ∧ z.length ≤ sizeLine ∧ Q (.str (Txt.slice z lo hi)) H
theorem sl_str : SlR X rSlS := by
  intro pins s σ H x v vl vu lo hi sl Q I rx hs pl pu h
  obtain ⟨z, rfl, hz, q⟩ := h
  obtain ⟨t, rfl⟩ := rx
  have fin : ∀ t' k, EP X pins σ Q (.str (Txt.slice z lo hi) t') { s with toks := k } := fun t' k => ⟨.str _, H, I.tok _, ⟨_, rfl⟩, q⟩
  refine ⟨"str", _, F.slot_str_getitem.lookup, typeIs_str _ _ _, ?_⟩
  cases pl with
  | none =>
    cases pu with
    | none => exact wpAny_getItem_str_slice (l := none) (u := none) (st := none) hs rfl (post_val_or_str ⟨Nat.le_trans (Txt.slice_le z _ _) hz, fin⟩)
    | int j tj => exact wpAny_getItem_str_slice (l := none) (u := some (j, tj)) (st := none) hs rfl (post_val_or_str ⟨Nat.le_trans (Txt.slice_le z _ _) hz, fin⟩)
  | int i ti =>
    cases pu with
    | none => exact wpAny_getItem_str_slice (l := some (i, ti)) (u := none) (st := none) hs rfl (post_val_or_str ⟨Nat.le_trans (Txt.slice_le z _ _) hz, fin⟩)
    | int j tj => exact wpAny_getItem_str_slice (l := some (i, ti)) (u := some (j, tj)) (st := none) hs rfl (post_val_or_str ⟨Nat.le_trans (Txt.slice_le z _ _) hz, fin⟩)
theorem bootAll : bootBuiltins "all" = some (.builtin "all") := by decide +kernel
theorem bootStr : bootBuiltins "str" = some (.type "str") := by decide +kernel
theorem bootIsi : bootBuiltins "isinstance" = some (.builtin "isinstance") := by decide +kernel
theorem bootBool : bootBuiltins "bool" = some (.type "bool") := by decide +kernel
/-! ### all(list of bools) -/
theorem bools_of : ∀ {bs : List Bool} {us : List Value}, Vals (bs.map V.bl) us → LSm.BoolsAre us bs
  | [], _, r => by cases r; exact .nil
  | b :: bs, _, r => by
    cases r with
    | cons r1 r2 =>
      cases r1
      exact .cons b (bools_of r2)
theorem call_allB (hc : X.calm = true) : CallR X (.builtin "all") (fun xs H Q => ∃ (p : Addr) (bs : List Bool), xs = [.ref p] ∧ SqL X.K H p (bs.map V.bl) ∧ Q (.bl (bs.all id)) H) := by
  intro pins s σ H xs us Q I r h
  obtain ⟨p, bs, rfl, hq, q⟩ := h
  obtain ⟨u, rfl, rx⟩ := vals1 r
  cases rx
  obtain ⟨its, rv, pl, hz⟩ := I.list hq
  have hb := bools_of rv
  have hlt : p < s.heap.objs.size := by obtain ⟨_, e, _⟩ := pl.isList; exact Heap.lt_size e
  refine call_all_walk (wpAny_pyIter_list pl.isList ?_)
  refine ⟨s.heap.objs.size, [s.heap.objs.size, p], [s.heap.objs.size], its.toArray.size, _, _, fun i => (bs[i]?).getD true, rfl, Walks.list (A := X.A.in1) (I.ok.hd hc) _ p (Nat.ne_of_lt hlt) its.toArray,
    ⟨⟨_, Heap.get?_push_size _ rfl, rfl, rfl⟩, pl.isList.push _⟩, fun i v s' Q' E' hP hQ => ?_, fun h' tk hk => ?_⟩
  · obtain ⟨b, e, rfl⟩ := hb.get i v (by simpa using hP)
    have hQ' : Q' ((bs[i]?).getD true) s' := hQ
    rw [e] at hQ'
    exact wpAny_truthy_bool hQ'
  · have e : ((List.range its.toArray.size).all fun i => (bs[i]?).getD true) = bs.all id := by
      rw [List.size_toArray, hb.length]
      exact LSm.range_all bs
    rw [e]
    exact ⟨.bl (bs.all id), H, I.kept (LSm.kept_iter hk), rfl, q⟩
/-! ### isinstance(x, bool) of a bool, isinstance(x, int) -/
theorem call_isi_bool : CallR X (.builtin "isinstance") (fun xs H Q => ∃ b, xs = [.bl b, .ty "bool"] ∧ Q (.bl true) H) := by
  intro pins s σ H xs us Q I r h
  obtain ⟨b, rfl, q⟩ := h
  cases r with
  | cons r1 r2 =>
    cases r2 with
    | cons r2 r3 =>
      cases r3
      cases r1
      cases r2
      exact IsiPair.bool_bool ⟨.bl true, H, I, rfl, q⟩
end
end L2
namespace L2
open PySem PySem.Spec PyProof.Rows
/-- the signs of z as values -/
def signsV (z : Str) : List V := z.cps.toList.map fun c => V.str ⟨#[c]⟩
theorem signsV_len (z : Str) : (signsV z).length = z.length := by simp [signsV, Str.length]
theorem signsV_get {z : Str} {i : Nat} {x : V} : (signsV z)[i]? = some x ↔ ∃ c, z.cps[i]? = some c ∧ x = .str ⟨#[c]⟩ := by
  unfold signsV
  rw [List.getElem?_map]
  have e : z.cps.toList[i]? = z.cps[i]? := by simp
  rw [e]
  cases z.cps[i]? with
  | none => simp
  | some c => simp [eq_comm]
theorem its_go {z : Str} {H : Hp} : ∀ i x, (signsV z)[i]? = some x → (Its z).go i H := fun i x h => by
  have := (List.getElem?_eq_some_iff.mp h).1
  rw [signsV_len] at this
  exact this
theorem its_yld {z : Str} {H : Hp} : ∀ i x H', (Its z).yld i H x H' → H' = H ∧ (signsV z)[i]? = some x := fun i x H' h => ⟨h.1, signsV_get.mpr h.2⟩
theorem its_stop {z : Str} {H : Hp} : (Its z).stop (signsV z).length H := by
  rw [signsV_len]
  exact Nat.le_refl _
end L2
namespace L2
open PySem PySem.Spec PyProof.Rows
/-- a comprehension by an invariant of the turns -/
theorem comp_by {J : It} {xs : List V} {n : Nat} {κ : List Nat} {g : TG} {tc : TT} {te : TE} {σ : St} {H : Hp} {Q : VK} (Pv : Nat → List V → Hp → Prop) (h0 : Pv 0 [] H) (hz : xs.length ≤ sizeLine) (hlen : ∀ i ys H2, Pv i ys H2 → ys.length ≤ i)
    (hgo : ∀ i x ys H2, xs[i]? = some x → Pv i ys H2 → J.go i H2) (hyl : ∀ i ys x H2 H', i < xs.length → Pv i ys H2 → J.yld i H2 x H' → H' = H2 ∧ xs[i]? = some x) (hst : ∀ ys H2, Pv xs.length ys H2 → J.stop xs.length H2)
    (hs : ∀ i x ys H2 (N : List V → Hp → Prop), (∀ ys' H', Pv (i + 1) ys' H' → N ys' H') → xs[i]? = some x → Pv i ys H2 → g x (blkSt n κ σ) H2 fun σ4 H4 => σ4.drop n = (blkSt n κ σ).drop n ∧ tc σ4 H4 fun b H5 => if b = true then te σ4 H5 fun v H6 => N (ys ++ [v]) H6 else N ys H5)
    (hQ : ∀ ys H2 D, Pv xs.length ys H2 → H2 D = none → Q (.ref D) (upd H2 D (.lst ys))) :
    CompRun n κ g tc te σ J H Q := by
  refine ⟨fun i m ys H2 => m = xs.length - i ∧ i ≤ xs.length ∧ Pv i ys H2, ⟨xs.length, rfl, Nat.zero_le _, h0⟩, ?_⟩
  rintro i m ys H2 ⟨rfl, hi, p⟩
  by_cases hlt : i < xs.length
  · have e : xs[i]? = some xs[i] := List.getElem?_eq_getElem hlt
    refine .inr ⟨hgo i _ ys H2 e p, Nat.lt_of_le_of_lt (hlen i ys H2 p) (Nat.lt_of_lt_of_le hlt hz), fun x H3 y => ?_⟩
    obtain ⟨rfl, ex⟩ := hyl i ys x H2 H3 hlt p y
    exact hs i x ys _ (fun ys' H' => ∃ m', m' < xs.length - i ∧ m' = xs.length - (i + 1) ∧ i + 1 ≤ xs.length ∧ Pv (i + 1) ys' H') (fun ys' H' p' => ⟨xs.length - (i + 1), by omega, rfl, hlt, p'⟩) ex p
  · obtain rfl : i = xs.length := by omega
    exact .inl ⟨hst ys H2 p, fun D hD => hQ ys H2 D p hD⟩
/-- a range's ints as values -/
def rangeV (lo : Int) (n : Nat) : List V := (List.range n).map fun i => V.int (lo + (i : Nat))
theorem rangeV_len (lo : Int) (n : Nat) : (rangeV lo n).length = n := by simp [rangeV]
theorem rangeV_get {lo : Int} {n i : Nat} {x : V} : (rangeV lo n)[i]? = some x ↔ i < n ∧ x = .int (lo + i) := by
  unfold rangeV
  rw [List.getElem?_map]
  by_cases h : i < n
  · rw [List.getElem?_range h]
    simp [h, eq_comm]
  · rw [List.getElem?_eq_none (by simp; omega)]
    simp [h]
theorem itr_go {lo : Int} {n : Nat} {H : Hp} {i : Nat} {x : V} (h : (rangeV lo n)[i]? = some x) : (Itr lo n).go i H := (rangeV_get.mp h).1
theorem itr_yld' {lo : Int} {n : Nat} {H H' : Hp} {i : Nat} {x : V} (hi : i < n) (h : (Itr lo n).yld i H x H') : H' = H ∧ (rangeV lo n)[i]? = some x := ⟨h.1, rangeV_get.mpr ⟨hi, h.2⟩⟩
section
variable {X : Cx}
theorem strs_of : ∀ {ys : List Str} {us : List Value}, Vals (ys.map V.str) us → StrsAre us ys
  | [], _, r => by cases r; exact .nil
  | y :: ys, _, r => by
    cases r with
    | cons r1 r2 =>
      obtain ⟨t, rfl⟩ := r1
      exact .cons y t (strs_of r2)
/-- sep.join(list of texts) -/
theorem mt_join : MtR X "str.join" (fun x vs H Q => ∃ sep p ys, x = .str sep ∧ vs = [.ref p] ∧ SqL X.K H p (ys.map V.str) ∧ (ys.map (·.length)).sum + ys.length * sep.length ≤ 16777216 ∧ Q (.str (Txt.join sep ys)) H) := by
  intro pins s σ H x xs v us Q I rx rv h
  obtain ⟨sep, p, ys, rfl, rfl, hq, hz, q⟩ := h
  obtain ⟨t, rfl⟩ := rx
  obtain ⟨u, rfl, ru⟩ := rv.one
  cases ru
  obtain ⟨its, r, pl, _⟩ := I.list hq
  exact join_list pl.isList (by simpa using strs_of r) hz fun t' k => ⟨.str _, H, I.tok _, ⟨_, rfl⟩, q⟩
end
end L2
namespace L2
open PySem PySem.Spec PyProof.Rows
/-! ### data: texts, numbers, tuples and lists of these, by the abstract heap -/
mutual
inductive Dat (K : PySem.W.Frag) (H : Hp) : V → PyData → Prop
  | non : Dat K H .non .none
  | bl (b : Bool) : Dat K H (.bl b) (.bool b)
  | int (i : Int) : Dat K H (.int i) (.int i)
  | str (x : Str) : Dat K H (.str x) (.str x)
  | tup {a : Addr} {xs : List V} {ds : List PyData} : SqT K H a xs → Dats K H xs ds → Dat K H (.ref a) (.tuple ds)
  | lst {a : Addr} {xs : List V} {ds : List PyData} : SqL K H a xs → Dats K H xs ds → Dat K H (.ref a) (.list ds)
inductive Dats (K : PySem.W.Frag) (H : Hp) : List V → List PyData → Prop
  | nil : Dats K H [] []
  | cons {x : V} {d : PyData} {xs : List V} {ds : List PyData} : Dat K H x d → Dats K H xs ds → Dats K H (x :: xs) (d :: ds)
end
theorem Same.tup {K : PySem.W.Frag} {H H' : Hp} {a : Addr} {xs : List V} (e : Same H H') (h : SqT K H a xs) : SqT K H' a xs := by
  rcases h with (h | ⟨o, h⟩) | h
  · exact .inl (.inl (e _ _ h))
  · exact .inl (.inr ⟨o, e _ _ h⟩)
  · exact .inr h
mutual
theorem Dat.same {K : PySem.W.Frag} {H H' : Hp} (e : Same H H') : ∀ {x : V} {d : PyData}, Dat K H x d → Dat K H' x d
  | _, _, .non => .non
  | _, _, .bl b => .bl b
  | _, _, .int i => .int i
  | _, _, .str x => .str x
  | _, _, .tup h r => .tup (e.tup h) (Dats.same e r)
  | _, _, .lst h r => .lst (e.seq h) (Dats.same e r)
theorem Dats.same {K : PySem.W.Frag} {H H' : Hp} (e : Same H H') : ∀ {xs : List V} {ds : List PyData}, Dats K H xs ds → Dats K H' xs ds
  | _, _, .nil => .nil
  | _, _, .cons h r => .cons (Dat.same e h) (Dats.same e r)
end
section
variable {X : Cx} {pins : List (Addr × Obj)} {σ : St} {H : Hp} {s : Shared}
mutual
theorem Dat.reads (I : Inv X pins σ H s) : ∀ {x : V} {d : PyData} {v : Value}, Dat X.K H x d → RelV x v → ∃ as, Reads s.heap v d as
  | _, _, _, .non, r => by cases r; exact ⟨_, .none⟩
  | _, _, _, .bl b, r => by cases r; exact ⟨_, .bool b⟩
  | _, _, _, .int i, r => by obtain ⟨t, rfl⟩ := r; exact ⟨_, .int i t⟩
  | _, _, _, .str x, r => by obtain ⟨t, rfl⟩ := r; exact ⟨_, .str x t⟩
  | _, _, _, .tup hq ds, r => by
    cases r
    obtain ⟨its, rv, p, _⟩ := I.tuple hq
    obtain ⟨as, q⟩ := Dats.reads I ds rv
    obtain ⟨o, e, c, n, dt⟩ := p
    exact ⟨as, .tuple e c dt (by simpa using q)⟩
  | _, _, _, .lst hq ds, r => by
    cases r
    obtain ⟨its, rv, p, _⟩ := I.list hq
    obtain ⟨as, q⟩ := Dats.reads I ds rv
    obtain ⟨o, n, e, c, _, dt⟩ := p
    exact ⟨_, .list e c dt (by simpa using q)⟩
theorem Dats.reads (I : Inv X pins σ H s) : ∀ {xs : List V} {ds : List PyData} {vs : List Value}, Dats X.K H xs ds → Vals xs vs → ∃ as, ReadsAll s.heap vs ds as
  | _, _, _, .nil, r => by cases r; exact ⟨_, .nil⟩
  | _, _, _, .cons h t, r => by
    cases r with
    | cons r1 r2 =>
      obtain ⟨as, q⟩ := Dat.reads I h r1
      obtain ⟨bs, q2⟩ := Dats.reads I t r2
      exact ⟨_, .cons q q2⟩
end
end
section
variable {X : Cx}
def rEqD (K : PySem.W.Frag) (neg : Bool) : R2 := fun x y H Q => ∃ dx dy, Dat K H x dx ∧ Dat K H y dy ∧ SeqAt.shaped dx = true ∧ SeqAt.shaped dy = true ∧ Q (.bl (if neg then !PyData.eqv dx dy else PyData.eqv dx dy)) H
theorem op_eqD (hu : X.A.units + 64 < cLine) : OpR X (compareOp .Eq) (rEqD X.K false) := by
  intro pins s σ H x y v u Q I rx ry h
  obtain ⟨dx, dy, hx, hy, sx, sy, q⟩ := h
  obtain ⟨as, ra⟩ := Dat.reads I hx rx
  obtain ⟨bs, rb⟩ := Dat.reads I hy ry
  exact eq_dataH ra rb sx sy hu ⟨.bl _, H, I, rfl, q⟩
theorem op_neD (hu : X.A.units + 64 < cLine) : OpR X (compareOp .NotEq) (rEqD X.K true) := by
  intro pins s σ H x y v u Q I rx ry h
  obtain ⟨dx, dy, hx, hy, sx, sy, q⟩ := h
  obtain ⟨as, ra⟩ := Dat.reads I hx rx
  obtain ⟨bs, rb⟩ := Dat.reads I hy ry
  exact ne_dataH ra rb sx sy hu ⟨.bl _, H, I, rfl, q⟩
end
end L2
namespace L2
open PySem PySem.Spec PyProof.Rows
/-! ### x in a list of data -/
section
variable {X : Cx}
theorem canLayAll_mem {ds : List PyData} (h : PyData.canLayAll0 ds = true) {d : PyData} (hd : d ∈ ds) : d.canLay0 = true := PyData.canLay0_of_mem ds d h hd
theorem readsAll_get {h : Heap} : ∀ {vs : List Value} {ds : List PyData} {as : List Addr}, ReadsAll h vs ds as → ∀ v ∈ vs, ∃ d ∈ ds, ∃ bs, Reads h v d bs
  | _, _, _, .nil, v, hv => nomatch hv
  | _, _, _, .cons r t, v, hv => by
    rcases List.mem_cons.mp hv with rfl | hv
    · exact ⟨_, List.mem_cons_self, _, r⟩
    · obtain ⟨d, hd, bs, q⟩ := readsAll_get t v hv
      exact ⟨d, List.mem_cons_of_mem _ hd, bs, q⟩
open Classical in
/-- the answer at an item, by the data that lies there -/
noncomputable def eqAtD (h : Heap) (d : PyData) (v : Value) : Bool := if q : ∃ e, ∃ bs, Reads h v e bs then PyData.eqv q.choose d else false
theorem eqAtD_of {h : Heap} {d e : PyData} {v : Value} {as : List Addr} (hl : e.canLay0 = true) (r : Reads h v e as) : eqAtD h d v = PyData.eqv e d := by
  unfold eqAtD
  have q : ∃ e, ∃ bs, Reads h v e bs := ⟨e, as, r⟩
  rw [dif_pos q]
  obtain ⟨bs, r2⟩ := q.choose_spec
  rw [SeqAt.Reads.unique e _ v as bs hl r r2]
theorem any_eqAtD {h : Heap} {d : PyData} : ∀ {vs : List Value} {ds : List PyData} {as : List Addr}, ReadsAll h vs ds as → PyData.canLayAll0 ds = true → vs.any (eqAtD h d) = ds.any fun e => PyData.eqv e d
  | _, _, _, .nil, _ => rfl
  | _, _, _, .cons (d := e) (ds := es) r t, hl => by
    have hl' : e.canLay0 = true ∧ PyData.canLayAll0 es = true := by simpa only [PyData.canLayAll0, Bool.and_eq_true] using hl
    rw [List.any_cons, List.any_cons, eqAtD_of hl'.1 r, any_eqAtD t hl'.2]
def rInD (K : PySem.W.Frag) (neg : Bool) : R2 := fun x y H Q => ∃ p xs ds d, y = .ref p ∧ SqL K H p xs ∧ Dats K H xs ds ∧ Dat K H x d ∧ PyData.canLayAll0 ds = true ∧ d.canLay0 = true ∧ d.depth ≤ 60 ∧
  Q (.bl (if neg then !(ds.any fun e => PyData.eqv e d) else ds.any fun e => PyData.eqv e d)) H
theorem inD_items (hu : X.A.units + 64 < cLine) {pins : List (Addr × Obj)} {σ : St} {H : Hp} {s : Shared} {x : V} {v : Value} {p : Addr} {xs : List V} {ds : List PyData} {d : PyData} (I : Inv X pins σ H s) (rx : RelV x v)
    (hq : SqL X.K H p xs) (hds : Dats X.K H xs ds) (hd : Dat X.K H x d) (hl : PyData.canLayAll0 ds = true) (hl2 : d.canLay0 = true) (hdp : d.depth ≤ 60) :
    ∃ its : List Value, PlainL s.heap p its.toArray ∧ (∀ y, y ∈ its.toArray → SeqAt.EqAt X.A.in1 s y v (eqAtD s.heap d y)) ∧ its.toArray.any (eqAtD s.heap d) = ds.any fun e => PyData.eqv e d := by
  obtain ⟨its, rv, pl, _⟩ := I.list hq
  obtain ⟨as, ra⟩ := Dats.reads I hds rv
  obtain ⟨bs, rb⟩ := Dat.reads I hd rx
  refine ⟨its, pl, fun y hy => ?_, ?_⟩
  · obtain ⟨e, he, cs, re⟩ := readsAll_get ra y (by simpa using hy)
    have hle := canLayAll_mem hl he
    rw [eqAtD_of hle re]
    refine SeqAt.eqAt_reads e d X.A.in1 s y v cs bs re rb hle hl2 ?_
    have h1 : min e.depth d.depth ≤ d.depth := Nat.min_le_right _ _
    have h2 : X.A.in1.units ≤ X.A.units + 1 := by first | exact Nat.le_refl _ | (show X.A.units + 1 ≤ X.A.units + 1; exact Nat.le_refl _) | (show X.A.units ≤ X.A.units + 1; exact Nat.le_succ _)
    omega
  · rw [show its.toArray.any (eqAtD s.heap d) = its.any (eqAtD s.heap d) by simp]
    exact any_eqAtD ra hl
theorem op_inD (hu : X.A.units + 64 < cLine) : OpR X (compareOp .In) (rInD X.K false) := by
  intro pins s σ H x y v u Q I rx ry h
  obtain ⟨p, xs, ds, d, rfl, hq, hds, hd, hl, hl2, hdp, q⟩ := h
  cases ry
  obtain ⟨its, pl, he, ea⟩ := inD_items hu I rx hq hds hd hl hl2 hdp
  refine SeqAt.in_listAt (eqAtD s.heap d) pl.isList he ⟨.bl _, H, I, rfl, ?_⟩
  rw [ea]
  exact q
theorem op_notInD (hu : X.A.units + 64 < cLine) : OpR X (compareOp .NotIn) (rInD X.K true) := by
  intro pins s σ H x y v u Q I rx ry h
  obtain ⟨p, xs, ds, d, rfl, hq, hds, hd, hl, hl2, hdp, q⟩ := h
  cases ry
  obtain ⟨its, pl, he, ea⟩ := inD_items hu I rx hq hds hd hl hl2 hdp
  refine SeqAt.notIn_listAt (eqAtD s.heap d) pl.isList he ⟨.bl _, H, I, rfl, ?_⟩
  rw [ea]
  exact q
/-! ### z * n of a text -/
theorem op_mulS : OpR X (binaryOp .Mult) (fun x y H Q => ∃ z n, x = .str z ∧ y = .int n ∧ MulOk z n ∧ Q (.str (Txt.mul z n)) H) := by
  intro pins s σ H x y v u Q I rx ry h
  obtain ⟨z, n, rfl, rfl, hm, q⟩ := h
  obtain ⟨t, rfl⟩ := rx
  obtain ⟨t', rfl⟩ := ry
  exact SB.mul hm fun t' k => ⟨.str _, H, I.tok _, ⟨_, rfl⟩, q⟩
theorem mulOk_small {z : Str} {n : Int} (h0 : 0 ≤ n) (h1 : n ≤ 1000) (h2 : z.length ≤ 1000) : MulOk z n := by
  refine ⟨?_, fun h3 _ => ?_, fun _ _ => ?_⟩
  · rw [decide_eq_false (by omega), decide_eq_false (by omega)] <;> rfl
  · have hn : 0 < n := by omega
    have hm : (z.length : Int) * n ≤ 1000 * 1000 := Int.mul_le_mul (by omega) h1 h0 (by decide)
    have e : (z.length : Int) ≤ (2 ^ 63 - 1) / n := Int.le_ediv_of_mul_le hn (by omega)
    omega
  · unfold Builtin.Str.tooLong sizeLine
    refine decide_eq_false ?_
    have : z.length * n.toNat ≤ 1000 * 1000 := Nat.mul_le_mul h2 (by omega)
    omega
end
end L2
/-! a dict walked by its keys, whatever they are (tuples too): the entries as they stand -/
namespace L2
open PySem PySem.Spec PyProof.Rows
/-- the dict's own entries -/
def RawD (h : Heap) (d : Addr) (es : Array DictEntry) (ep : Nat) : Prop := ∃ o, h.get? d = some o ∧ o.ExactDict ∧ o.data = .dict es ep
theorem RawD.at {h h' : Heap} {d : Addr} {es : Array DictEntry} {ep : Nat} (x : RawD h d es ep) (k : ∀ o, h.get? d = some o → h'.get? d = some o) : RawD h' d es ep := let ⟨o, e, r⟩ := x; ⟨o, k _ e, r⟩
theorem RawD.lt {h : Heap} {d : Addr} {es : Array DictEntry} {ep : Nat} (x : RawD h d es ep) : d < h.objs.size := let ⟨_, e, _⟩ := x; Heap.lt_size e
section
variable {prog : Program} {w : World} {A : Around} {E : Value → Shared → Prop} {s : Shared}
theorem raw_iter {d : Addr} {es : Array DictEntry} {ep : Nat} {Q : Value → Shared → Prop} (hd : (d == sysModules) = false) (hm : RawD s.heap d es ep)
    (hQ : Q (.ref s.heap.objs.size) { s with heap := s.heap.push { cls := .type "dict_keyiterator", data := .fields #[.ref d, .int 0 0, .int es.size 0, .int ep 0] } }) : wpAny (model prog w) A (pyIter (.ref d)) Q E s := by
  obtain ⟨o, ho, hx, hdat⟩ := hm
  have tyD : s.TypeIs (.ref d) "dict" := ⟨o, ho, hx.1⟩
  refine wpAny_pyIter_slot tyD F.slot_dict_iter (wpAny_call_entry F.slot_dict_iter tyD F.entry_dict_iter ?_ (F.args_dict_iter_1 _))
  unfold Builtin.«dict.__iter__» Builtin.Dict.dictSlotNone
  refine wpAny_bind (wpAny_bind (wpAny_notOrdered_dict tyD ?_))
  refine wpAny_pure (show wpAny _ _ (Builtin.Dict.showsAll d >>= _) _ _ s from ?_)
  unfold Builtin.Dict.showsAll
  rw [if_neg (fun z => Bool.false_ne_true (hd.symm.trans z))]
  refine wpAny_bind (wpAny_pure (wpAny_bind (wpAny_dictEntries ho hdat (wpAny_bind (wpAny_dictEpoch ho hdat ?_)))))
  exact wpAny_bind (wpAny_newObj_type (wpAny_pure ⟨_, rfl, "dict_keyiterator", _, ⟨_, Heap.get?_push_size _ rfl, rfl⟩, F.slot_dict_keyiterator_next.lookup, hQ⟩))
theorem raw_item {it d : Addr} {i ep : Nat} {es : Array DictEntry} {Q : Option Value → Shared → Prop} (hit : s.heap.IsKeyIter it d i es.size ep) (hm : RawD s.heap d es ep) (hi : i < es.size)
    (hQ : ∀ h', h'.IsKeyIter it d (i + 1) es.size ep → Heap.SameBut it s.heap h' → Q (some es[i].key) { s with heap := h' }) : wpAny (model prog w) A (pyNext (.ref it)) Q E s := by
  have tyI := hit.typeIs
  obtain ⟨oi, hoi, hci, hdi⟩ := id hit
  obtain ⟨od, hod, _, hdd⟩ := hm
  unfold pyNext
  refine wpAny_bind (wpAny_attempt (wpAny_callSpecial?_slot (name := Str.ofString "__next__") tyI F.slot_dict_keyiterator_next (wpAny_call_entry F.slot_dict_keyiterator_next tyI F.entry_dict_keyiterator_next ?_ (F.args_dict_keyiterator_next_1 _))))
  refine wpAny_bind (wpAny_pure (wpAny_bind (wpAny_bind ?_)))
  first | refine wpAny_bind (wpAny_typeNameOfWhole_keyiter tyI (wpAny_pure ?_)) | refine wpAny_bind (wpAny_typeNameOf_keyiter tyI (wpAny_pure ?_))
  refine wpAny_bind (wpAny_fieldsOf hoi hdi ?_)
  simp only [show Builtin.Dict_items.ownsTuple "dict_keyiterator" = false from by decide, Bool.false_eq_true, if_false]
  show wpAny _ _ (if (Value.ref d == .none) = true then _ else _) _ _ s
  have ne0 : ¬ ((Value.ref d == Value.none) = true) := fun z => Bool.false_ne_true z
  rw [if_neg ne0]
  refine wpAny_bind (wpAny_pure (wpAny_bind (wpAny_dictEntries hod hdd ?_)))
  rw [if_neg (by simp)]
  refine wpAny_bind (wpAny_pure (wpAny_bind (wpAny_dictEpoch hod hdd ?_)))
  rw [if_neg (by simp)]
  refine wpAny_pure ?_
  simp only [show ¬ ((i : Int) < 0) from Int.not_lt.mpr (Int.natCast_nonneg i), if_false, Int.toNat_natCast, Array.getElem?_eq_getElem hi]
  refine wpAny_bind ?_
  first | refine wpAny_bind (wpAny_typeNameOfWhole_keyiter tyI (wpAny_pure ?_)) | refine wpAny_bind (wpAny_typeNameOf_keyiter tyI (wpAny_pure ?_))
  refine wpAny_bind (wpAny_isOneOf_keyiter tyI ?_)
  refine (show wpAny _ _ (setField (.ref it) 1 (rawInt ((i : Int) + 1)) >>= _) _ _ s from wpAny_bind (wpAny_setField hoi hdi (by simp) ?_))
  have new : (s.heap.update it (Obj.mapFields (·.setIfInBounds 1 (rawInt ((i : Int) + 1))))).IsKeyIter it d (i + 1) es.size ep :=
    ⟨_, Heap.get?_update_self _ hoi (Obj.isFreed_of_fields (Obj.data_mapFields hdi _)), (Obj.cls_mapFields ..).trans hci, by rw [Obj.data_mapFields hdi]; simp [rawInt]⟩
  refine wpAny_bind (wpAny_holding (wpAny_bind (wpAny_isOneOf_keyiter (s := { s with heap := s.heap.update it (Obj.mapFields (·.setIfInBounds 1 (rawInt ((i : Int) + 1)))) }) new.typeIs ?_)))
  exact (show wpAny _ _ (pure es[i].key) _ _ _ from wpAny_pure (wpAny_pure ⟨_, rfl, wpAny_pure (hQ _ new (Heap.SameBut.update ..))⟩))
theorem raw_end {it d : Addr} {i ep : Nat} {es : Array DictEntry} {Q : Option Value → Shared → Prop} (hh : A.handled = none) (hit : s.heap.IsKeyIter it d i es.size ep) (hm : RawD s.heap d es ep) (hi : es.size ≤ i)
    (hF : ∀ h', Heap.ExtBut it s.heap h' → Q none { s with heap := h' }) : wpAny (model prog w) A (pyNext (.ref it)) Q E s := by
  have tyI := hit.typeIs
  obtain ⟨oi, hoi, hci, hdi⟩ := id hit
  obtain ⟨od, hod, _, hdd⟩ := hm
  unfold pyNext
  refine wpAny_bind (wpAny_attempt (wpAny_callSpecial?_slot (name := Str.ofString "__next__") tyI F.slot_dict_keyiterator_next (wpAny_call_entry F.slot_dict_keyiterator_next tyI F.entry_dict_keyiterator_next ?_ (F.args_dict_keyiterator_next_1 _))))
  refine wpAny_bind (wpAny_pure (wpAny_bind (wpAny_bind ?_)))
  first | refine wpAny_bind (wpAny_typeNameOfWhole_keyiter tyI (wpAny_pure ?_)) | refine wpAny_bind (wpAny_typeNameOf_keyiter tyI (wpAny_pure ?_))
  refine wpAny_bind (wpAny_fieldsOf hoi hdi ?_)
  simp only [show Builtin.Dict_items.ownsTuple "dict_keyiterator" = false from by decide, Bool.false_eq_true, if_false]
  show wpAny _ _ (if (Value.ref d == .none) = true then _ else _) _ _ s
  have ne0 : ¬ ((Value.ref d == Value.none) = true) := fun z => Bool.false_ne_true z
  rw [if_neg ne0]
  refine wpAny_bind (wpAny_pure (wpAny_bind (wpAny_dictEntries hod hdd ?_)))
  rw [if_neg (by simp)]
  refine wpAny_bind (wpAny_pure (wpAny_bind (wpAny_dictEpoch hod hdd ?_)))
  rw [if_neg (by simp)]
  refine wpAny_pure ?_
  simp only [show ¬ ((i : Int) < 0) from Int.not_lt.mpr (Int.natCast_nonneg i), if_false, Int.toNat_natCast, Array.getElem?_eq_none hi]
  refine wpAny_bind ?_
  first | refine wpAny_bind (wpAny_typeNameOfWhole_keyiter tyI (wpAny_pure ?_)) | refine wpAny_bind (wpAny_typeNameOf_keyiter tyI (wpAny_pure ?_))
  refine (show wpAny _ _ (setField (.ref it) 0 .none >>= _) _ _ s from wpAny_bind (wpAny_setField hoi hdi (by simp) ?_))
  refine (show wpAny _ _ (newExc (.type "StopIteration") [] >>= _) _ _ _ from wpAny_bind ?_)
  simp only [newExc, newTuple]
  refine wpAny_bind (wpAny_newObj_type (dict := none) ?_ (by size_fits))
  refine wpAny_bind (m := firstArgMember _ _) (wpAny_of_eq (a := Value.none) (by first | rfl | (simp only [firstArgMember]; rfl)) (wpAny_newObj_type ?_ (by size_fits)))
  simp only [raiseNew]
  refine wpAny_bind (m := _) (wpAny_handled ?_)
  rw [(show A.in1.handled = none from hh)]
  refine wpAny_bind (wpAny_pure (wpAny_throw (wpAny_bind ?_)))
  refine wpAny_isInstance (b := true) (T := "StopIteration") ⟨_, Heap.get?_push_size _ rfl, rfl⟩ isSubtype_stop ?_
  exact wpAny_pure (hF _ (((Heap.SameBut.update ..).extBut.push _).push _))
theorem Walks.raw (hh : A.handled = none) (I d : Addr) (hne : d ≠ I) (es : Array DictEntry) (ep : Nat) :
    Walks prog w A I [I, d] [I] es.size (fun i v => ∃ e, es[i]? = some e ∧ v = e.key) (fun i h => h.IsKeyIter I d i es.size ep ∧ RawD h d es ep) where
  sub := fun b hb => List.mem_cons.mpr (.inl (List.mem_singleton.mp hb))
  frame := fun _ _ _ st hk => ⟨st.1.at fun o e => hk I List.mem_cons_self o e, st.2.at fun o e => hk d (List.mem_cons_of_mem _ List.mem_cons_self) o e⟩
  item := fun i s Q E hi st hQ => raw_item st.1 st.2 hi fun h' new sb => hQ _ h' s.toks ⟨es[i], Array.getElem?_eq_getElem hi, rfl⟩ ⟨new, st.2.at fun o e => sb.extBut d o hne e⟩ fun b o hb e => sb.extBut b o (fun z => hb (List.mem_singleton.mpr z)) e
  done := fun s Q E st hQ => raw_end hh st.1 st.2 (Nat.le_refl _) fun h' eb => hQ h' s.toks fun b o hb e => eb b o (fun z => hb (List.mem_singleton.mpr z)) e
  self := fun _ _ _ _ st q => wpAny_pyIter_keyiter st.1 q
theorem kdl_raw {d : Addr} {es : Array DictEntry} {ep : Nat} (lo : (d == sysModules) = false) : PySem.W.KdlSrc prog w "dict" d d es.size (fun i v => ∃ e, es[i]? = some e ∧ v = e.key) (fun h => RawD h d es ep) where
  type := fun _ hm => let ⟨o, e, x, _⟩ := hm; ⟨o, e, x.1⟩
  there := fun _ hm => ⟨hm.lt, hm.lt⟩
  keep := fun _ _ hm hk => hm.at fun o e => hk d (.inl rfl) o e
  notList := by decide
  notTuple := by decide
  hint := fun _ _ _ _ hm hq => PySem.W.kdl_hint_dict (let ⟨o, e, x, _⟩ := hm; ⟨o, e, x.1⟩) hq
  iter := fun _ _ hh hm => ⟨_, _, (fun _ _ hq => raw_iter lo hm hq), Walks.raw hh _ d (Nat.ne_of_lt hm.lt) es ep, ⟨⟨_, Heap.get?_push_size _ rfl, rfl, rfl⟩, hm.at fun o e => Heap.get?_push_of_some _ e⟩⟩
end
end L2
namespace L2
open PySem PySem.Spec PyProof.Rows
section
variable {X : Cx}
/-- list(d) of a dict whose keys are tuples: the keys as they lie -/
theorem call_list_dT (hc : X.calm = true) : CallR X (.type "list") (fun xs H Q => ∃ a kvs, xs = [.ref a] ∧ H a = some (.dT kvs) ∧
    ∀ (ks : List Addr) l, H l = none → Paired (fun (p : List Key × V) (k : Addr) => H k = some (.tup (p.1.map kV))) kvs ks → Q (.ref l) (upd H l (.lst (ks.map V.ref)))) := by
  intro pins s σ H xs us Q I r h
  obtain ⟨a, kvs, rfl, ha, q⟩ := h
  obtain ⟨u, rfl, ru⟩ := vals1 r
  cases ru
  obtain ⟨z, hd, ys, rel, o, es, ep, e, ex, dt, eqs, _⟩ := I.hok a _ ha
  have hlen : es.size = ys.length := by
    have := congrArg List.length eqs
    rw [List.length_map] at this
    simpa using this
  have hl2 : kvs.length = ys.length := Paired.length rel
  refine PySem.W.kdl_call (kdl_raw hd) (I.ok.hd hc) ⟨o, e, ex, dt⟩ (by rw [hlen, ← hl2]; exact z) fun h' tk acc' c' hk hD hacc => ?_
  have eacc : acc'.toList = ys.map fun y => Value.ref y.2.1 := by
    apply List.ext_getElem?
    intro j
    rw [List.getElem?_map]
    by_cases hj : j < ys.length
    · have hj2 : j < acc'.size := by rw [hacc.1, hlen]; exact hj
      obtain ⟨en, hen, hv⟩ := hacc.2 j acc'[j] (Array.getElem?_eq_getElem hj2)
      have e1 : es.toList[j]? = some en := by rw [← hen]; simp
      rw [eqs, List.getElem?_map, List.getElem?_eq_getElem hj] at e1
      have e2 := Option.some.inj e1
      rw [show acc'.toList[j]? = some acc'[j] by simp [hj2], hv, ← e2, List.getElem?_eq_getElem hj]
      rfl
    · rw [List.getElem?_eq_none (by rw [Array.length_toList, hacc.1, hlen]; omega), List.getElem?_eq_none (by omega)]
      rfl
  have rk : ∀ {kvs : List (List Key × V)} {ys : List (List Key × Addr × Value)}, Paired (fun (p : List Key × V) (q : List Key × Addr × Value) => p.1 = q.1 ∧ H q.2.1 = some (.tup (p.1.map kV)) ∧ RelV p.2 q.2.2) kvs ys →
      Paired (fun (p : List Key × V) (k : Addr) => H k = some (.tup (p.1.map kV))) kvs (ys.map fun y => y.2.1) := fun {kvs ys} p => by
    induction p with
    | nil => exact .nil
    | cons h _ ih => exact .cons h.2.1 ih
  have vr : ∀ ks : List Addr, Vals (ks.map V.ref) (ks.map Value.ref) := fun ks => by
    induction ks with
    | nil => exact .nil
    | cons k ks ih => exact .cons rfl ih
  refine ⟨.ref s.heap.objs.size, _, I.laid (o := .lst ((ys.map fun y => y.2.1).map V.ref)) hk (Nat.le_refl _) ?_, rfl, q _ _ (I.hok.fresh (Nat.le_refl _)) (rk rel)⟩
  refine ⟨by rw [List.length_map, List.length_map, ← hl2]; exact z, _, c', vr _, ?_⟩
  rw [hD, show acc' = ((ys.map fun y => y.2.1).map Value.ref).toArray from by rw [List.map_map, ← Array.toArray_toList (xs := acc'), eacc]; rfl]
end
end L2
/-! kinds as trees: the mathematics, and how a kind lies on the abstract heap -/
namespace Kk
open PySem L2
inductive Kd where
  | num (n : Int)
  | name (q t : Str)
  | pair (a b : Kd)
  deriving DecidableEq
def Kd.words : Kd → Nat
  | .num _ => 1
  | .name _ _ => 1
  | .pair a b => 1 + a.words + b.words
def Kd.leaves : Kd → List Kd
  | .num n => [.num n]
  | .name q t => [.name q t]
  | .pair a b => a.leaves ++ b.leaves
def Kd.leaf : Kd → Bool
  | .pair _ _ => false
  | _ => true
theorem words_leaves : ∀ k : Kd, k.words + 1 = 2 * k.leaves.length
  | .num _ => rfl
  | .name _ _ => rfl
  | .pair a b => by
    have h1 := words_leaves a
    have h2 := words_leaves b
    show 1 + a.words + b.words + 1 = 2 * (a.leaves ++ b.leaves).length
    rw [List.length_append]
    omega
theorem leaves_pos : ∀ k : Kd, 0 < k.leaves.length
  | .num _ => Nat.zero_lt_one
  | .name _ _ => Nat.zero_lt_one
  | .pair a b => by
    have h1 := leaves_pos a
    show 0 < (a.leaves ++ b.leaves).length
    rw [List.length_append]
    omega
theorem leaves_of_leaf {k : Kd} (h : k.leaf = true) : k.leaves = [k] := by
  cases k with
  | num _ => rfl
  | name _ _ => rfl
  | pair _ _ => cases h
/-- a kind lies at v -/
inductive KdAt (K : PySem.W.Frag) (H : Hp) : V → Kd → Prop
  | num {a : Addr} {n : Int} : SqT K H a [.str "num", .int n] → KdAt K H (.ref a) (.num n)
  | name {a : Addr} {q t : Str} : SqT K H a [.str "name", .str q, .str t] → KdAt K H (.ref a) (.name q t)
  | pair {a : Addr} {x y : V} {k l : Kd} : SqT K H a [.str "pair", x, y] → KdAt K H x k → KdAt K H y l → KdAt K H (.ref a) (.pair k l)
theorem KdAt.same {K : PySem.W.Frag} {H H' : Hp} (e : Same H H') : ∀ {x : V} {k : Kd}, KdAt K H x k → KdAt K H' x k
  | _, _, .num h => .num (e.tup h)
  | _, _, .name h => .name (e.tup h)
  | _, _, .pair h a b => .pair (e.tup h) (a.same e) (b.same e)
inductive KdsAt (K : PySem.W.Frag) (H : Hp) : List V → List Kd → Prop
  | nil : KdsAt K H [] []
  | cons {x : V} {k : Kd} {xs : List V} {ks : List Kd} : KdAt K H x k → KdsAt K H xs ks → KdsAt K H (x :: xs) (k :: ks)
theorem KdsAt.same {K : PySem.W.Frag} {H H' : Hp} (e : Same H H') : ∀ {xs : List V} {ks : List Kd}, KdsAt K H xs ks → KdsAt K H' xs ks
  | _, _, .nil => .nil
  | _, _, .cons a b => .cons (a.same e) (b.same e)
theorem KdsAt.length {K : PySem.W.Frag} {H : Hp} : ∀ {xs : List V} {ks : List Kd}, KdsAt K H xs ks → xs.length = ks.length
  | _, _, .nil => rfl
  | _, _, .cons _ b => congrArg (· + 1) b.length
theorem KdsAt.append {K : PySem.W.Frag} {H : Hp} : ∀ {xs ys : List V} {ks ls : List Kd}, KdsAt K H xs ks → KdsAt K H ys ls → KdsAt K H (xs ++ ys) (ks ++ ls)
  | _, _, _, _, .nil, h => h
  | _, _, _, _, .cons a b, h => .cons a (b.append h)
theorem KdsAt.get {K : PySem.W.Frag} {H : Hp} : ∀ {xs : List V} {ks : List Kd} {i : Nat} {x : V}, KdsAt K H xs ks → xs[i]? = some x → ∃ k, ks[i]? = some k ∧ KdAt K H x k
  | _, _, _, _, .nil, e => by simp at e
  | _, _, 0, _, .cons a _, e => by
    obtain rfl := Option.some.inj e
    exact ⟨_, rfl, a⟩
  | _, _, i + 1, x, .cons _ b, e => KdsAt.get (i := i) b e
theorem KdsAt.take {K : PySem.W.Frag} {H : Hp} : ∀ {xs : List V} {ks : List Kd} (n : Nat), KdsAt K H xs ks → KdsAt K H (xs.take n) (ks.take n)
  | _, _, 0, _ => .nil
  | _, _, _ + 1, .nil => .nil
  | _, _, n + 1, .cons a b => .cons a (b.take n)
theorem KdsAt.drop {K : PySem.W.Frag} {H : Hp} : ∀ {xs : List V} {ks : List Kd} (n : Nat), KdsAt K H xs ks → KdsAt K H (xs.drop n) (ks.drop n)
  | _, _, 0, h => h
  | _, _, _ + 1, .nil => .nil
  | _, _, n + 1, .cons _ b => b.drop n
end Kk
namespace L2
open PySem PySem.Spec PyProof.Rows
/-! ### exceptions: how one lies behind a call, how it is made, how it leaves a frame -/
section
variable {P : Program} {w : World}
theorem ObjOk.there {H : Hp} {h : Heap} {a : Addr} {o : HO} (x : ObjOk P w H h a o) : ∃ u, h.get? a = some u := by
  cases o with
  | lst xs => obtain ⟨_, _, _, _, e⟩ := x; exact ⟨_, e⟩
  | tup xs => obtain ⟨_, _, _, ob, e, _⟩ := x; exact ⟨_, e⟩
  | dK kvs => obtain ⟨_, _, _, _, o, _, _, e, _⟩ := x; exact ⟨_, e⟩
  | dT kvs => obtain ⟨_, _, _, _, o, _, _, e, _⟩ := x; exact ⟨_, e⟩
  | set S n => obtain ⟨o, _, _, _, e, _⟩ := x; exact ⟨_, e⟩
  | ins C dx fs => obtain ⟨_, _, _, e, _⟩ := x; exact ⟨_, e⟩
  | own y => exact x
  | xd fs => obtain ⟨_, ⟨_, _, _, e, _⟩, _⟩ := x; exact ⟨_, e⟩
  | rng lo hi => obtain ⟨_, _, _, e⟩ := x; exact ⟨_, e⟩
  | frz ob u => obtain ⟨e, _⟩ := x; exact ⟨_, e⟩
  | tbl ps => exact ⟨_, (show h.get? a = some _ from x)⟩
  | met f y => exact ⟨_, (show h.get? a = some _ from x)⟩
  | ext φ => obtain ⟨_, e, _⟩ := x; exact e
/-- an exception x of class cls flies behind a call: H, s ahead of the call, H', s' behind it. What the callers have, and what is tracked, stands in a heap B that nothing of the flight touches -/
structure Fly (P : Program) (w : World) (outer : List Env) (H : Hp) (s : Shared) (x : Addr) (cls : Value) (H' : Hp) (s' : Shared) : Prop where
  os : s'.os = s.os
  bare : AllBare s'.gens
  un : Un (frs outer) [] H H' s.heap s'.heap
  hok : HOk P w H' s'.heap
  fl : ∃ B a0, Heap.FlyingW B outer x cls a0 s'.heap ∧ (∀ b o, H' b = some o → ∃ u, B.get? b = some u) ∧ ∀ b o, s.heap.get? b = some o → b ∉ frs outer → ∃ u, B.get? b = some u
  free : H' x = none
def CX1 (P : Program) (w : World) : CXT := fun outer H s E e s' => ∃ x cls H', e = .ref x ∧ Fly P w outer H s x cls H' s' ∧ E cls none H'
end
section
variable {X : Cx} {pins : List (Addr × Obj)} {σ : St} {H H' : Hp} {s s' : Shared} {x : Addr} {cls : Value} {E : Value → Shared → Prop} {Q : Unit → Shared → Prop}
theorem Inv.notSt (I : Inv X pins σ H s) {b : Addr} (h1 : b ≠ X.env.locals) (h2 : b ∉ X.fs) : b ∉ frs X.stack := fun z => (List.mem_cons.mp (I.stkSub b z)).elim h1 h2
theorem Inv.oldL (I : Inv X pins σ H s) {b : Addr} {o : Obj} (e : X.s₀.heap.get? b = some o) : b ≠ X.env.locals := Nat.ne_of_lt (Nat.lt_of_lt_of_le (Heap.lt_size e) I.ok.above)
theorem Fly.leave (I : Inv X pins σ H s) (hst : X.stack = X.env :: X.outer) (hfr : X.env.frame = some X.env.locals) (hex : X.ex = []) (f : Fly X.prog X.w X.stack H s x cls H' s')
    (hQ : ∀ s'', Fly X.prog X.w X.outer X.H₀ X.s₀ x cls H' s'' → Q () s'') : wpAny (model X.prog X.w) X.A (leaving X.env (.ref x)) Q E s' := by
  obtain ⟨B, a0, fl, c1, c2⟩ := f.fl
  rw [hst] at fl
  have nx : ∀ b : Addr, b ∉ X.ex := fun b => by rw [hex]; simp
  refine wpAny_leaves_onW (by rw [I.ok.frames, hst]) hfr fl fun h' fl' up => hQ _ ?_
  have st : ∀ b o, B.get? b = some o → h'.get? b = some o := fl'.1
  have same : ∀ b u v, B.get? b = some u → s'.heap.get? b = some v → u = v := fun b u v h1 h2 => by
    have h3 := fl.1 b u h1
    rw [h2] at h3
    exact (Option.some.inj h3).symm
  have slot : ∀ b o, X.s₀.heap.get? b = some o → X.H₀ b = none → b ∈ X.fs → ∃ sl, h'.get? b = some { o with slots := sl } := fun b o e n hb => by
    obtain ⟨sl, e1⟩ := I.base.slot b o e n hb (nx b)
    obtain ⟨sl2, e2⟩ := f.un.any e1 (I.base.free b o e n (nx b)) (by simp)
    obtain ⟨_, of, ho, hnf⟩ := I.ok.funs.mem hb
    rw [e] at ho
    cases ho
    obtain ⟨sl3, e3⟩ := up b _ e2 hnf
    exact ⟨sl3, e3⟩
  refine ⟨f.os.trans I.os, f.bare, ⟨fun b o e n hb _ => ?_, fun b o e n hb _ => slot b o e n hb, fun b o e n _ => ?_, fun b o e _ => ?_, fun b xs e => f.un.tups b xs (I.base.tups b xs e), fun b o u e => f.un.frzs b o u (I.base.frzs b o u e), fun b ps e => ?_⟩, fun a o e => ?_, ⟨B, a0, fl', c1, fun b o e hb => ?_⟩, f.free⟩
  · have e1 := I.base.keep b o e n hb (nx b)
    have n1 := I.base.free b o e n (nx b)
    have hb' := I.notSt (I.oldL e) hb
    have e2 := f.un.keep b o e1 n1 hb' (by simp)
    obtain ⟨u, hu⟩ := c2 b o e1 hb'
    exact same b u o hu e2 ▸ st b u hu
  · obtain ⟨o', e1⟩ := I.base.there b o e (nx b)
    exact f.un.free b o' e1 (I.base.free b o e n (nx b)) (by simp)
  · by_cases hb : b ∈ X.fs
    · obtain ⟨sl, e1⟩ := slot b o e (I.ok.frf b hb) hb
      exact ⟨_, e1⟩
    · obtain ⟨o', e1⟩ := I.base.there b o e (nx b)
      obtain ⟨u, hu⟩ := c2 b o' e1 (I.notSt (I.oldL e) hb)
      exact ⟨u, st b u hu⟩
  · obtain ⟨m1, e1⟩ := I.base.tbls b ps e
    obtain ⟨m2, e2⟩ := f.un.tbls b _ e1
    exact ⟨m1 ++ m2, by rw [e2, Array.append_assoc]⟩
  · refine (f.hok a o e).stay (fun b u hb q => ?_) (fun _ q => q) fun _ _ q => q
    have t : ∃ o', H' b = some o' := by
      rcases hb with z | z
      · exact ⟨o, by rw [z]; exact e⟩
      · exact ⟨_, z⟩
    obtain ⟨o', e'⟩ := t
    obtain ⟨v, hv⟩ := c1 b o' e'
    exact same b v u hv q ▸ st b v hv
  · obtain ⟨o', e1⟩ := I.base.there b o e (nx b)
    exact c2 b o' e1 (I.notSt (I.oldL e) hb)
/-- just made, it leaves the frame that raised it -/
theorem Fly.made {h1 : Heap} {vs : List Value} (I : Inv X pins σ H s) (hst : X.stack = X.env :: X.outer) (hfr : X.env.frame = some X.env.locals) (hex : X.ex = []) (hx : Heap.MadeExcOf s.heap h1 x cls vs)
    (hQ : ∀ s'', Fly X.prog X.w X.outer X.H₀ X.s₀ x cls H s'' → Q () s'') : wpAny (model X.prog X.w) X.A (leaving X.env (.ref x)) Q E { s with heap := h1 } := by
  have nx : ∀ b : Addr, b ∉ X.ex := fun b => by rw [hex]; simp
  have hl : s.heap.FunFrames (PySem.W.hideAll s.heap (frs X.stack)) (X.env :: X.outer) :=
    PySem.W.funFrames_hide (base := X.base) (by rw [← hst]; exact I.stack) fun env he a hf => by
      rw [hst]
      exact List.mem_filterMap.mpr ⟨env, he, hf⟩
  refine wpAny_leaves_madeW (h := s.heap) (by rw [I.ok.frames, hst]) hfr (fun b o q => PySem.W.of_hideAll _ q) hl hx fun h' t fl _ _ up => hQ _ ?_
  have st : ∀ b o, s.heap.get? b = some o → b ∉ frs X.stack → h'.get? b = some o := fun b o e hb => fl.1 b o (PySem.W.hideAll_get _ e hb)
  have slot : ∀ b o, X.s₀.heap.get? b = some o → X.H₀ b = none → b ∈ X.fs → ∃ sl, h'.get? b = some { o with slots := sl } := fun b o e n hb => by
    obtain ⟨sl, e1⟩ := I.base.slot b o e n hb (nx b)
    have e2 := hx.keeps b _ e1
    obtain ⟨_, of, ho, hnf⟩ := I.ok.funs.mem hb
    rw [e] at ho
    cases ho
    obtain ⟨sl3, e3⟩ := up b _ e2 hnf
    exact ⟨sl3, e3⟩
  have trk : ∀ b o, H b = some o → b ∉ frs X.stack := fun b o e z => by rw [I.stkFree b z] at e; cases e
  refine ⟨I.os, I.bare, ⟨fun b o e n hb _ => st b o (I.base.keep b o e n hb (nx b)) (I.notSt (I.oldL e) hb), fun b o e n hb _ => slot b o e n hb, fun b o e n _ => I.base.free b o e n (nx b), fun b o e _ => ?_, I.base.tups, I.base.frzs, I.base.tbls⟩, fun a o e => ?_, ⟨_, _, fl, fun b o e => ?_, fun b o e hb => ?_⟩, ?_⟩
  · by_cases hb : b ∈ X.fs
    · obtain ⟨sl, e1⟩ := slot b o e (I.ok.frf b hb) hb
      exact ⟨_, e1⟩
    · obtain ⟨o', e1⟩ := I.base.there b o e (nx b)
      exact ⟨o', st b o' e1 (I.notSt (I.oldL e) hb)⟩
  · refine (I.hok a o e).stay (fun b u hb q => st b u q ?_) (fun _ q => q) fun _ _ q => q
    rcases hb with z | z
    · rw [z]; exact trk a o e
    · exact trk b _ z
  · obtain ⟨u, hu⟩ := (I.hok b o e).there
    exact ⟨u, PySem.W.hideAll_get _ hu (trk b o e)⟩
  · obtain ⟨o', e1⟩ := I.base.there b o e (nx b)
    exact ⟨o', PySem.W.hideAll_get _ e1 (I.notSt (I.oldL e) hb)⟩
  · cases q : H x with
    | none => rfl
    | some o =>
      obtain ⟨u, hu⟩ := (I.hok x o q).there
      have := hx.new
      rw [hu] at this
      cases this
end
section
variable {P : Program} {w : World} {K : PySem.W.Frag} {mg : Str → Option Value} {base : Heap} {N : List Str} {qual : Str} {scope : Scope} {f : Addr} {cd : Value} {A : Around} {outer : List Env} {s : Shared} {H : Hp} {E : XK}
/-- an exception of a callee leaves this def too -/
theorem pass1 : Passes (CX1 P w) (cxOf (CX1 P w) P w K mg base N qual scope f cd A outer s H E) E := fun pins σ H1 s1 e s' I h => by
  obtain ⟨x, cls, H', rfl, fl, hE⟩ := h
  exact Fly.leave I rfl rfl rfl fl fun s'' g => ⟨x, cls, H', rfl, g, hE⟩
theorem pass1' {E' : XK} (hE : ∀ c d H', E' c d H' → E c d H') : Passes (CX1 P w) (cxOf (CX1 P w) P w K mg base N qual scope f cd A outer s H E) E' := fun pins σ H1 s1 e s' I h => by
  obtain ⟨x, cls, H', rfl, fl, q⟩ := h
  exact Fly.leave I rfl rfl rfl fl fun s'' g => ⟨x, cls, H', rfl, g, hE _ _ _ q⟩
end
/-! ### raise -/
theorem ownExc_of {K : PySem.W.Frag} {h : Heap} {mg : Str → Option Value} {c : Str} {C : Addr} {bmB : List Value} {newId : String} (kin : K.In h) (hm : mg c = some (.ref C)) (q : PySem.W.excIn K C bmB newId = true) : OwnCls c C bmB newId mg h := by
  refine ⟨hm, ?_⟩
  unfold PySem.W.excIn at q
  split at q
  next ddx cdx slx look =>
    split at q
    next C2 tl z0 z1 z2 z3 nn z5 hmro hsl =>
      simp only [Bool.not_eq_true', Bool.and_eq_true, beq_iff_eq] at q
      obtain ⟨⟨⟨⟨⟨e1, e2⟩, hdel⟩, htl⟩, hok⟩, hni⟩ := q
      obtain ⟨nm, bs, mro, ns, qn, hd, sn, sub, ab, col, del⟩ := cdx
      obtain ⟨sll⟩ := slx
      dsimp only at hmro hdel hok hni hsl
      subst e1 e2 hmro hdel hsl
      exact ⟨tl, ns, nm, qn, bs, hd, sn, sub, ab, col, ddx, z0, z1, z2, z3, z5, _, kin _ _ look, .of_isNs (PySem.W.isNs_of_in kin hok), PySem.W.nsMap_none_of_in kin hok hni, PySem.W.tail_of_in kin htl⟩
    next => cases q
  next => cases q
abbrev bmVE : List Value := [.type "ValueError", .type "Exception", .type "BaseException", .type "object"]
/-- raise C(..), C an own class under ValueError without an __init__ -/
theorem ps_raise {X : Cx} {c : Str} {C : Addr} {e₀ : Expr} {es : List Expr} {np cpos pos : Pos} {ta : TA} {W : St → Hp → Prop} (hc : X.calm = true) (hg : Gl X c) (hm : X.mg c = some (.ref C)) (q : PySem.W.excIn X.K C bmVE "ValueError.__new__" = true)
    (ha : PA X (e₀ :: es) ta) (hW : ∀ (pins : List (Addr × Obj)) (σ : St) (H : Hp) (s : Shared) (e : Addr) (h1 : Heap) (vs : List Value), Inv X pins σ H s → W σ H → Heap.MadeExcOf s.heap h1 e (.ref C) vs → X.xe (.ref e) { s with heap := h1 })
    (hd : (c == ("__debug__" : Str)) = false := by decide) (he : starEach (e₀ :: es) X.env = (false, eval e₀ X.env) :: starEach es X.env := by rfl) (hpl : (backTo cpos (starEach es X.env)).any (·.1) = false := by rfl) :
    PS X (.Raise (some (.Call (.Name c np) (e₀ :: es) [] cpos)) none pos) (fun _ σ H => ta σ H fun vs H1 => vs.length ≤ sizeLine ∧ W σ H1) := by
  intro pins s σ H D I h
  obtain ⟨tl, N, nm, qq, bs, hdct, sn, sub, ab, col, dd, k0, k1, k2, k3, k5, mN, hC, hN, hni, T⟩ := (ownExc_of I.mod.kin hm q).obj
  refine wpAny_Raise_call_subU (C := C) (nm := nm) (q := qq) (N := N) (bs := bs) (bm := tl) (hdct := hdct) (sn := sn) (sub := sub) (ab := ab) (col := col) (dd := dd) (k0 := k0) (k1 := k1) (k2 := k2) (k3 := k3) (k5 := k5)
    PySem.F.excBase_ValueError (by decide +kernel) PySem.F.excBase_ValueError (mN := mN) (T.hasType PySem.F.excBase_ValueError.hasBase) (I.ok.hd hc) ?_ hni (ld_glob I hg hm ⟨rfl, ?_⟩ hd)
  · rw [he]
    show (false || (backTo cpos (starEach es X.env)).any (·.1)) = false
    rw [hpl]
    rfl
  · have h2 := ha cpos pins s σ H _ I h
    rw [he] at h2 ⊢
    refine Calls.evalArgs_plain (wpAny_mono h2 (fun us s2 ⟨vs, H1, I1, rv, hl, hw⟩ => ⟨rfl, ?_, I1.bk _ _ hC, hN.keeps I1.bk, T.keeps I1.bk, fun h' e hx => hW pins σ H1 s2 e h' us I1 hw hx⟩) fun _ _ z => z)
    rw [← rv.length]
    exact hl
section
variable {P : Program} {w : World} {K : PySem.W.Frag} {mg : Str → Option Value} {base : Heap}
theorem ps_raise1 {N : List Str} {qual : Str} {scope : Scope} {f : Addr} {cd : Value} {A : Around} {outer : List Env} {s : Shared} {H : Hp} {E : XK} {c : Str} {C : Addr} {e₀ : Expr} {es : List Expr} {np cpos pos : Pos} {ta : TA}
    (hg : Gl (cxOf (CX1 P w) P w K mg base N qual scope f cd A outer s H E) c) (hm : mg c = some (.ref C)) (q : PySem.W.excIn K C bmVE "ValueError.__new__" = true) (ha : PA (cxOf (CX1 P w) P w K mg base N qual scope f cd A outer s H E) (e₀ :: es) ta)
    (hd : (c == ("__debug__" : Str)) = false := by decide) (he : starEach (e₀ :: es) (envOfC qual scope s.heap.objs.size f cd) = (false, eval e₀ (envOfC qual scope s.heap.objs.size f cd)) :: starEach es (envOfC qual scope s.heap.objs.size f cd) := by rfl)
    (hpl : (backTo cpos (starEach es (envOfC qual scope s.heap.objs.size f cd))).any (·.1) = false := by rfl) :
    PS (cxOf (CX1 P w) P w K mg base N qual scope f cd A outer s H E) (.Raise (some (.Call (.Name c np) (e₀ :: es) [] cpos)) none pos) (fun _ σ H => ta σ H fun vs H1 => vs.length ≤ sizeLine ∧ E (.ref C) none H1) :=
  ps_raise (X := cxOf (CX1 P w) P w K mg base N qual scope f cd A outer s H E) (W := fun _ H1 => E (.ref C) none H1) rfl hg hm q ha (fun pins σ H s e h1 vs I hw hx => Fly.made I rfl rfl rfl hx fun s'' g => ⟨e, .ref C, H, rfl, g, hw⟩) hd he hpl
/-- THE RULE for a def that may raise -/
theorem Fun.okX {x qual : Str} {st : Stmt} {f : Addr} {fd : FuncData} {N ps : List Str} {k : Nat} {sp : Sp} (F : Fun K x qual st f fd) (S : FnScope N ps (defScope st)) (len : ∀ vs H Q E, sp vs H Q E → vs.length = ps.length)
    (hbody : ∀ (cdv : Value) (A : Around) (outer : List Env) (s : Shared) (H : Hp) (vs : List V) (Q : VK) (E : XK), Room k (A.deeper (envOfC qual (defScope st) s.heap.objs.size f cdv)) → sp vs H Q E →
      ∃ t, PSs (cxOf (CX1 P w) P w K mg base N qual (defScope st) f cdv A outer s H E) (defBody st) t ∧ t { nx := fun _ H' => Q .non H', rt := Q } (start N vs) H) : FnOk P w K mg base (CX1 P w) (k + 1) f fd ps sp := by
  obtain ⟨oc, od, kV, doc, pm, an, cdv, ct, osl, rfl, lk, hcd⟩ := F.ex
  exact fn_of lk hcd S len fun A outer s H vs Q E hr hsp => hbody cdv A outer s H vs Q E hr hsp
end
end L2
namespace L2
open PySem PySem.Spec PyProof.Rows
/-! ### try: what flies is looked at, lands, is handled -/
section
variable {X : Cx} {pins : List (Addr × Obj)} {σ : St} {H H' : Hp} {s s' : Shared} {x : Addr} {cls : Value}
/-- still flying: the frames' slots and the flight's own records may have changed -/
theorem Fly.on {h' : Heap} (f : Fly X.prog X.w X.stack H s x cls H' s') (I : Inv X pins σ H s) {B : Heap} {a0 a1 : Value} (fl : Heap.FlyingW B X.stack x cls a0 s'.heap) (c1 : ∀ b o, H' b = some o → ∃ u, B.get? b = some u)
    (c2 : ∀ b o, s.heap.get? b = some o → b ∉ frs X.stack → ∃ u, B.get? b = some u) (fl' : Heap.FlyingW B X.stack x cls a1 h') (up : s'.heap.UpToSlots h') : Fly X.prog X.w X.stack H s x cls H' { s' with heap := h' } := by
  have st : ∀ b o, B.get? b = some o → h'.get? b = some o := fl'.1
  have same : ∀ b u v, B.get? b = some u → s'.heap.get? b = some v → u = v := fun b u v h1 h2 => by
    have h3 := fl.1 b u h1
    rw [h2] at h3
    exact (Option.some.inj h3).symm
  have slot : ∀ b o, s.heap.get? b = some o → H b = none → b ∈ frs X.stack → ∃ sl, h'.get? b = some { o with slots := sl } := fun b o e n hb => by
    obtain ⟨sl2, e2⟩ := f.un.any e n (by simp)
    obtain ⟨_, of, ho, hnf⟩ := I.stack.mem hb
    rw [e] at ho
    cases ho
    obtain ⟨sl3, e3⟩ := up b _ e2 hnf
    exact ⟨sl3, e3⟩
  refine ⟨f.os, f.bare, ⟨fun b o e n hb _ => ?_, fun b o e n hb _ => slot b o e n hb, f.un.free, fun b o e _ => ?_, f.un.tups, f.un.frzs, f.un.tbls⟩, fun a o e => ?_, ⟨B, a1, fl', c1, c2⟩, f.free⟩
  · have e2 := f.un.keep b o e n hb (by simp)
    obtain ⟨u, hu⟩ := c2 b o e hb
    exact same b u o hu e2 ▸ st b u hu
  · by_cases hb : b ∈ frs X.stack
    · obtain ⟨sl, e1⟩ := slot b o e (I.stkFree b hb) hb
      exact ⟨_, e1⟩
    · obtain ⟨u, hu⟩ := c2 b o e hb
      exact ⟨u, st b u hu⟩
  · refine (f.hok a o e).stay (fun b u hb q => ?_) (fun _ q => q) fun _ _ q => q
    have t : ∃ o', H' b = some o' := by
      rcases hb with z | z
      · exact ⟨o, by rw [z]; exact e⟩
      · exact ⟨_, z⟩
    obtain ⟨o', e'⟩ := t
    obtain ⟨v, hv⟩ := c1 b o' e'
    exact same b v u hv q ▸ st b v hv
theorem Fly.inv (f : Fly X.prog X.w X.stack H s x cls H' s') (I : Inv X pins σ H s) : Inv X pins σ H' s' := I.call' (ch := []) f.os f.un f.hok f.bare fun b z => absurd z (by simp)
theorem Fly.there (f : Fly X.prog X.w X.stack H s x cls H' s') : ∃ ob, s'.heap.get? x = some ob ∧ ob.cls = cls := by
  obtain ⟨B, a0, fl, _⟩ := f.fl
  exact fl.there
theorem Fly.again {A : Around} {E : Value → Shared → Prop} {Q : Unit → Shared → Prop} (f : Fly X.prog X.w X.stack H s x cls H' s') (I : Inv X pins σ H s) (hQ : ∀ s'', Fly X.prog X.w X.stack H s x cls H' s'' → Q () s'') :
    wpAny (model X.prog X.w) A (setFlight (.ref x) none) Q E s' := by
  obtain ⟨B, a0, fl, c1, c2⟩ := f.fl
  exact lands_againW fl fun h' fl' up => hQ _ (f.on I fl c1 c2 fl' up)
theorem Fly.look {E E2 : Value → Shared → Prop} {Q : Unit → Shared → Prop} (f : Fly X.prog X.w X.stack H s x cls H' s') (I : Inv X pins σ H s) (hst : X.stack = X.env :: X.outer) (hfr : X.env.frame = some X.env.locals)
    (hQ : ∀ s'', Fly X.prog X.w X.stack H s x cls H' s'' → Q () s'') : wpAny (model X.prog X.w) X.A (noteFrame (.ref x) X.env) (fun _ s2 => wpAny (model X.prog X.w) X.A (setFlight (.ref x) none) Q E2 s2) E s' := by
  obtain ⟨B, a0, fl, c1, c2⟩ := f.fl
  have fl0 := fl
  rw [hst] at fl
  refine wpAny_looks_onW (by rw [I.ok.frames, hst]) hfr fl fun h' hd up => ?_
  refine wpAny_landsW hd fun h2 fl2 up2 => ?_
  rw [← hst] at fl2
  exact hQ _ (f.on I fl0 c1 c2 fl2 (up.trans up2))
end
/-! ### the context within an except suite; within a try -/
abbrev Cx.inE (X : Cx) (e : Addr) : Cx := { X with A := X.A.mark (some (.ref e)), calm := false }
section
variable {X : Cx} {pins : List (Addr × Obj)} {σ : St} {H : Hp} {s : Shared}
theorem Cx.Ok.inE {e : Addr} (ok : X.Ok) : (X.inE e).Ok := ⟨ok.mod, ok.kind, ok.glob, ok.blt, ok.above, ok.inj, ok.has, ok.cab, fun z => absurd z (by simp), ok.frames, ok.stk, ok.exf, ok.bs, ok.bsz, ok.noex, ok.exfs, ok.funs, ok.frf⟩
theorem Inv.inE {e : Addr} (I : Inv X pins σ H s) : Inv (X.inE e) pins σ H s := ⟨I.ok.inE, I.os, I.bare, I.base, I.loc, I.cell, I.free, I.freeC, I.pin, I.hok, I.len⟩
theorem Inv.outE {e : Addr} {E : Value → Shared → Prop} (ok : X.Ok) (I : Inv ((X.inE e).wish E) pins σ H s) : Inv X pins σ H s := ⟨ok, I.os, I.bare, I.base, I.loc, I.cell, I.free, I.freeC, I.pin, I.hok, I.len⟩
theorem SP.outE {e : Addr} {E : Value → Shared → Prop} {D : Ends} {f : Flow} {s' : Shared} (ok : X.Ok) (h : SP ((X.inE e).wish E) pins D f s') : SP X pins D f s' := by
  cases f with
  | next => obtain ⟨σ', H', I, q⟩ := h; exact ⟨σ', H', I.outE ok, q⟩
  | brk => obtain ⟨σ', H', I, q⟩ := h; exact ⟨σ', H', I.outE ok, q⟩
  | cont => obtain ⟨σ', H', I, q⟩ := h; exact ⟨σ', H', I.outE ok, q⟩
  | ret u => obtain ⟨v, σ', H', I, r, q⟩ := h; exact ⟨v, σ', H', I.outE ok, r, q⟩
end
abbrev TH := Ends → Value → Addr → St → Hp → Prop
def PH (X : Cx) (hs : List ExceptHandler) (t : TH) : Prop :=
  ∀ (pins : List (Addr × Obj)) (σ : St) (H H' : Hp) (s s' : Shared) (D : Ends) (cls : Value) (e : Addr), Inv X pins σ H s → Fly X.prog X.w X.stack H s e cls H' s' → t D cls e σ H' →
    wpAny (model X.prog X.w) X.A (handleBy (.ref e) X.env hs) (SP X pins D) X.xe s'
theorem ph_nil {X : Cx} : PH X [] (fun _ _ _ _ _ => False) := fun _ _ _ _ _ _ _ _ _ _ _ h => h.elim
/-- except d: suite (d a class of the text, or a built-in one), by what the class of the exception is; a suite that raises nothing -/
theorem ph_cons {X : Cx} {d : Str} {vd : Value} {np pos : Pos} {b₀ : Stmt} {suite : List Stmt} {rest : List ExceptHandler} {th : TS} {tr : TH} (hg : Gl X d) (hm : X.mg d = some vd) (hb : ∀ e, PSs (X.inE e).nox (b₀ :: suite) th) (hr : PH X rest tr)
    (hd : (d == ("__debug__" : Str)) = false := by decide) :
    PH X (.ExceptHandler (some (.Name d np)) none (b₀ :: suite) pos :: rest) (fun D cls e σ H => ∃ b, PySem.W.exmOne X.K cls vd = some b ∧ if b = true then th D σ H else tr D cls e σ H) := by
  intro pins σ H H' s s' D cls e I f h
  obtain ⟨b, hx, h⟩ := h
  have I1 := f.inv I
  obtain ⟨ob, hob, hcl⟩ := f.there
  have LT : PySem.W.Looks (model X.prog X.w) s'.heap (typeOf (.ref e)) cls := by
    rw [← hcl]
    exact (PySem.W.Looks.ld hob).andThen .now
  refine wpAny_handleBy_cons (codeAny_handlers_test (Calls.Name_function_global I1.ok.kind hg (Calls.loadGlobal_global (by rw [I1.ok.glob]; exact I1.mod.glob.keeps I1.bk) hm ?_) hd)) (by intro q; cases q)
  refine (PySem.W.exm_one I1.kIn LT hx).here ?_
  cases b with
  | false => exact hr pins σ H H' s s' D cls e I f h
  | true =>
    refine codeAny_handlers_suite (f.again I fun s2 f2 => ?_)
    have I2 := (f2.inv I).inE (e := e)
    exact wpAny_mono (hb e pins s2 σ H' D (I2.wish _) h) (fun fl s3 q => SP.outE I1.ok q) fun _ _ z => False.elim z
/-- what a try wants of an exception within it -/
def etry (X : Cx) (hs : List ExceptHandler) (pins : List (Addr × Obj)) (D : Ends) : Value → Shared → Prop := fun e s1 =>
  wpAny (model X.prog X.w) X.A (noteFrame e X.env) (fun _ s2 => wpAny (model X.prog X.w) X.A (setFlight e none) (fun _ s3 => wpAny (model X.prog X.w) X.A (handleBy e X.env hs) (SP X pins D) X.xe s3) X.xe s2) X.xe s1
abbrev Cx.tryIn (X : Cx) (hs : List ExceptHandler) (pins : List (Addr × Obj)) (D : Ends) : Cx := { X with pn := X.pn ++ pins, xe := etry X hs pins D }
section
variable {X : Cx} {hs : List ExceptHandler} {pins pins' : List (Addr × Obj)} {D D' : Ends} {σ : St} {H : Hp} {s : Shared}
theorem Cx.Ok.tryIn (ok : X.Ok) : (X.tryIn hs pins D).Ok := ⟨ok.mod, ok.kind, ok.glob, ok.blt, ok.above, ok.inj, ok.has, ok.cab, ok.hd, ok.frames, ok.stk, ok.exf, ok.bs, ok.bsz, ok.noex, ok.exfs, ok.funs, ok.frf⟩
theorem Cx.Ok.tryOut (ok : (X.tryIn hs pins D).Ok) : X.Ok := ⟨ok.mod, ok.kind, ok.glob, ok.blt, ok.above, ok.inj, ok.has, ok.cab, ok.hd, ok.frames, ok.stk, ok.exf, ok.bs, ok.bsz, ok.noex, ok.exfs, ok.funs, ok.frf⟩
theorem Inv.tryIn (I : Inv X pins σ H s) : Inv (X.tryIn hs pins D) [] σ H s := ⟨I.ok.tryIn, I.os, I.bare, I.base, I.loc, I.cell, I.free, I.freeC, fun p hp => I.pin p (by simpa using hp), I.hok, I.len⟩
theorem Inv.tryOut (I : Inv (X.tryIn hs pins D) pins' σ H s) : Inv X pins σ H s := ⟨I.ok.tryOut, I.os, I.bare, I.base, I.loc, I.cell, I.free, I.freeC, fun p hp => I.pin p (List.mem_append_left _ hp), I.hok, I.len⟩
theorem SP.tryOut {f : Flow} {s' : Shared} (h : SP (X.tryIn hs pins D') [] D f s') : SP X pins D f s' := by
  cases f with
  | next => obtain ⟨σ', H', I, q⟩ := h; exact ⟨σ', H', I.tryOut, q⟩
  | brk => obtain ⟨σ', H', I, q⟩ := h; exact ⟨σ', H', I.tryOut, q⟩
  | cont => obtain ⟨σ', H', I, q⟩ := h; exact ⟨σ', H', I.tryOut, q⟩
  | ret u => obtain ⟨v, σ', H', I, r, q⟩ := h; exact ⟨v, σ', H', I.tryOut, r, q⟩
end
/-- try: body, except ..: .. -/
theorem ps_try {X : Cx} {body : List Stmt} {h₀ : ExceptHandler} {hs : List ExceptHandler} {pos : Pos} {tb : Ends → TS} (hb : ∀ pins D, PSs (X.tryIn (h₀ :: hs) pins D) body (tb D)) : PS X (.Try body (h₀ :: hs) [] [] pos) (fun D σ H => tb D D σ H) := by
  intro pins s σ H D I h
  refine wpAny_Try_except (wpAny_mono (hb pins D [] s σ H D I.tryIn h) (fun f s1 q => ?_) fun _ _ z => z)
  have q' := SP.tryOut q
  cases f with
  | next => exact wpAny_execs_nil q'
  | brk => exact q'
  | cont => exact q'
  | ret u => exact q'
/-- an exception of a callee within a try comes to its handlers -/
theorem passT {X : Cx} {hs : List ExceptHandler} {pins : List (Addr × Obj)} {D : Ends} {th : TH} (hst : X.stack = X.env :: X.outer) (hfr : X.env.frame = some X.env.locals) (hh : PH X hs th) :
    ∀ (pins' : List (Addr × Obj)) (σ : St) (H : Hp) (s : Shared) (e : Value) (s' : Shared), Inv (X.tryIn hs pins D) pins' σ H s → CX1 X.prog X.w X.stack H s (fun cls _ H' => ∀ x, H' x = none → th D cls x σ H') e s' → (X.tryIn hs pins D).xe e s' := by
  intro pins' σ H s e s' I h
  obtain ⟨x, cls, H', rfl, f, hE⟩ := h
  have I0 : Inv X pins σ H s := I.tryOut
  exact Fly.look f I0 hst hfr fun s'' f2 => hh pins σ H H' s s'' D cls x I0 f2 (hE x f.free)
section
variable {X : Cx} {CX : CXT} {k : Nat} {f C : Addr} {fd : FuncData} {ps : List Str} {sp : Sp} {dvs : List V} {ds : List Value} {E : St → XK} {x m : Str} {p pos apos : Pos} {e o : Expr} {es : List Expr} {ta : TE} {t : TA}
/-- a call whose wish of an exception looks at the state -/
theorem pe_callE (F : FnOk X.prog X.w X.K X.mg X.base CX k f fd ps sp) (hr : Room k X.A) (hg : Gl X x) (hm : X.mg x = some (.ref f)) (hk : PySem.W.keepIn X.K (.ref f) = true) (hb : Binds X.K fd ps ds) (hd : Vals dvs ds)
    (hx : ∀ (pins : List (Addr × Obj)) (σ : St) (H : Hp) (s : Shared) (e : Value) (s' : Shared), Inv X pins σ H s → CX X.stack H s (E σ) e s' → X.xe e s') (ha : PA X (e :: es) t)
    (hdb : (x == ("__debug__" : Str)) = false := by decide) (he : starEach (e :: es) X.env = (false, eval e X.env) :: starEach es X.env := by rfl) (hpl : (backTo pos (starEach es X.env)).any (·.1) = false := by rfl) :
    PE X (.Call (.Name x p) (e :: es) [] pos) (fun σ H Q => t σ H fun vs H1 => sp (vs ++ dvs) H1 Q (E σ)) := by
  intro pins s σ H Q I h
  refine wpAny_Call_Name_kw (ld_glob I hg hm ?_ hdb)
  refine PySem.W.callWith_K (h₀ := X.base) I.ok.mod.kin hk (thn (ha pos pins s σ H _ I h) fun us s1 ⟨vs, H1, I1, r, q⟩ => ⟨I1.kIn, ?_⟩) he hpl
  have r2 : Vals (vs ++ dvs) (us ++ ds) := r.append hd
  have hl : (us ++ ds).length = ps.length := by rw [← r2.length]; exact F.len _ _ _ _ q
  refine wpAny_call (codeAny_mono (F.run X.A X.stack s1 H1 ⟨us, []⟩ (us ++ ds) (vs ++ dvs) Q (E σ) hr I1.env0 (hb s1 us I1.kIn hl) r2 q) fun r s' hq => ?_)
  cases r with
  | error e => exact hx pins σ H1 s1 e s' I1 hq
  | ok fl =>
    cases fl with
    | ret u => exact I1.after hq
    | next => exact False.elim hq
    | brk => exact False.elim hq
    | cont => exact False.elim hq
end
end L2
namespace L2
open PySem PySem.Spec PyProof.Rows
/-! ### f-strings of texts and numbers: a text comes, whichever -/
section
variable {X : Cx} {pos : Pos} {e : Expr} {es : List Expr} {te : TE}
abbrev TJ := St → Hp → (Hp → Prop) → Prop
def PJ (X : Cx) (es : List Expr) (t : TJ) : Prop :=
  ∀ (pins : List (Addr × Obj)) (s : Shared) (σ : St) (H : Hp) (acc : Str) (Z : Hp → Prop), acc.length + 100000 * es.length ≤ sizeLine → Inv X pins σ H s → t σ H Z →
    Joins (model X.prog X.w) X.A X.xe (evalEach es X.env) acc (fun out s1 => out.length ≤ sizeLine ∧ ∃ H1, Inv X pins σ H1 s1 ∧ Z H1) s
theorem pj_nil : PJ X [] (fun _ H Z => Z H) := fun _ _ _ H _ _ hz I h => ⟨Nat.le_trans (Nat.le_add_right _ _) hz, H, I, h⟩
theorem pj_cons {tj : TJ} (he : PE X e te) (hr : PJ X es tj) : PJ X (e :: es) (fun σ H Z => te σ H fun v H1 => ∃ y : Str, v = .str y ∧ y.length ≤ 100000 ∧ tj σ H1 Z) := by
  intro pins s σ H acc Z hz I h
  refine thn (he pins s σ H _ I h) fun u s1 ⟨v, H1, I1, r, y, hv, hy, q⟩ => ?_
  subst hv
  obtain ⟨t, rfl⟩ := r
  have e1 : (acc ++ y).length = acc.length + y.length := by
    show Array.size (acc.cps ++ y.cps) = _
    rw [Array.size_append]
    rfl
  have e2 : (e :: es).length = es.length + 1 := rfl
  rw [e2] at hz
  refine ⟨y, t, rfl, by omega, hr pins s1 σ H1 (acc ++ y) Z (by omega) I1 q⟩
theorem pe_fstr {v1 v2 : Expr} {rest : List Expr} {tj : TJ} (hj : PJ X (v1 :: v2 :: rest) tj) (hl : (v1 :: v2 :: rest).length ≤ 100) :
    PE X (.JoinedStr (v1 :: v2 :: rest) pos) (fun σ H Q => tj σ H fun H1 => ∀ z : Str, z.length ≤ sizeLine → Q (.str z) H1) := by
  intro pins s σ H Q I h
  have hz : Str.empty.length + 100000 * (v1 :: v2 :: rest).length ≤ sizeLine := by
    have e0 : Str.empty.length = 0 := rfl
    rw [sizeLine_eq, e0]
    rw [Nat.zero_add]
    exact Nat.le_trans (Nat.mul_le_mul_left _ hl) (Nat.le_of_ble_eq_true rfl)
  refine wpAny_JoinedStr ?_
  have j := hj pins s σ H Str.empty _ hz I h
  exact joins_mono _ _ (fun out s1 ⟨h1, H1, I1, q⟩ => ⟨h1, .str out, H1, I1.tok _, ⟨_, rfl⟩, q out h1⟩) _ j
where joins_mono {M : Model} {A : Around} {E : Value → Shared → Prop} : ∀ (parts : List (Sem Value)) (acc : Str) {Q Q' : Str → Shared → Prop}, (∀ out s, Q out s → Q' out s) → ∀ s, Joins M A E parts acc Q s → Joins M A E parts acc Q' s
  | [], acc, _, _, hq, s, h => hq _ _ h
  | x :: rest, acc, _, _, hq, s, h => thn (show wpAny _ _ _ _ _ _ from h) fun v s1 ⟨y, t, e1, e2, e3⟩ => ⟨y, t, e1, e2, joins_mono rest (acc ++ y) hq s1 e3⟩
/-- {e}: a text, or a number -/
theorem pe_fv (he : PE X e te) : PE X (.FormattedValue e (-1) none pos) (fun σ H Q => te σ H fun v H1 => (∃ y : Str, v = .str y ∧ y.length ≤ sizeLine ∧ Q (.str y) H1) ∨ ∃ i : Int, v = .int i ∧ i.natAbs.log2 < 1920 ∧ Q (.str (toString i)) H1) := by
  intro pins s σ H Q I h
  refine FormattedValue_plain (thn (he pins s σ H _ I h) fun u s1 ⟨v, H1, I1, r, q⟩ => ?_)
  rcases q with ⟨y, rfl, hy, q⟩ | ⟨i, rfl, hi, q⟩
  · obtain ⟨t, rfl⟩ := r
    exact formatField_str (fun t' tk => ⟨.str y, H1, I1.tok _, ⟨_, rfl⟩, q⟩) hy
  · obtain ⟨t, rfl⟩ := r
    exact formatField_int_small hi ⟨.str _, H1, I1.tok _, ⟨_, rfl⟩, q⟩
/-- {e!r} of a text -/
theorem pe_fr (he : PE X e te) : PE X (.FormattedValue e 114 none pos) (fun σ H Q => te σ H fun v H1 => ∃ y : Str, v = .str y ∧ PyData.strOk y = true ∧ y.length ≤ 9000 ∧ ∀ z : Str, z.length ≤ 100000 → Q (.str z) H1) := by
  intro pins s σ H Q I h
  refine wpAny_FormattedValue_repr (thn (he pins s σ H _ I h) fun u s1 ⟨v, H1, I1, r, y, hv, hok, hy, q⟩ => ?_)
  subst hv
  obtain ⟨t, rfl⟩ := r
  have hl := StrLaws.reprText_len y fun c hc => by
    have h1 : y.cps.all (· < 0x110000) = true := hok
    rw [Array.all_eq_true_iff_forall_mem] at h1
    have h2 := h1 c (by simpa using hc)
    have h3 : c < 0x110000 := by simpa using h2
    exact Nat.lt_trans h3 (by decide)
  have hz : (reprText y).length ≤ sizeLine := Nat.le_trans hl (by rw [sizeLine_eq]; omega)
  refine wpAny_pyReprObj_str ?_ hz
  exact formatField_str (fun t' tk => ⟨.str _, H1, (I1.tok _).tok _, ⟨_, rfl⟩, q _ (by omega)⟩) hz
end
end L2
namespace L2
open PySem PySem.Spec PyProof.Rows
/-! ### dicts by texts and numbers: dict(d), d.setdefault(k, x), == and != of two dicts with the same pairs -/
section
variable {prog : Program} {w : World} {A : Around} {s : Shared} {E : Value → Shared → Prop} {K : Type} [DecidableEq K] {knd : KeyKind prog w K}
theorem setdef_pairs {d : Addr} {kvs : List (K × Value)} {k : K} {key dflt : Value} {Q : Value → Shared → Prop} (hkey : knd.is k key = true) (hm : s.heap.DictOf knd d kvs) (hz : kvs.length ≤ sizeLine)
    (h1 : ∀ old, valueAt kvs k = some old → Q old { s with toks := s.toks + 1 })
    (h2 : valueAt kvs k = none → ∀ h', h'.DictOf knd d (kvs ++ [(k, dflt)]) → Heap.SameBut d s.heap h' → Q dflt { s with heap := h', toks := s.toks + 1 }) : wpAny (model prog w) A (dictSetDefault d key dflt) Q E s := by
  obtain ⟨ob, es, ep, hob, hex, hdt, hks, hpr, hnd⟩ := hm
  have hes : es.size ≤ sizeLine := by
    have z1 := hpr.length
    have z2 : es.toList.length = es.size := by simp
    omega
  have hval : findBy knd.is es k = valueAt kvs k := by
    rw [← hpr.find k]
    clear hes hpr hks hdt hob
    obtain ⟨l⟩ := es
    simp [findBy]
  unfold dictSetDefault
  try with_reducible refine wpAny_holding ?_
  refine wpAny_bind (knd.pyHash hkey (wpAny_bind (wpAny_dictFind_of (s := { s with toks := s.toks + 1 }) hkey hob hdt hks ?_)))
  cases hi : es.findIdx? (fun en => knd.is k en.key) with
  | some i =>
    obtain ⟨hlt, _, _⟩ := Array.findIdx?_eq_some_iff_getElem.mp hi
    refine wpAny_bind (wpAny_dictEntries (s := { s with toks := s.toks + 1 }) hob hdt ?_)
    rw [Array.getElem?_eq_getElem (h := hlt)]
    refine wpAny_bind (wpAny_rule (wpAny_pure (h1 _ ?_)))
    rw [← hval, findBy_of_findIdx?, hi]
    show (es[i]?).map (·.val) = _
    rw [Array.getElem?_eq_getElem hlt] <;> rfl
  | none =>
    have hno : valueAt kvs k = none := by rw [← hval, findBy_of_findIdx?, hi] <;> rfl
    have hidx : (kvs.findIdx? fun kv => decide (kv.1 = k)) = none := by
      rw [← hpr.findIdx k]
      clear hes hpr hks hdt hob hval
      obtain ⟨l⟩ := es
      simpa using hi
    have hnk : k ∉ kvs.map (·.1) := not_mem_of_findIdx_none hidx
    refine wpAny_bind (wpAny_rule (wpAny_bind (wpAny_updateDictKeys (hz := hes) (s := { s with toks := s.toks + 1 }) hob hdt (wpAny_pure (h2 hno _ ?_ (Heap.SameBut.update ..))))))
    refine ⟨_, _, ep + 1, Heap.get?_update_self _ hob (Obj.isFreed_of_dict (Obj.data_mapDictKeys hdt _)), hex.mapDictKeys _, Obj.data_mapDictKeys hdt _, hks.push hkey _, ?_, ?_⟩
    · have z := hpr.append hkey (knd.hash k) dflt
      clear hes hks hdt hob hval hi
      obtain ⟨l⟩ := es
      simpa using z
    · rw [List.map_append]
      refine List.nodup_append.mpr ⟨hnd, by simp, fun a ha b hb => ?_⟩
      have eb : b = k := by simpa using hb
      rw [eb]
      exact fun e => hnk (e ▸ ha)
end
section
variable {X : Cx}
theorem valV_nodup {kvs : List (Key × V)} (hn : (kvs.map (·.1)).Nodup) : ∀ p ∈ kvs, valV kvs p.1 = some p.2 := by
  intro p hp
  induction kvs with
  | nil => cases hp
  | cons q r ih =>
    have hn := List.nodup_cons.mp (List.map_cons ▸ hn)
    unfold valV
    rw [List.find?_cons]
    by_cases e : q.1 = p.1
    · have eq : q = p := by
        rcases List.mem_cons.mp hp with z | z
        · exact z.symm
        · exact absurd (List.mem_map.mpr ⟨p, z, e.symm⟩) hn.1
      rw [decide_eq_true e, eq] <;> rfl
    · rw [decide_eq_false e]
      have hp' : p ∈ r := (List.mem_cons.mp hp).resolve_left fun z => e (by rw [z])
      exact ih hn.2 hp'
theorem call_dict_dK : CallR X (.type "dict") (fun xs H Q => ∃ a kvs, xs = [.ref a] ∧ H a = some (.dK kvs) ∧ ∀ l, H l = none → Q (.ref l) (upd H l (.dK kvs))) := by
  intro pins s σ H xs us Q I r h
  obtain ⟨a, kvs, rfl, ha, q⟩ := h
  obtain ⟨u, rfl, ru⟩ := vals1 r
  cases ru
  obtain ⟨z, hd, vs, rel, dd⟩ := dk_of I.hok ha
  refine PySem.kt_call_dict hd dd (by rw [← rel.length]; exact z) fun h' dd' hs => ?_
  have keep : ∀ b o, s.heap.get? b = some o → h'.get? b = some o := fun b o e => (hs.2 b (Nat.ne_of_lt (Heap.lt_size e))).trans (Heap.get?_push_of_some _ e)
  refine ⟨.ref s.heap.objs.size, _, I.laid (o := .dK kvs) (t' := s.toks) keep (Nat.le_refl _) ⟨z, beq_eq_false_iff_ne.mpr (Ne.symm (Nat.ne_of_lt I.big)), vs, rel, dd'⟩, rfl, q _ (I.hok.fresh (Nat.le_refl _))⟩
/-- the pairs of a dict on the heap have keys of their own -/
theorem dK_nodup {pins : List (Addr × Obj)} {σ : St} {H : Hp} {s : Shared} {a : Addr} {kvs : List (Key × V)} (I : Inv X pins σ H s) (e : H a = some (.dK kvs)) : (kvs.map (·.1)).Nodup := by
  obtain ⟨_, _, vs, rel, dd⟩ := dk_of I.hok e
  obtain ⟨_, _, _, _, _, _, _, _, hn⟩ := dd
  have ek : ∀ {l : List (Key × V)} {m : List (Key × Value)}, KV l m → l.map (·.1) = m.map (·.1) := fun {l m} p => by
    unfold KV at p
    induction p with
    | nil => rfl
    | cons h _ ih => rw [List.map_cons, List.map_cons, ih, h.1]
  rw [ek rel]
  exact hn
def rSameD (neg : Bool) : R2 := fun x y H Q => ∃ a b kvs, x = .ref a ∧ y = .ref b ∧ H a = some (.dK kvs) ∧ H b = some (.dK kvs) ∧ (∀ p ∈ kvs, ∃ c, p.2 = .ref c) ∧ Q (.bl (!neg)) H
theorem keq_all {A : Around} {s : Shared} {H : Hp} {kvs : List (Key × V)} {vs us : List (Key × Value)} (r1 : KV kvs us) (hr : ∀ p ∈ kvs, ∃ c, p.2 = .ref c) (hn : (kvs.map (·.1)).Nodup) : ∀ {l : List (Key × V)} {m : List (Key × Value)}, KV l m → (∀ p ∈ l, p ∈ kvs) → PySem.W.KeqHits A s us m true := by
  intro l m p
  unfold KV at p
  induction p with
  | nil => intro _; exact .nil
  | @cons a b as bs h t ih =>
    intro hm
    have ha := hm a List.mem_cons_self
    obtain ⟨c, hc⟩ := hr a ha
    have hv := valV_nodup hn a ha
    have hx := r1.val a.1
    rw [hv, hc] at hx
    obtain ⟨b1, b2⟩ := b
    obtain ⟨e1, e2⟩ := h
    rw [hc] at e2
    have e3 : b2 = Value.ref c := e2
    have e1' : a.1 = b1 := e1
    rw [e1'] at hx
    obtain ⟨y, hy, ry⟩ := RelO.some_of (v := V.ref c) (o := valueAt us b1) hx
    have e4 : y = Value.ref c := ry
    subst e3 e4
    exact PySem.W.KeqHits.hit (e := true) (b := true) hy (SeqAt.EqAt.same _) (ih fun p hp => hm p (List.mem_cons_of_mem _ hp))
theorem op_neSame (hu : X.A.units + 1 < cLine) : OpR X (compareOp .NotEq) (rSameD true) := by
  intro pins s σ H x y v u Q I rx ry h
  obtain ⟨a, b, kvs, rfl, rfl, ha, hb, hr, q⟩ := h
  cases rx
  cases ry
  obtain ⟨za, ka, va, ra, da⟩ := dk_of I.hok ha
  obtain ⟨zb, kb, vb, rb, db⟩ := dk_of I.hok hb
  refine PySem.W.keq_ne ka kb da db (by omega) (fun _ => keq_all (H := H) (vs := va) rb hr (dK_nodup I ha) ra fun p hp => hp) ?_
  rw [← ra.length, ← rb.length, beq_self_eq_true]
  exact ⟨.bl _, H, I, rfl, q⟩
theorem op_eqSame (hu : X.A.units + 1 < cLine) : OpR X (compareOp .Eq) (rSameD false) := by
  intro pins s σ H x y v u Q I rx ry h
  obtain ⟨a, b, kvs, rfl, rfl, ha, hb, hr, q⟩ := h
  cases rx
  cases ry
  obtain ⟨za, ka, va, ra, da⟩ := dk_of I.hok ha
  obtain ⟨zb, kb, vb, rb, db⟩ := dk_of I.hok hb
  refine PySem.W.keq_eq ka kb da db (by omega) (fun _ => keq_all (H := H) (vs := va) rb hr (dK_nodup I ha) ra fun p hp => hp) ?_
  rw [← ra.length, ← rb.length, beq_self_eq_true]
  exact ⟨.bl _, H, I, rfl, q⟩
def tDSetd (td ty tx : TE) : TE := fun σ H Q => td σ H fun x H1 => ∃ a, x = .ref a ∧ IsD H1 a ∧ ty σ H1 fun y H2 => tx σ H2 fun z H3 => ∃ kvs k, H3 a = some (.dK kvs) ∧ y = kV k ∧ kvs.length < sizeLine ∧
  ((∃ v, valV kvs k = some v ∧ Q v H3) ∨ (valV kvs k = none ∧ Q z (upd H3 a (.dK (putK kvs k z)))))
theorem pe_dsetd {o e f : Expr} {apos cpos : Pos} {td ty tx : TE} (ho : PE X o td) (he : PE X e ty) (hf : PE X f tx) (m : M2 X o "setdefault" apos e f cpos) : PE X (.Call (.Attribute o "setdefault" apos) [e, f] [] cpos) (tDSetd td ty tx) := by
  intro pins s σ H Q I h
  refine wpAny_Call_method m.base m.few m.line PySem.F.plainAttrs_dict PySem.F.slot_dict_setdefault PySem.F.type_dict_setdefault (thn (ho pins s σ H _ I h) fun u s1 ⟨x, H1, I1, rx, a, ex, d, q1⟩ => ?_)
  subst ex
  obtain rfl : u = Value.ref a := rx
  obtain ⟨t1, t2, _⟩ := isD_at I1 d
  refine ⟨t1, t2, ?_⟩
  rw [m.trees]
  refine Calls.callWith_builtin rfl (Calls.evalArgs_plain (Calls.spliced_cons (thn (he pins s1 σ H1 _ I1 q1) fun iv s2 ⟨y, H2, I2, ry, q2⟩ =>
    Calls.spliced_cons (thn (hf pins s2 σ H2 _ I2 q2) fun fv s3 ⟨z, H3, I3, rz, kvs, k, ea, ey, hz, q3⟩ => Calls.spliced_nil ?_))))
  subst ey
  obtain ⟨hzl, hd, vs, rel, dd⟩ := dk_of I3.hok ea
  refine wpAny_call (codeAny_call_builtin PySem.F.slot_dict_setdefault.plain PySem.F.entry_dict_setdefault (PySem.F.slot_dict_setdefault.check _ _ _ _ _ _ _ _ dd.typeIs (PySem.F.args_dict_setdefault_3 _ _ _) ?_))
  unfold Builtin.«dict.setdefault» Builtin.Dict.keyAndDefault
  refine wpAny_bind ?_
  refine wpAny_bind (wpAny_notOrdered_dict dd.typeIs ?_)
  show wpAny _ _ (pure (a, iv, some fv)) _ _ s3
  refine wpAny_pure ?_
  show wpAny _ _ (if (a == sysModules) = true then _ else (dictSetDefault a iv fv >>= _)) _ _ s3
  rw [if_neg (by rw [hd]; exact Bool.false_ne_true)]
  refine wpAny_bind (setdef_pairs (kV_is ry) dd (by rw [← rel.length]; exact hzl) (fun v hv => wpAny_pure ?_) fun hn h' dd' hs => wpAny_pure ?_)
  · rcases q3 with ⟨v', hv', q⟩ | ⟨hv', _⟩
    · obtain ⟨w', hw, rw'⟩ := RelO.some_of (v := v') (o := valueAt vs k) (by rw [← hv']; exact rel.val k)
      rw [hw] at hv
      cases hv
      exact ⟨v', H3, I3.tok _, rw', q⟩
    · have z := rel.val k
      rw [hv', hv] at z
      exact absurd z (by intro z; cases z)
  · rcases q3 with ⟨v', hv', _⟩ | ⟨hv', q⟩
    · have z := rel.val k
      rw [hv', hn] at z
      exact absurd z (by intro z; cases z)
    · have hl : (putK kvs k z).length ≤ sizeLine := by have := length_putK kvs k z; omega
      have es : stored vs k fv = vs ++ [(k, fv)] := by
        unfold stored
        rw [if_neg]
        rw [List.any_eq_true]
        rintro ⟨kv, hkv, he⟩
        have e0 : kv.1 = k := of_decide_eq_true he
        unfold valueAt at hn
        cases hf : vs.find? (fun kv => decide (kv.1 = k)) with
        | none => exact absurd (decide_eq_true e0) (by simpa using List.find?_eq_none.mp hf kv hkv)
        | some u => rw [hf] at hn; cases hn
      rw [← es] at dd'
      have he : ∃ q, h'.get? a = some q := let ⟨q, _, _, hq, _⟩ := dd'; ⟨q, hq⟩
      exact ⟨z, _, d_write I3 (by rw [ea]; exact True.intro) hs he (dk_new hl hd (rel.put k rz) dd'), rz, q⟩
end
end L2
namespace L2
open PySem PySem.Spec PyProof.Rows
/-! ### the class of an exception that was caught, isinstance of it -/
/-- what the text's own exception classes are like -/
structure ExcCls (K : PySem.W.Frag) (D : Addr) : Prop where
  is : (match K.lookup D with | some ⟨_, _, .cls _, _⟩ => true | _ => false) = true
  ga : PySem.W.findIn K (.ref D) "__getattribute__" = some (some (.builtin "BaseException.__getattribute__"))
  gh : PySem.W.findIn K (.ref D) "__getattr__" = some none
  cl : PySem.W.findIn K (.ref D) "__class__" = some (some (.builtin "object.__class__"))
  sp : PySem.W.specialIn K (.builtin "object.__class__") "__get__" = some (some (.builtin "getset_descriptor.__get__"))
  tk : PySem.W.takesIn K (.builtin "object.__class__") = some true
  ob : PySem.W.mroIn K D (.type "object") = some true
  be : PySem.W.mroIn K D (.type "BaseException") = some true
section
variable {prog : Program} {w : World} {A : Around} {E : Value → Shared → Prop} {s : Shared} {K : PySem.W.Frag} {x D : Addr}
theorem find_data {M : Model} {h : Heap} {a g : Value} {nm : Str} (X : K.In h) (ha : PySem.W.findIn K (.ref D) nm = some (some a)) (hg : PySem.W.specialIn K a "__get__" = some (some g)) (ht : PySem.W.takesIn K a = some true) :
    PySem.W.Looks M h (Builtin.ObjectAttr.find (.ref x) (.ref D) nm) (.bind g a) := by
  have z1 := PySem.W.looks_findIn (M := M) X ha
  have z2 : PySem.W.Looks M h (Builtin.ObjectAttr.getOf (some a)) (some g) := PySem.W.looks_specialIn X hg
  have z3 := PySem.W.looks_takesIn (M := M) X ht
  have z4 : PySem.W.Looks M h (Builtin.ObjectAttr.dataDescriptor? (some a) (some g)) (some (g, a)) := z3.andThen .now
  exact z1.andThen (z2.andThen (z4.andThen (PySem.W.Looks.tag .now)))
theorem exc_get {tp : Value} {R : Result → Shared → Prop} (X : K.In s.heap) (LT : PySem.W.Looks (model prog w) s.heap (typeOf (.ref x)) (.ref D)) (hm : PySem.W.mroIn K D (.type "object") = some true) (h : R (.ok (.ret (.ref D))) s) :
    codeAny (model prog w) A (.call (.builtin "getset_descriptor.__get__") ⟨[.builtin "object.__class__", .ref x, tp], []⟩) R s := by
  obtain ⟨hh, gs, dr, tt, oss⟩ := s
  have LM := PySem.W.looks_mroIn (M := model prog w) X hm
  refine codeAny_call_builtin PySem.W.KF.slot_gs.plain PySem.W.KF.entry_gs (PySem.W.KF.slot_gs.check _ _ _ _ _ _ _ _ PySem.W.KF.type_class (PySem.W.KF.args_gs _ _ _) ?_)
  unfold Builtin.«getset_descriptor.__get__» Builtin.Getset_descriptor.descrGet
  rw [PySem.W.dga_obj]
  refine wpAny_bind (wpAny_pure ?_)
  unfold Builtin.Getset_descriptor.descrGetter Builtin.Getset_descriptor.descrCheckInstance Builtin.Getset_descriptor.descrNameAndClass isInstance
  simp only [PySem.W.KF.owner_class]
  repeat lk
  refine ⟨Code.quiet_builtin _ (by decide +kernel), codeAny_builtin PySem.W.KF.entry_class ?_⟩
  unfold Builtin.«object.__class__» shownTypeOf
  repeat lk
  exact h
theorem exc_gaCall {tk : Tok} {R : Result → Shared → Prop} (c : ExcCls K D) (X : K.In s.heap) (LT : PySem.W.Looks (model prog w) s.heap (typeOf (.ref x)) (.ref D)) (h : R (.ok (.ret (.ref D))) s) :
    codeAny (model prog w) A (.call (.builtin "BaseException.__getattribute__") ⟨[.ref x, .str "__class__" tk], []⟩) R s := by
  obtain ⟨hh, gs, dr, tt, oss⟩ := s
  have LF := find_data (M := model prog w) (x := x) X c.cl c.sp c.tk
  have LI : PySem.W.Looks (model prog w) hh (isInstance (.ref x) (.type "BaseException")) true := LT.andThen (PySem.W.looks_mroIn (M := model prog w) X c.be)
  have hk : builtinKind "BaseException.__getattribute__" = some Manifest.AttrKind.slot := by decide +kernel
  have hsp : splitId "BaseException.__getattribute__" = some ("BaseException", "__getattribute__") := by decide +kernel
  refine codeAny_call_builtin PySem.F.attr_ValueError.ga.plain PySem.F.entry_bexc_ga ?_
  simp only [checkBuiltinCall, hk, hsp]
  have hargs := PySem.F.args_bexc_ga (.ref x) (.str "__class__" tk)
  refine wpAny_bind (LI.at ?_)
  first
    | (rw [if_neg (by decide)]; refine wpAny_of_eq hargs ?_)
    | refine wpAny_of_eq hargs ?_
  unfold Builtin.«object.__getattribute__»
  refine wpAny_bind (wpAny_pure (wpAny_bind (wpAny_pure (wpAny_bind (LT.at (wpAny_bind (LF.at ?_)))))))
  show wpAny _ _ (holding [.builtin "object.__class__"] (call (.builtin "getset_descriptor.__get__") [.builtin "object.__class__", .ref x, .ref D]) >>= ret) _ _ _
  exact wpAny_bind (wpAny_holding (wpAny_call (exc_get X LT c.ob (wpAny_pure h))))
theorem exc_class {Q : Option Value → Shared → Prop} (c : ExcCls K D) (X : K.In s.heap) (LT : PySem.W.Looks (model prog w) s.heap (typeOf (.ref x)) (.ref D)) (h : Q (some (.ref D)) { s with toks := s.toks + 1 }) :
    wpAny (model prog w) A (getAttr? (.ref x) "__class__") Q E s := by
  obtain ⟨hh, gs, dr, tt, oss⟩ := s
  have LG := PySem.W.looks_findIn (M := model prog w) X c.ga
  have LH := PySem.W.looks_findIn (M := model prog w) X c.gh
  have hb := PySem.F.attr_ValueError.ga.bind (.ref x)
  unfold getAttr? getAttrBy? getAttrBy
  refine wpAny_bind (wpAny_mkText (wpAny_bind (wpAny_attempt (wpAny_holding (wpAny_bind (LT.at (wpAny_bind (LG.at ?_))))))))
  show wpAny _ _ (getAttrByItsOwn _ _ _ _ _ _) _ _ _
  unfold getAttrByItsOwn hookBefore
  refine wpAny_bind (LH.at ?_)
  refine wpAny_bind (wpAny_attempt (wpAny_holding ?_))
  show wpAny _ _ (boundAndCalled _ _ _) _ _ _
  unfold boundAndCalled
  refine wpAny_bind (wpAny_of_eq hb ?_)
  show wpAny _ _ (call (.builtin "BaseException.__getattribute__") [.ref x, .str "__class__" tt]) _ _ _
  refine wpAny_call (exc_gaCall (s := ⟨hh, gs, dr, tt + 1, oss⟩) c X LT ?_)
  refine PySem.W.handed_on rfl ?_
  exact wpAny_pure h
def excAt (x : Addr) (cls : Value) (h : Heap) : Prop := ∃ o, h.get? x = some o ∧ o.cls = cls
theorem excAt_ty {cls : Value} (M : Model) (h : Heap) (p : excAt x cls h) : PySem.W.Looks M h (typeOf (.ref x)) cls := by
  obtain ⟨o, h1, h2⟩ := p
  rw [← h2]
  exact (PySem.W.Looks.ld h1).andThen .now
theorem kitx_exc (c : ExcCls K D) : PySem.W.KitX K (.ref x) (.ref D) (excAt x (.ref D)) where
  ty := fun M h _ p => excAt_ty M h p
  it := fun _ _ X _ => by
    have q := c.is
    split at q
    · rename_i ho
      intro A' Q' E' s' k z
      unfold isType loadHead
      exact wpAny_bind (wpAny_loadPart (k _ _ (X _ _ ho)) (wpAny_pure z))
    · cases q
  ne := fun _ t _ _ _ _ X ht => by
    cases hb : (Value.ref D == Value.ref t) with
    | false => rfl
    | true =>
      obtain rfl : D = t := Value.ref.inj (beq_iff_eq.mp hb)
      have q := c.is
      split at q
      · next ho => exact nomatch (X _ _ ho).symm.trans ht
      · cases q
  ca := fun X p k => exc_class c X (excAt_ty _ _ p) k
end
section
variable {X : Cx}
/-- isinstance(e, C) of a caught exception -/
theorem call_isiX {D : Addr} (c : ExcCls X.K D) : CallR X (.builtin "isinstance") (fun xs H Q => ∃ e y u b, xs = [.ref e, y] ∧ RelV y u ∧ (∀ u', RelV y u' → u' = u) ∧ H e = some (.ext (excAt e (.ref D))) ∧ PySem.W.kitOne X.K (.ref D) u = some b ∧ Q (.bl b) H) := by
  intro pins s σ H xs us Q I rv h
  obtain ⟨e, y, u, b, rfl, _, hu, he, hk, q⟩ := h
  obtain ⟨u1, u2, rfl, r1, r2⟩ := rv.two
  cases r1
  rw [hu u2 r2]
  obtain ⟨p, _, _⟩ := (show ObjOk X.prog X.w H s.heap e (.ext (excAt e (.ref D))) from I.hok e _ he)
  exact PySem.W.kia_one (kitx_exc c) I.kIn p hk (fun z => nomatch z) fun tk => ⟨.bl b, H, I.tok _, rfl, q⟩
end
/-! ### except .. as n -/
section
variable {X : Cx} {pins : List (Addr × Obj)} {σ : St} {H H' : Hp} {s s' : Shared} {x : Addr} {cls : Value}
theorem Fly.new (I : Inv X pins σ H s) (f : Fly X.prog X.w X.stack H s x cls H' s') : s.heap.get? x = none := by
  cases e : s.heap.get? x with
  | none => rfl
  | some o =>
    obtain ⟨B, a0, fl, c1, c2⟩ := f.fl
    by_cases hb : x ∈ frs X.stack
    · obtain ⟨_, of, ho, hnf⟩ := fl.2.2.1.mem hb
      obtain ⟨oe, vs, hoe, _, hd, _⟩ := fl.first
      rw [ho] at hoe
      cases hoe
      exact absurd hd (hnf vs)
    · obtain ⟨u, hu⟩ := c2 x o e hb
      have := fl.2.1
      rw [hu] at this
      cases this
/-- what was not tracked, and is not the callers', is tracked from here on -/
theorem Inv.track {o : HO} (I : Inv X pins σ H s) (hn : X.s₀.heap.get? x = none) (hl : x ≠ X.env.locals) (hc : ∀ y c, X.env.cells.lookup y = some c → c ≠ x) (hp : ∀ p ∈ X.pn ++ pins, p.1 ≠ x) (hx : H x = none) (ho : ObjOk X.prog X.w (upd H x o) s.heap x o) :
    Inv X pins σ (upd H x o) s := by
  have ne : ∀ b u, H b = some u → b ≠ x := fun b u e z => by rw [z, hx] at e; cases e
  have old : ∀ b ob, X.s₀.heap.get? b = some ob → b ≠ x := fun b ob e z => by rw [z, hn] at e; cases e
  refine ⟨I.ok, I.os, I.bare, ⟨I.base.keep, I.base.slot, fun b ob e n hb => by rw [upd_ne (old b ob e)]; exact I.base.free b ob e n hb, I.base.there, fun b xs e => ?_, fun b ob u e => ?_, fun b ps e => ?_⟩, I.loc, I.cell, by rw [upd_ne (Ne.symm hl)]; exact I.free, fun y c e => by rw [upd_ne (hc y c e)]; exact I.freeC y c e, fun p hpp => ?_, fun b u e => ?_, I.len⟩
  · have z := I.base.tups b xs e
    rw [upd_ne (ne _ _ z)]
    exact z
  · have z := I.base.frzs b ob u e
    rw [upd_ne (ne _ _ z)]
    exact z
  · obtain ⟨m, z⟩ := I.base.tbls b ps e
    exact ⟨m, by rw [upd_ne (ne _ _ z)]; exact z⟩
  · obtain ⟨a1, a2, a3, a4, a5⟩ := I.pin p hpp
    exact ⟨a1, by rw [upd_ne (hp p hpp)]; exact a2, a3, a4, a5⟩
  · by_cases eb : b = x
    · subst eb
      rw [upd_same] at e
      cases e
      exact ho
    · rw [upd_ne eb] at e
      refine (I.hok b u e).stay (fun _ _ _ q => q) (fun c q => ?_) fun c xs q => ?_
      · rw [upd_ne (ne _ _ q)]; exact q
      · rw [upd_ne (ne _ _ q)]; exact q
theorem Fly.track (I : Inv X pins σ H s) (hex : X.ex = []) (f : Fly X.prog X.w X.stack H s x cls H' s') : Inv X pins σ (upd H' x (.ext (excAt x cls))) s' := by
  have hn := f.new I
  have I1 := f.inv I
  obtain ⟨ob, hob, hcl⟩ := f.there
  have ne : ∀ b o, s.heap.get? b = some o → b ≠ x := fun b o e z => by rw [z, hn] at e; cases e
  refine I1.track ?_ ?_ ?_ ?_ f.free ⟨⟨ob, hob, hcl⟩, ⟨ob, hob⟩, fun h1 h2 p k => ?_⟩
  · cases e : X.s₀.heap.get? x with
    | none => rfl
    | some o =>
      obtain ⟨o', e1⟩ := I.base.there x o e (by rw [hex]; simp)
      rw [hn] at e1
      cases e1
  · obtain ⟨m, ⟨o, _, _, ho, _⟩, _⟩ := I.loc
    exact (ne _ _ ho).symm
  · intro y c e
    obtain ⟨v, o, ho, _⟩ := I.cell y c e
    exact ne _ _ ho
  · intro p hp
    exact ne _ _ (I.pin p hp).1
  · obtain ⟨o, e1, e2⟩ := p
    exact ⟨o, k o e1, e2⟩
theorem unbind_ok {M : Model} {A : Around} {E : Value → Shared → Prop} {i : Nat} {n : Str} {v : V} {Q : Unit → Shared → Prop} (I : Inv X pins σ H s) (hN : X.N.Nodup) (hi : X.N[i]? = some n) (hk : X.env.scope.names.lookup n = some .local) (hv : σ[i]? = some (some v))
    (h : ∀ s', Inv X pins (σ.set i none) H s' → Q () s') : wpAny M A (unbindName X.env n) Q E s := by
  obtain ⟨m, hn, hl⟩ := id I.loc
  obtain ⟨u, r, lk⟩ := hl i n v hi hv (.inl hk)
  have kk : X.env.kindOf n = some .local := hk
  have hcls : (X.env.scope.kind == .class || (X.env.scope.kind == .module && X.env.locals != X.env.globals)) = false := by rw [I.ok.kind]; rfl
  have hiσ : i < σ.length := by rw [I.len]; exact (List.getElem?_eq_some_iff.mp hi).1
  have cne := I.cne
  have e0 : m n = some u := by
    rcases lk with ⟨_, e⟩ | ⟨k, _⟩
    · exact e
    · rw [kk] at k
      rcases k with z | z <;> cases z
  refine wpAny_unbindName_local kk hn e0 hcls fun h' u' hn' hs => ?_
  obtain ⟨oL, _, _, hoL, _⟩ := id hn
  refine h _ ⟨I.ok, I.os, I.bare, ⟨fun b o e nn hb hx => ?_, fun b o e nn hb hx => ?_, I.base.free, fun b o e hx => ?_, I.base.tups, I.base.frzs, I.base.tbls⟩, ⟨_, hn', fun j y v' e1 e2 e3 => ?_⟩, fun y c e => ?_, I.free, I.freeC, fun p hp => ?_, fun b ob e => ?_, by rw [List.length_set]; exact I.len⟩
  · exact (hs.2 b (Nat.ne_of_lt (Nat.lt_of_lt_of_le (Heap.lt_size e) I.ok.above))).trans (I.base.keep b o e nn hb hx)
  · obtain ⟨sl, e1⟩ := I.base.slot b o e nn hb hx
    exact ⟨sl, (hs.2 b (Nat.ne_of_lt (Nat.lt_of_lt_of_le (Heap.lt_size e) I.ok.above))).trans e1⟩
  · obtain ⟨o', e1⟩ := I.base.there b o e hx
    exact ⟨o', (hs.2 b (Nat.ne_of_lt (Nat.lt_of_lt_of_le (Heap.lt_size e) I.ok.above))).trans e1⟩
  · by_cases hj : j = i
    · subst hj
      rw [List.getElem?_set_self hiσ] at e2
      cases e2
    · rw [List.getElem?_set_ne (Ne.symm hj)] at e2
      obtain ⟨u2, r2, q⟩ := hl j y v' e1 e2 e3
      refine ⟨u2, r2, ?_⟩
      rcases q with ⟨k, e⟩ | ⟨k, c, e, z⟩
      · refine .inl ⟨k, ?_⟩
        have : y ≠ n := fun e => hj (nodup_ix hN e1 (e ▸ hi))
        simp [this, e]
      · exact .inr ⟨k, c, e, z.sameBut hs (cne y c e)⟩
  · obtain ⟨w', z⟩ := I.cell y c e
    exact ⟨w', z.sameBut hs (cne y c e)⟩
  · obtain ⟨e, nn, ne, nf, d⟩ := I.pin p hp
    exact ⟨(hs.2 p.1 ne).trans e, nn, ne, nf, d⟩
  · refine (I.hok b ob e).stay (fun c w' hc q => (hs.2 c ?_).trans q) (fun _ q => q) fun _ _ q => q
    rintro rfl
    rcases hc with rfl | hc
    · rw [I.free] at e; cases e
    · rw [I.free] at hc; cases hc
/-- behind the suite the name is gone -/
def Ends.gone (D : Ends) (i : Nat) : Ends := { nx := fun σ H => D.nx (σ.set i none) H, rt := D.rt, bk := fun σ H => D.bk (σ.set i none) H, ct := fun σ H => D.ct (σ.set i none) H }
theorem gone_ok {A : Around} {E : Value → Shared → Prop} {i : Nat} {n : Str} {pos : Pos} {D : Ends} {f : Flow} (hN : X.N.Nodup) (hi : X.N[i]? = some n) (hk : X.env.scope.names.lookup n = some .local) (h : SP X pins (D.gone i) f s) :
    wpAny (model X.prog X.w) A (do bindName X.env n .none; unbindBehindTheSuite X.env n pos) (fun _ s3 => SP X pins D f s3) E s := by
  have go : ∀ {σ' : St} {H' : Hp} {Z : Shared → Prop}, Inv X pins σ' H' s → (∀ s2, Inv X pins (σ'.set i none) H' s2 → Z s2) →
      wpAny (model X.prog X.w) A (do bindName X.env n .none; unbindBehindTheSuite X.env n pos) (fun _ s3 => Z s3) E s := fun {σ' H' Z} I hz => by
    have hiσ : i < σ'.length := by rw [I.len]; exact (List.getElem?_eq_some_iff.mp hi).1
    refine wpAny_bind (wpAny_bindName (store_ok I hN hi (.inl hk) (v := .non) rfl (fun s1 I1 => ?_) (.inr hk)))
    unfold unbindBehindTheSuite
    refine wpAny_onRaise (unbind_ok I1 hN hi hk (by rw [List.getElem?_set_self hiσ]) fun s2 I2 => ?_)
    rw [List.set_set] at I2
    exact hz s2 I2
  cases f with
  | next => obtain ⟨σ', H', I, q⟩ := h; exact go I fun s2 I2 => ⟨_, H', I2, q⟩
  | brk => obtain ⟨σ', H', I, q⟩ := h; exact go I fun s2 I2 => ⟨_, H', I2, q⟩
  | cont => obtain ⟨σ', H', I, q⟩ := h; exact go I fun s2 I2 => ⟨_, H', I2, q⟩
  | ret u => obtain ⟨v, σ', H', I, r, q⟩ := h; exact go I fun s2 I2 => ⟨v, _, H', I2, r, q⟩
end
/-- except d as n: suite -/
theorem ph_as {X : Cx} {d n : Str} {i : Nat} {vd : Value} {np pos : Pos} {b₀ : Stmt} {suite : List Stmt} {rest : List ExceptHandler} {th : TS} {tr : TH} (hex : X.ex = []) (hN : X.N.Nodup) (hi : X.N[i]? = some n) (hk : X.env.scope.names.lookup n = some .local)
    (hg : Gl X d) (hm : X.mg d = some vd) (hb : ∀ e, PSs (X.inE e).nox (b₀ :: suite) th) (hr : PH X rest tr) (hd : (d == ("__debug__" : Str)) = false := by decide) :
    PH X (.ExceptHandler (some (.Name d np)) (some n) (b₀ :: suite) pos :: rest)
      (fun D cls e σ H => ∃ b, PySem.W.exmOne X.K cls vd = some b ∧ if b = true then th (D.gone i) (σ.set i (some (.ref e))) (upd H e (.ext (excAt e cls))) else tr D cls e σ H) := by
  intro pins σ H H' s s' D cls e I f h
  obtain ⟨b, hx, h⟩ := h
  have I1 := f.inv I
  obtain ⟨ob, hob, hcl⟩ := f.there
  have LT : PySem.W.Looks (model X.prog X.w) s'.heap (typeOf (.ref e)) cls := excAt_ty _ _ ⟨ob, hob, hcl⟩
  refine wpAny_handleBy_cons (codeAny_handlers_test (Calls.Name_function_global I1.ok.kind hg (Calls.loadGlobal_global (by rw [I1.ok.glob]; exact I1.mod.glob.keeps I1.bk) hm ?_) hd)) (by intro q; cases q)
  refine (PySem.W.exm_one I1.kIn LT hx).here ?_
  cases b with
  | false => exact hr pins σ H H' s s' D cls e I f h
  | true =>
    refine codeAny_handlers_suite_as (f.again I fun s2 f2 => ?_)
    have I2 := f2.track I hex
    refine store_ok I2 hN hi (.inl hk) (v := .ref e) rfl (fun s3 I3 => ?_) (.inr hk)
    exact wpAny_mono (hb e pins s3 _ _ (D.gone i) (I3.inE.wish _) h) (fun fl s4 q => gone_ok hN hi hk (SP.outE I1.ok q)) fun _ _ z => False.elim z
end L2
namespace L2
open PySem PySem.Spec PyProof.Rows
/-! ### a def with defaults -/
structure FunD (K : PySem.W.Frag) (x qual : Str) (st : Stmt) (dV : Value) (f : Addr) (fd : FuncData) : Prop where
  ex : ∃ (oc : Value) (od : Option Addr) (kV doc pm : Value) (an : Option Addr) (cdv ct : Value) (osl : Array (Option Value)),
    fd = PySem.W.fnOf x qual (defArgs st) (defBody st) (defScope st) dV kV doc pm an cdv ct ∧ K.lookup f = some ⟨oc, od, .func fd, osl⟩ ∧ PySem.W.codeIn K cdv qual = true
  kp : PySem.W.keepIn K (.ref f) = true
section
variable {P : Program} {w : World} {K : PySem.W.Frag} {mg : Str → Option Value} {base : Heap}
theorem FunD.okX {x qual : Str} {st : Stmt} {dV : Value} {f : Addr} {fd : FuncData} {N ps : List Str} {k : Nat} {sp : Sp} (F : FunD K x qual st dV f fd) (S : FnScope N ps (defScope st)) (len : ∀ vs H Q E, sp vs H Q E → vs.length = ps.length)
    (hbody : ∀ (cdv : Value) (A : Around) (outer : List Env) (s : Shared) (H : Hp) (vs : List V) (Q : VK) (E : XK), Room k (A.deeper (envOfC qual (defScope st) s.heap.objs.size f cdv)) → sp vs H Q E →
      ∃ t, PSs (cxOf (CX1 P w) P w K mg base N qual (defScope st) f cdv A outer s H E) (defBody st) t ∧ t { nx := fun _ H' => Q .non H', rt := Q } (start N vs) H) : FnOk P w K mg base (CX1 P w) (k + 1) f fd ps sp := by
  obtain ⟨oc, od, kV, doc, pm, an, cdv, ct, osl, rfl, lk, hcd⟩ := F.ex
  exact fn_of lk hcd S len fun A outer s H vs Q E hr hsp => hbody cdv A outer s H vs Q E hr hsp
theorem funD_mk {x qual : Str} {st : Stmt} {dV : Value} {f : Addr} {oc : Value} {od an : Option Addr} {osl : Array (Option Value)} {kV doc pm cdv ct : Value} (l : K.lookup f = some ⟨oc, od, .func (PySem.W.fnOf x qual (defArgs st) (defBody st) (defScope st) dV kV doc pm an cdv ct), osl⟩)
    (c : PySem.W.codeIn K cdv qual = true) (k : PySem.W.keepIn K (.ref f) = true) : FunD K x qual st dV f (PySem.W.fnOf x qual (defArgs st) (defBody st) (defScope st) dV kV doc pm an cdv ct) := ⟨⟨oc, od, kV, doc, pm, an, cdv, ct, osl, rfl, l, c⟩, k⟩
/-- how the arguments bind, the defaults in a tuple of the text's; h: by the items, for each list of arguments -/
theorem FunD.binds {x qual : Str} {st : Stmt} {T : Addr} {f : Addr} {fd : FuncData} {ps : List Str} {oT : Value} {dT : Option Addr} {its : Array Value} {nT : Nat} {sT : Array (Option Value)} {ds : List Value} (F : FunD K x qual st (.ref T) f fd) (lT : K.lookup T = some ⟨oT, dT, .seq its nT, sT⟩)
    (h : ∀ (kV doc pm : Value) (an : Option Addr) (cdv ct : Value) (us : List Value), (us ++ ds).length = ps.length → ∃ k : Option (Array Value) → Sem (List (Str × Value)),
      bindArgs (PySem.W.fnOf x qual (defArgs st) (defBody st) (defScope st) (.ref T) kV doc pm an cdv ct) ⟨us, []⟩ = seqItems? (.ref T) >>= k ∧ k (some its) = pure (ps.zip (us ++ ds))) : Binds K fd ps ds := by
  obtain ⟨oc, od, kV, doc, pm, an, cdv, ct, osl, rfl, lk, hcd⟩ := F.ex
  intro s us kin hl
  obtain ⟨k, h1, h2⟩ := h kV doc pm an cdv ct us hl
  exact BindsTo.of_defaults rfl (kin _ _ lT) rfl h1 h2
end
end L2
namespace K22
open PySem L2 Kk
def top (i : Nat) : Stmt := PySem.Challenge.pw_sealhouse_k22_normal_kinds.main.body.getD i (.Pass ⟨0, 0, 0, 0⟩)
abbrev sWords : Stmt := top 6
abbrev sNames : Stmt := top 7
theorem small {n : Nat} (h : n ≤ 1000) : n ≤ sizeLine := Nat.le_of_lt (small1000 h)
theorem same_new {H : Hp} {p : Addr} (h : H p = none) (o : HO) : Same H (upd H p o) := fun b u q => by rw [upd_ne (ne_of_none q h)]; exact q
def sumW (ks : List Kd) : Nat := (ks.map Kd.words).sum
theorem words_pos (k : Kd) : 0 < k.words := by
  have := words_leaves k
  have := leaves_pos k
  omega
theorem sumW_app (a b : List Kd) : sumW (a ++ b) = sumW a + sumW b := by
  unfold sumW
  rw [List.map_append, List.sum_append]
theorem sumW_one (k : Kd) : sumW [k] = k.words := Nat.add_zero _
theorem len_sumW : ∀ ks : List Kd, ks.length ≤ sumW ks
  | [] => Nat.le_refl _
  | k :: ks => by
    have h1 := len_sumW ks
    have h2 := words_pos k
    show ks.length + 1 ≤ k.words + sumW ks
    omega
theorem snoc {K : PySem.W.Frag} {H : Hp} : ∀ {us : List V} {v : V} {ks : List Kd}, KdsAt K H (us ++ [v]) ks → ∃ ls k, ks = ls ++ [k] ∧ KdsAt K H us ls ∧ KdAt K H v k
  | [], v, _, .cons a .nil => ⟨[], _, rfl, .nil, a⟩
  | u :: us, v, _, .cons a b => by
    obtain ⟨ls, k, rfl, h1, h2⟩ := snoc (us := us) b
    exact ⟨_ :: ls, k, rfl, .cons a h1, h2⟩
theorem snoc_get {us : List V} {v : V} : (us ++ [v])[(us ++ [v]).length - 1]? = some v := by simp
theorem one {K : PySem.W.Frag} {H : Hp} {v : V} {k : Kd} (h : KdAt K H v k) : KdsAt K H [v] [k] := .cons h .nil
def spWords (K : PySem.W.Frag) : Sp := fun vs H Q _ => ∃ (x : V) (k : Kd), vs = [x] ∧ KdAt K H x k ∧ k.words ≤ 900 ∧ ∀ H', Same H H' → Q (.int k.words) H'
section
variable {P : Program} {w : World} {K : PySem.W.Frag} {mg : Str → Option Value} {base : Heap}
theorem scWords : FnScope ["kind", "words", "left", "here"] ["kind"] (defScope sWords) := ⟨rfl, rfl, rfl, by decide +kernel, rfl, by decide +kernel, by decide +kernel⟩
theorem ok_words {f : Addr} {fd : FuncData} (F : Fun K "words_in" "words_in" sWords f fd) (ml : mg "len" = none) : FnOk P w K mg base CX0 1 f fd ["kind"] (spWords K) := by
  refine F.ok scWords (fun vs H Q E h => ?_) (fun cdv A outer s H vs Q E hr h => ?_)
  · obtain ⟨x, k, rfl, _⟩ := h
    rfl
  obtain ⟨x, k, rfl, hk, h9, q⟩ := h
  refine ⟨_, pss_cons (ps_set (i := 1) scWords.nd rfl (Or.inl rfl) pe_int)
    (pss_cons (ps_set (i := 2) scWords.nd rfl (Or.inl rfl) (pe_lst (pa_cons (pv 0) pa_nil)))
    (pss_cons (ps_while PassesOwn.never (pt_cmpR op_gt (pe_callB call_len_seq rfl ml PySem.boot_len (pa_cons (pv 2) pa_nil)) pe_int (nomark _))
      (pss_cons (ps_set (i := 3) scWords.nd rfl (Or.inl rfl) (pe_bm0 PySem.F.plainAttrs_list PySem.F.slot_list_pop PySem.F.type_list_pop mt_pop (pv 2)))
      (pss_cons (ps_aug (i := 1) scWords.nd rfl (Or.inl rfl) pe_int ip_add)
      (pss_one (ps_if (pt_cmpR op_eq (pe_ix ix_tup (pv 3) pe_int (fun _ _ => rfl)) pe_str (nomark _))
        (pss_cons (ps_expr (pe_bm PySem.F.plainAttrs_list PySem.F.slot_list_append PySem.F.type_list_append mt_append (pv 2) (pa_cons (pe_ix ix_tup (pv 3) pe_int (fun _ _ => rfl)) pa_nil)))
        (pss_one (ps_expr (pe_bm PySem.F.plainAttrs_list PySem.F.slot_list_append PySem.F.type_list_append mt_append (pv 2) (pa_cons (pe_ix ix_tup (pv 3) pe_int (fun _ _ => rfl)) pa_nil))))) pss_nil)))))
    (pss_one (ps_ret (pv 1))))), ?_⟩
  refine ⟨_, rfl, (by show 1 ≤ sizeLine; decide), fun l hl => ?_⟩
  have sL : ∀ o, Same H (upd H l o) := same_new hl
  refine while_by (fun σ H2 => ∃ (vs : List V) (ks : List Kd) (n : Nat) (h : Option V), σ = [some x, some (.int n), some (.ref l), h] ∧ H2 = upd H l (.lst vs) ∧ KdsAt K H vs ks ∧ n + sumW ks = k.words)
    (fun σ _ => match σ with | [_, some (.int n), _, _] => k.words - n.toNat | _ => 0) ⟨[x], [k], 0, none, rfl, rfl, one hk, by rw [sumW_one]; omega⟩ ?_ ?_
  · rintro σ H2 ⟨vs, ks, n, h, rfl, rfl, hv, hn⟩
    refine ⟨_, rfl, l, _, rfl, .inl (SqL.of upd_same), _, _, rfl, rfl, _, rfl, ?_⟩
    refine ite2 (fun c => ?_) (fun c => ?_)
    · have c' : (0 : Int) < (vs.length : Int) := of_decide_eq_true c
      have hne : vs ≠ [] := fun e => by rw [e] at c'; exact absurd c' (by decide)
      obtain ⟨us, v, rfl⟩ : ∃ us v, vs = us ++ [v] := ⟨_, _, (List.dropLast_concat_getLast hne).symm⟩
      obtain ⟨ls, j, rfl, hu, hj⟩ := snoc hv
      rw [sumW_app, sumW_one] at hn
      have hjp := words_pos j
      refine ⟨_, rfl, ?_, l, _, v, rfl, rfl, upd_same, snoc_get, ?_⟩
      · exact .inl ⟨rfl, _, SqL.of upd_same⟩
      rw [upd_upd, List.dropLast_concat]
      have hl2 := len_sumW ls
      have hul := hu.length
      refine ⟨_, rfl, _, _, rfl, rfl, ?_⟩
      have e1 : ((n : Int) + 1) = ((n + 1 : Nat) : Int) := by omega
      cases hj with
      | @num p m t =>
        refine ⟨_, rfl, _, _, _, _, rfl, rfl, (sL _).tup t, (show atI [V.str "num", .int m] 0 = some (.str "num") from rfl), rfl, _, rfl, ite2 (fun c => absurd c (by decide +kernel)) (fun _ => ?_)⟩
        have hw : (Kd.num m).words = 1 := rfl
        rw [hw] at hn
        refine ⟨⟨us, ls, n + 1, _, by rw [← e1] <;> rfl, rfl, hu, by omega⟩, ?_⟩
        show k.words - ((n : Int) + 1).toNat < k.words - (n : Int).toNat
        omega
      | @name p q t h =>
        refine ⟨_, rfl, _, _, _, _, rfl, rfl, (sL _).tup h, (show atI [V.str "name", .str q, .str t] 0 = some (.str "name") from rfl), rfl, _, rfl, ite2 (fun c => absurd c (by decide +kernel)) (fun _ => ?_)⟩
        have hw : (Kd.name q t).words = 1 := rfl
        rw [hw] at hn
        refine ⟨⟨us, ls, n + 1, _, by rw [← e1] <;> rfl, rfl, hu, by omega⟩, ?_⟩
        show k.words - ((n : Int) + 1).toNat < k.words - (n : Int).toNat
        omega
      | @pair p y z a b t ha hb =>
        have hw : (Kd.pair a b).words = 1 + a.words + b.words := rfl
        rw [hw] at hn hjp
        have h1 := words_pos a
        have h2 := words_pos b
        refine ⟨_, rfl, _, _, _, _, rfl, rfl, (sL _).tup t, (show atI [V.str "pair", y, z] 0 = some (.str "pair") from rfl), rfl, _, rfl, ite2 (fun _ => ?_) (fun c => absurd (by decide +kernel) c)⟩
        refine ⟨_, rfl, .inl ⟨rfl, _, SqL.of upd_same⟩, _, rfl, _, _, _, _, rfl, rfl, (sL _).tup t, (show atI [V.str "pair", y, z] 1 = some y from rfl), l, _, _, rfl, rfl, upd_same, Nat.lt_of_lt_of_le (Nat.lt_succ_self _) (small (by omega)), ?_⟩
        rw [upd_upd]
        refine ⟨_, rfl, .inl ⟨rfl, _, SqL.of upd_same⟩, _, rfl, _, _, _, _, rfl, rfl, (sL _).tup t, (show atI [V.str "pair", y, z] 2 = some z from rfl), l, _, _, rfl, rfl, upd_same, Nat.lt_of_lt_of_le (Nat.lt_succ_self _) (small (by rw [List.length_append]; show us.length + 1 + 1 ≤ 1000; omega)), ?_⟩
        rw [upd_upd]
        refine ⟨⟨us ++ [y] ++ [z], ls ++ [a] ++ [b], n + 1, _, by rw [← e1] <;> rfl, rfl, (hu.append (one ha)).append (one hb), by rw [sumW_app, sumW_app, sumW_one, sumW_one]; omega⟩, ?_⟩
        show k.words - ((n : Int) + 1).toNat < k.words - (n : Int).toNat
        omega
    · have c' : ¬ (0 : Int) < (vs.length : Int) := of_decide_eq_false (Bool.eq_false_iff.mpr c)
      have hv0 : vs = [] := List.length_eq_zero_iff.mp (by omega)
      subst hv0
      cases hv
      have e : n = k.words := hn
      subst e
      exact ⟨_, rfl, q _ (sL _)⟩
  · rintro σ H2 Q1 Q2 hq ⟨v, e1, a, xs, e2, hs, i, j, e3, e4, b, e5, h⟩
    exact ⟨v, e1, a, xs, e2, hs, i, j, e3, e4, b, e5, hq _ _ h⟩
end
theorem while_rel {c : TT} {tb : TS} {D : Ends} {σ : St} {H : Hp} (W : Nat → St → Hp → Prop) (m : Nat) (h0 : W m σ H)
    (hs : ∀ m σ H, W m σ H → c σ H fun b H1 => if b = true then tb { D with nx := fun σ' H' => ∃ m', m' < m ∧ W m' σ' H', ct := fun σ' H' => ∃ m', m' < m ∧ W m' σ' H', bk := D.nx } σ H1 else D.nx σ H1)
    (mono : ∀ σ H Q Q', (∀ b H1, Q b H1 → Q' b H1) → c σ H Q → c σ H Q') : tWhile c tb D σ H := by
  refine ⟨W, ⟨m, h0⟩, fun m σ H p => mono σ H _ _ (fun b H1 q => ?_) (hs m σ H p)⟩
  cases b with
  | true => exact ⟨_, fun σ' H' z => z, q⟩
  | false => exact q
def Kd.names : Kd → List (Str × Str)
  | .num _ => []
  | .name q t => [(q, t)]
  | .pair a b => Kd.names a ++ Kd.names b
def addN (acc : List (Str × Str)) (n : Str × Str) : List (Str × Str) := if n ∈ acc then acc else acc ++ [n]
def firsts (acc l : List (Str × Str)) : List (Str × Str) := l.foldl addN acc
def restN (ks : List Kd) : List (Str × Str) := (ks.reverse.map Kd.names).flatten
theorem restN_snoc (ls : List Kd) (j : Kd) : restN (ls ++ [j]) = Kd.names j ++ restN ls := by
  unfold restN
  rw [List.reverse_concat, List.map_cons, List.flatten_cons]
def keyN (n : Str × Str) : List Key := [.inr n.1, .inr n.2]
theorem keyN_inj {m n : Str × Str} (h : keyN m = keyN n) : m = n := by
  cases m; cases n
  simp [keyN] at h
  exact Prod.ext h.1 h.2
theorem put_keys {kvs : List (List Key × V)} {dn : List (Str × Str)} {n : Str × Str} {v : V} (h : kvs.map (·.1) = dn.map keyN) : (putK kvs (keyN n) v).map (·.1) = (addN dn n).map keyN := by
  have e : (kvs.any fun kv => decide (kv.1 = keyN n)) = true ↔ n ∈ dn := by
    rw [List.any_eq_true]
    constructor
    · rintro ⟨p, hp, q⟩
      have m : p.1 ∈ kvs.map (·.1) := List.mem_map.mpr ⟨p, hp, rfl⟩
      rw [h] at m
      obtain ⟨z, hz, ez⟩ := List.mem_map.mp m
      exact keyN_inj (ez.trans (of_decide_eq_true q)) ▸ hz
    · intro hn
      have m : keyN n ∈ dn.map keyN := List.mem_map.mpr ⟨n, hn, rfl⟩
      rw [← h] at m
      obtain ⟨p, hp, ep⟩ := List.mem_map.mp m
      exact ⟨p, hp, decide_eq_true ep⟩
  unfold putK addN
  by_cases hn : n ∈ dn
  · rw [if_pos (e.mpr hn), if_pos hn, ← h, List.map_map]
    refine List.map_congr_left fun p _ => ?_
    show (if p.1 = keyN n then (p.1, v) else p).1 = p.1
    split <;> rfl
  · rw [if_neg (fun z => hn (e.mp z)), if_neg hn, List.map_append, List.map_append, h]
    rfl
theorem addN_len (dn : List (Str × Str)) (n : Str × Str) : (addN dn n).length ≤ dn.length + 1 := by
  unfold addN
  split
  · omega
  · rw [List.length_append]
    exact Nat.le_refl _
theorem paired_names {H : Hp} : ∀ {kvs : List (List Key × V)} {dn : List (Str × Str)} {as : List Addr}, kvs.map (·.1) = dn.map keyN →
    Paired (fun (p : List Key × V) (k : Addr) => H k = some (.tup (p.1.map kV))) kvs as → Paired (fun (n : Str × Str) (a : Addr) => H a = some (.tup [.str n.1, .str n.2])) dn as
  | [], [], _, _, .nil => .nil
  | p :: kvs, n :: dn, _, h, .cons a b => by
    have h1 : p.1 = keyN n := (List.cons.inj h).1
    rw [h1] at a
    exact .cons a (paired_names (List.cons.inj h).2 b)
theorem paired_same {H H' : Hp} (e : Same H H') : ∀ {dn : List (Str × Str)} {as : List Addr}, Paired (fun (n : Str × Str) (a : Addr) => H a = some (.tup [.str n.1, .str n.2])) dn as → Paired (fun (n : Str × Str) (a : Addr) => H' a = some (.tup [.str n.1, .str n.2])) dn as
  | _, _, .nil => .nil
  | _, _, .cons a b => .cons (e _ _ a) (paired_same e b)
theorem sput {H H2 : Hp} {a : Addr} {o : HO} (e : Same H H2) (h : H a = none) : Same H (upd H2 a o) := fun b u q => by rw [upd_ne (ne_of_none q h)]; exact e b u q
def spNames (K : PySem.W.Frag) : Sp := fun vs H Q _ => ∃ (x : V) (k : Kd), vs = [x] ∧ KdAt K H x k ∧ k.words ≤ 900 ∧
  ∀ H' l (as : List Addr), Same H H' → H l = none → H' l = some (.lst (as.map V.ref)) → Paired (fun (n : Str × Str) (a : Addr) => H' a = some (.tup [.str n.1, .str n.2])) (firsts [] (Kd.names k)) as → Q (.ref l) H'
theorem bootList : bootBuiltins "list" = some (.type "list") := by decide +kernel
section
variable {P : Program} {w : World} {K : PySem.W.Frag} {mg : Str → Option Value} {base : Heap}
theorem scNames : FnScope ["kind", "met", "left", "here"] ["kind"] (defScope sNames) := ⟨rfl, rfl, rfl, by decide +kernel, rfl, by decide +kernel, by decide +kernel⟩
theorem ok_names {f : Addr} {fd : FuncData} (F : Fun K "names_in" "names_in" sNames f fd) (ml : mg "len" = none) (mi : mg "list" = none) : FnOk P w K mg base CX0 1 f fd ["kind"] (spNames K) := by
  refine F.ok scNames (fun vs H Q E h => ?_) (fun cdv A outer s H vs Q E hr h => ?_)
  · obtain ⟨x, k, rfl, _⟩ := h
    rfl
  obtain ⟨x, k, rfl, hk, h9, q⟩ := h
  have hu := Nat.lt_of_le_of_lt (Nat.add_le_add_left (show 1 ≤ 64 by decide) _) hr.units
  refine ⟨_, pss_cons (ps_set (i := 1) scNames.nd rfl (Or.inl rfl) pe_dnewT)
    (pss_cons (ps_set (i := 2) scNames.nd rfl (Or.inl rfl) (pe_lst (pa_cons (pv 0) pa_nil)))
    (pss_cons (ps_while PassesOwn.never (pt_cmpR op_gt (pe_callB call_len_seq rfl ml PySem.boot_len (pa_cons (pv 2) pa_nil)) pe_int (nomark _))
      (pss_cons (ps_set (i := 3) scNames.nd rfl (Or.inl rfl) (pe_bm0 PySem.F.plainAttrs_list PySem.F.slot_list_pop PySem.F.type_list_pop mt_pop (pv 2)))
      (pss_one (ps_if (pt_cmpR op_eq (pe_ix ix_tup (pv 3) pe_int (fun _ _ => rfl)) pe_str (nomark _))
        (pss_cons (ps_expr (pe_bm PySem.F.plainAttrs_list PySem.F.slot_list_append PySem.F.type_list_append mt_append (pv 2) (pa_cons (pe_ix ix_tup (pv 3) pe_int (fun _ _ => rfl)) pa_nil)))
        (pss_one (ps_expr (pe_bm PySem.F.plainAttrs_list PySem.F.slot_list_append PySem.F.type_list_append mt_append (pv 2) (pa_cons (pe_ix ix_tup (pv 3) pe_int (fun _ _ => rfl)) pa_nil)))))
        (pss_one (ps_if (pt_cmpR op_eq (pe_ix ix_tup (pv 3) pe_int (fun _ _ => rfl)) pe_str (nomark _))
          (pss_one (ps_dput hu (pv 1) (pe_tup (pa_cons (pe_ix ix_tup (pv 3) pe_int (fun _ _ => rfl)) (pa_cons (pe_ix ix_tup (pv 3) pe_int (fun _ _ => rfl)) pa_nil))) pe_bl rfl)) pss_nil))))))
    (pss_one (ps_ret (pe_callTy (call_list_dT rfl) rfl mi bootList (pa_cons (pv 1) pa_nil)))))), ?_⟩
  refine fun d hd => ⟨_, rfl, (by show 1 ≤ sizeLine; decide), fun l hl => ?_⟩
  have hdl : d ≠ l := fun e => by rw [e] at hl; rw [upd_same] at hl; cases hl
  have hl0 : H l = none := by rw [upd_ne (Ne.symm hdl)] at hl; exact hl
  refine while_rel (fun m σ H2 => ∃ (vs : List V) (ks : List Kd) (kvs : List (List Key × V)) (dn : List (Str × Str)) (h : Option V), σ = [some x, some (.ref d), some (.ref l), h] ∧ Same H H2 ∧ H2 l = some (.lst vs) ∧ H2 d = some (.dT kvs) ∧
      KdsAt K H vs ks ∧ kvs.map (·.1) = dn.map keyN ∧ firsts dn (restN ks) = firsts [] (Kd.names k) ∧ dn.length + sumW ks ≤ k.words ∧ m = sumW ks) (sumW [k])
    ⟨[x], [k], [], [], none, rfl, sput (same_new hd _) hl0, upd_same, by rw [upd_ne hdl]; exact upd_same, one hk, rfl, by show firsts [] (Kd.names k ++ []) = _; rw [List.append_nil], by rw [sumW_one]; show 0 + _ ≤ _; omega, rfl⟩ ?_ ?_
  · rintro m σ H2 ⟨vs, ks, kvs, dn, h, rfl, sH, hL, hD, hv, hkeys, hf, hn, rfl⟩
    refine ⟨_, rfl, l, _, rfl, .inl (SqL.of hL), _, _, rfl, rfl, _, rfl, ?_⟩
    refine ite2 (fun c => ?_) (fun c => ?_)
    · have c' : (0 : Int) < (vs.length : Int) := of_decide_eq_true c
      have hne : vs ≠ [] := fun e => by rw [e] at c'; exact absurd c' (by decide)
      obtain ⟨us, v, rfl⟩ : ∃ us v, vs = us ++ [v] := ⟨_, _, (List.dropLast_concat_getLast hne).symm⟩
      obtain ⟨ls, j, rfl, hus, hj⟩ := snoc hv
      rw [restN_snoc] at hf
      rw [sumW_app, sumW_one] at hn ⊢
      have hjp := words_pos j
      refine ⟨_, rfl, .inl ⟨rfl, _, SqL.of hL⟩, l, _, v, rfl, rfl, hL, snoc_get, ?_⟩
      rw [List.dropLast_concat]
      have hl2 := len_sumW ls
      have hul := hus.length
      have sH1 : Same H (upd H2 l (.lst us)) := sput sH hl0
      have hD1 : upd H2 l (.lst us) d = some (.dT kvs) := by rw [upd_ne hdl]; exact hD
      cases hj with
      | @num p m t =>
        refine ⟨_, rfl, _, _, _, _, rfl, rfl, sH1.tup t, (show atI [V.str "num", .int m] 0 = some (.str "num") from rfl), rfl, _, rfl, ite2 (fun c => absurd c (by decide +kernel)) (fun _ => ?_)⟩
        refine ⟨_, rfl, _, _, _, _, rfl, rfl, sH1.tup t, (show atI [V.str "num", .int m] 0 = some (.str "num") from rfl), rfl, _, rfl, ite2 (fun c => absurd c (by decide +kernel)) (fun _ => ?_)⟩
        exact ⟨sumW ls, by omega, us, ls, kvs, dn, _, rfl, sH1, upd_same, hD1, hus, hkeys, hf, by omega, rfl⟩
      | @name p n t h =>
        refine ⟨_, rfl, _, _, _, _, rfl, rfl, sH1.tup h, (show atI [V.str "name", .str n, .str t] 0 = some (.str "name") from rfl), rfl, _, rfl, ite2 (fun c => absurd c (by decide +kernel)) (fun _ => ?_)⟩
        refine ⟨_, rfl, _, _, _, _, rfl, rfl, sH1.tup h, (show atI [V.str "name", .str n, .str t] 0 = some (.str "name") from rfl), rfl, _, rfl, ite2 (fun _ => ?_) (fun c => absurd (by decide +kernel) c)⟩
        refine ⟨_, rfl, _, rfl, _, _, _, _, rfl, rfl, sH1.tup h, (show atI [V.str "name", .str n, .str t] 1 = some (.str n) from rfl), _, rfl, _, _, _, _, rfl, rfl, sH1.tup h, (show atI [V.str "name", .str n, .str t] 2 = some (.str t) from rfl), (by show 2 ≤ sizeLine; decide), fun b hb => ?_⟩
        have hbd : d ≠ b := ne_of_none hD1 hb
        have hbl : l ≠ b := ne_of_none upd_same hb
        have hb0 : H b = none := by
          cases e : H b with
          | none => rfl
          | some o => rw [sH1 b o e] at hb; cases hb
        have hlen : kvs.length = dn.length := by have := congrArg List.length hkeys; rw [List.length_map, List.length_map] at this; exact this
        have hw : (Kd.name n t).words = 1 := rfl
        rw [hw] at hn
        refine ⟨d, _, rfl, DPut.t (k := keyN (n, t)) (by rw [upd_ne hbd]; exact hD1) (by rw [upd_same] <;> rfl) (Nat.lt_of_lt_of_le (Nat.lt_succ_self _) (small (by omega))), ?_⟩
        have al := addN_len dn (n, t)
        refine ⟨sumW ls, by omega, us, ls, _, addN dn (n, t), _, rfl, sput (sput sH1 hb0) hd, ?_, upd_same, hus, put_keys hkeys, hf, by omega, rfl⟩
        rw [upd_ne (Ne.symm hdl), upd_ne hbl, upd_same]
      | @pair p y z a b t ha hb =>
        have hw : (Kd.pair a b).words = 1 + a.words + b.words := rfl
        rw [hw] at hn hjp ⊢
        have h1 := words_pos a
        have h2 := words_pos b
        refine ⟨_, rfl, _, _, _, _, rfl, rfl, sH1.tup t, (show atI [V.str "pair", y, z] 0 = some (.str "pair") from rfl), rfl, _, rfl, ite2 (fun _ => ?_) (fun c => absurd (by decide +kernel) c)⟩
        refine ⟨_, rfl, .inl ⟨rfl, _, SqL.of upd_same⟩, _, rfl, _, _, _, _, rfl, rfl, sH1.tup t, (show atI [V.str "pair", y, z] 2 = some z from rfl), l, _, _, rfl, rfl, upd_same, Nat.lt_of_lt_of_le (Nat.lt_succ_self _) (small (by omega)), ?_⟩
        rw [upd_upd]
        refine ⟨_, rfl, .inl ⟨rfl, _, SqL.of upd_same⟩, _, rfl, _, _, _, _, rfl, rfl, (sput sH hl0).tup t, (show atI [V.str "pair", y, z] 1 = some y from rfl), l, _, _, rfl, rfl, upd_same, Nat.lt_of_lt_of_le (Nat.lt_succ_self _) (small (by rw [List.length_append]; show us.length + 1 + 1 ≤ 1000; omega)), ?_⟩
        rw [upd_upd]
        have es : sumW (ls ++ [b] ++ [a]) = sumW ls + b.words + a.words := by rw [sumW_app, sumW_app, sumW_one, sumW_one]
        refine ⟨sumW (ls ++ [b] ++ [a]), by rw [es]; omega, us ++ [z] ++ [y], ls ++ [b] ++ [a], kvs, dn, _, rfl, sput sH hl0, upd_same, by rw [upd_ne hdl]; exact hD, (hus.append (one hb)).append (one ha), hkeys, ?_, by rw [es]; omega, rfl⟩
        rw [restN_snoc, restN_snoc, ← List.append_assoc]
        exact hf
    · have c' : ¬ (0 : Int) < (vs.length : Int) := of_decide_eq_false (Bool.eq_false_iff.mpr c)
      have hv0 : vs = [] := List.length_eq_zero_iff.mp (by omega)
      subst hv0
      cases hv
      refine ⟨_, rfl, d, kvs, rfl, hD, fun as o ho pr => ?_⟩
      have ef : dn = firsts [] (Kd.names k) := hf
      subst ef
      have so : Same H2 (upd H2 o (.lst (as.map V.ref))) := same_new ho _
      have ho0 : H o = none := by
        cases e : H o with
        | none => rfl
        | some u => rw [sH o u e] at ho; cases ho
      refine q _ o as (fun b u e => so b u (sH b u e)) ho0 upd_same (paired_same so (paired_names hkeys pr))
  · rintro σ H2 Q1 Q2 hq ⟨v, e1, a, xs, e2, hs, i, j, e3, e4, b, e5, h⟩
    exact ⟨v, e1, a, xs, e2, hs, i, j, e3, e4, b, e5, hq _ _ h⟩
end
end K22
namespace K22
open PySem L2 Kk
abbrev sPut : Stmt := top 8
abbrev sBounded : Stmt := top 9
abbrev sNormal : Stmt := top 10
abbrev sToldKind : Stmt := top 11
abbrev sCell : Stmt := top 16
abbrev sWord : Stmt := top 17
abbrev sTree : Stmt := top 18
abbrev sTold : Stmt := top 19
abbrev sParts : Stmt := top 20
abbrev sSize : Stmt := top 21
abbrev sSaid : Stmt := top 22
abbrev sLacks : Stmt := top 23
abbrev sLaw : Stmt := top 24
theorem at_int {ns : List Int} {i : Int} (h0 : 0 ≤ i) (h1 : i < ns.length) : ∃ v : Int, atI (ns.map V.int) i = some (.int v) := by
  have hk : i.toNat < List.length ns := by omega
  have e : i = ((i.toNat : Nat) : Int) := by omega
  have q : atI (ns.map V.int) ((i.toNat : Nat) : Int) = some (.int ns[i.toNat]) := atI_nat (by simp [hk])
  rw [← e] at q
  exact ⟨_, q⟩
theorem at_ex {α : Type} {xs : List α} {i : Int} (h0 : 0 ≤ i) (h1 : i < xs.length) : ∃ v, atI xs i = some v := by
  have hk : i.toNat < xs.length := by omega
  have e : i = ((i.toNat : Nat) : Int) := by omega
  have q : atI xs ((i.toNat : Nat) : Int) = some xs[i.toNat] := atI_nat (by simp)
  rw [← e] at q
  exact ⟨_, q⟩
def spCell (K : PySem.W.Frag) : Sp := fun vs H Q _ => ∃ (a : Addr) (ns : List Int) (k : Int), vs = [.ref a, .int k] ∧ SqL K H a (ns.map V.int) ∧ ns.length ≤ 63 ∧ 0 ≤ k ∧ k ≤ 1000 ∧ ∀ c : Int, Q (.int c) H
theorem sok_iff (z : Str) : PyData.strOk z = true ↔ ∀ c ∈ z.cps.toList, c < 0x110000 := by
  unfold PyData.strOk
  rw [Array.all_eq_true_iff_forall_mem]
  simp
theorem sok_app {a b : Str} (ha : PyData.strOk a = true) (hb : PyData.strOk b = true) : PyData.strOk (a ++ b) = true := by
  rw [sok_iff] at *
  intro c hc
  have hc' : c ∈ (a.cps ++ b.cps).toList := hc
  rw [Array.toList_append] at hc'
  rcases List.mem_append.mp hc' with h | h
  · exact ha c h
  · exact hb c h
theorem sok_slice {z : Str} (h : PyData.strOk z = true) (l u : Option Int) : PyData.strOk (Txt.slice z l u) = true := by
  unfold Txt.slice
  split
  · exact h
  · rw [sok_iff] at *
    intro c hc
    have hc' : c ∈ (Builtin.Str.strSliceIndices l u 1 z.length).filterMap (z.cps[·]?) := by simpa using hc
    obtain ⟨i, _, e⟩ := List.mem_filterMap.mp hc'
    exact h c (by simpa using Array.mem_of_getElem? e)
theorem sok_rep {x : Str} (h : PyData.strOk x = true) : ∀ (n : Nat) (acc : Array Nat), (∀ c ∈ acc.toList, c < 0x110000) → ∀ c ∈ ((List.replicate n x.cps).foldl (· ++ ·) acc).toList, c < 0x110000
  | 0, acc, ha => ha
  | n + 1, acc, ha => by
    rw [List.replicate_succ, List.foldl_cons]
    refine sok_rep h n _ fun c hc => ?_
    rw [Array.toList_append] at hc
    rcases List.mem_append.mp hc with q | q
    · exact ha c q
    · exact (sok_iff x).mp h c q
theorem sok_mul {x : Str} (h : PyData.strOk x = true) (n : Int) : PyData.strOk (Txt.mul x n) = true := by
  unfold Txt.mul
  split
  · decide +kernel
  · split
    · exact h
    · rw [sok_iff]
      exact sok_rep h _ _ (fun c hc => by simp at hc)
theorem sok_at {z : Str} {i : Int} {g : Nat} (h : PyData.strOk z = true) (hm : atI z.cps.toList i = some g) : PyData.strOk ⟨#[g]⟩ = true := by
  rw [sok_iff] at *
  intro c hc
  have : c = g := by simpa using hc
  subst this
  unfold atI at hm
  obtain ⟨j, _, e⟩ := Option.bind_eq_some_iff.mp hm
  exact h c (List.mem_of_getElem? e)
def Kd.sok : Kd → Bool
  | .num _ => true
  | .name q t => PyData.strOk q && PyData.strOk t
  | .pair a b => Kd.sok a && Kd.sok b
theorem sok2 {q t : Str} (a : PyData.strOk q = true) (b : PyData.strOk t = true) : Kd.sok (.name q t) = true := by
  show (PyData.strOk q && PyData.strOk t) = true
  rw [a, b] <;> rfl
def Lf (k : Kd) : Prop := k.leaf = true ∧ Kd.sok k = true
def spWord : Sp := fun vs H Q _ => ∃ c : Int, vs = [.int c] ∧ ∀ (z : Str) H', Same H H' → z.length ≤ 26 → PyData.strOk z = true → Q (.str z) H'
def noWords : List Str := ["num", "pair", "lit", "as", "if", "let", "two", "first", "second"]
theorem noFlat : (noWords.map V.str).all flatV = true := by decide +kernel
theorem len_app (a b : Str) : (a ++ b).length = a.length + b.length := by
  show Array.size (a.cps ++ b.cps) = _
  rw [Array.size_append] <;> rfl
def strsOf : List Expr → Option (List Str)
  | [] => some []
  | .Constant (.str x) _ _ :: r => (strsOf r).map (x :: ·)
  | _ => none
theorem pa_strs {X : Cx} : ∀ {es : List Expr} {xs : List Str}, strsOf es = some xs → PA X es (fun _ H Q => Q (xs.map V.str) H)
  | [], xs, h => by
    have e : xs = [] := (Option.some.inj h).symm
    subst e
    exact pa_nil
  | .Constant (.str x) j p :: r, xs, h => by
    have h' : (strsOf r).map (x :: ·) = some xs := h
    cases e : strsOf r with
    | none => rw [e] at h'; cases h'
    | some ys =>
      rw [e] at h'
      have e2 : x :: ys = xs := Option.some.inj h'
      subst e2
      exact pa_cons (pe_str (x := x)) (pa_strs e)
section
variable {P : Program} {w : World} {K : PySem.W.Frag} {mg : Str → Option Value} {base : Heap}
theorem scCell : FnScope ["_law_script", "_law_k", "_law_number"] ["_law_script", "_law_k"] (defScope sCell) := ⟨rfl, rfl, rfl, by decide +kernel, rfl, by decide +kernel, by decide +kernel⟩
theorem ok_cell {f : Addr} {fd : FuncData} (F : Fun K "_law_cell" "_law_cell" sCell f fd) (ml : mg "len" = none) : FnOk P w K mg base CX0 1 f fd ["_law_script", "_law_k"] (spCell K) := by
  refine F.ok scCell (fun vs H Q E h => ?_) (fun cdv A outer s H vs Q E hr h => ?_)
  · obtain ⟨a, ns, k, rfl, _⟩ := h
    rfl
  obtain ⟨a, ns, k, rfl, hS, h63, h0, h1, q⟩ := h
  refine ⟨_, pss_cons (ps_if (pt_cmpR op_lt (pv 1) (pe_callB call_len_seq rfl ml PySem.boot_len (pa_cons (pv 0) pa_nil)) (nomark _))
      (pss_one (ps_ret (pe_ix ix_list (pv 0) (pv 1) (fun _ _ => rfl)))) pss_nil)
    (pss_cons (ps_set (i := 2) scCell.nd rfl (Or.inl rfl) (pe_op op_add (pe_op op_mul (pv 1) pe_int) pe_int))
    (pss_cons (ps_if (pt_cmpR op_gt (pe_callB call_len_seq rfl ml PySem.boot_len (pa_cons (pv 0) pa_nil)) pe_int (nomark _))
      (pss_one (ps_set (i := 2) scCell.nd rfl (Or.inl rfl) (pe_op op_mod (pe_op op_add (pe_op op_mul (pe_ix ix_list (pv 0) (pe_op op_mod (pe_op op_mul (pv 1) pe_int) (pe_callB call_len_seq rfl ml PySem.boot_len (pa_cons (pv 0) pa_nil))) (fun _ _ => rfl)) pe_int) (pe_op op_mul (pv 1) pe_int)) pe_int))) pss_nil)
    (pss_one (ps_ret (pe_op op_mod (pe_op op_mul (pv 2) (pv 2)) pe_int))))), ?_⟩
  have hl : (ns.map V.int).length = ns.length := List.length_map _
  refine ⟨_, rfl, _, rfl, a, _, rfl, .inl hS, _, _, rfl, rfl, _, rfl, ?_⟩
  refine ite2 (fun c => ?_) (fun c => ?_)
  · have c' : k < (((ns.map V.int).length : Nat) : Int) := of_decide_eq_true c
    rw [hl] at c'
    obtain ⟨v, hv⟩ := at_int (ns := ns) h0 c'
    exact ⟨_, rfl, _, rfl, a, _, _, _, rfl, rfl, hS, hv, q _⟩
  · refine ⟨_, rfl, _, _, rfl, rfl, .inr ⟨by omega, by omega⟩, _, _, rfl, rfl, ?_⟩
    refine ⟨_, rfl, a, _, rfl, .inl hS, _, _, rfl, rfl, _, rfl, ?_⟩
    refine ite2 (fun d => ?_) (fun d => ?_)
    · have d' : 0 < (((ns.map V.int).length : Nat) : Int) := of_decide_eq_true d
      rw [hl] at d'
      obtain ⟨v, hv⟩ := at_int (ns := ns) (i := k * 7 % (((ns.map V.int).length : Nat) : Int)) (by rw [hl]; exact Int.emod_nonneg _ (by omega)) (by rw [hl]; exact Int.emod_lt_of_pos _ d')
      refine ⟨_, rfl, _, rfl, _, _, rfl, rfl, .inr ⟨by omega, by omega⟩, _, rfl, a, _, rfl, .inl hS, _, _, rfl, rfl, (by rw [hl]; exact d'), a, _, _, _, rfl, rfl, hS, hv, ?_⟩
      refine ⟨_, _, rfl, rfl, .inr ⟨by omega, by omega⟩, _, rfl, _, _, rfl, rfl, .inr ⟨by omega, by omega⟩, _, _, rfl, rfl, _, _, rfl, rfl, (by show (0 : Int) < 2147483647; decide), ?_⟩
      have g0 := Int.emod_nonneg (v * 48271 + k * 7919) (show (2147483647 : Int) ≠ 0 by decide)
      have g1 := Int.emod_lt_of_pos (v * 48271 + k * 7919) (show (0 : Int) < 2147483647 by decide)
      refine ⟨_, rfl, _, rfl, _, _, rfl, rfl, ?_, _, _, rfl, rfl, (by show (0 : Int) < 2147483629; decide), q _⟩
      exact Or.inl ⟨Int.lt_of_lt_of_le (by decide) g0, Int.lt_trans g1 (by decide)⟩
    · exact ⟨_, rfl, _, rfl, _, _, rfl, rfl, .inl ⟨by omega, by omega⟩, _, _, rfl, rfl, (by show (0 : Int) < 2147483629; decide), q _⟩
theorem scWord : FnScope ["_law_cell_here", "_law_letters", "_law_size_here", "_law_left", "_law_word_here", "_law_at"] ["_law_cell_here"] (defScope sWord) := ⟨rfl, rfl, rfl, by decide +kernel, rfl, by decide +kernel, by decide +kernel⟩
theorem ok_word {f : Addr} {fd : FuncData} (F : Fun K "_law_word" "_law_word" sWord f fd) : FnOk P w K mg base CX0 1 f fd ["_law_cell_here"] spWord := by
  refine F.ok scWord (fun vs H Q E h => ?_) (fun cdv A outer s H vs Q E hr h => ?_)
  · obtain ⟨c, rfl, _⟩ := h
    rfl
  obtain ⟨c, rfl, q⟩ := h
  obtain ⟨u6, d6, k6⟩ : ∃ t, PSs (cxOf CX0 P w K mg base ["_law_cell_here", "_law_letters", "_law_size_here", "_law_left", "_law_word_here", "_law_at"] "_law_word" (defScope sWord) f cdv A outer s H E).nox (List.drop 6 (defBody sWord)) t ∧
      ∀ (x1 x2 x3 x5 : Option V) (z : Str), z.length ≤ 25 → PyData.strOk z = true → t { nx := fun _ H' => Q .non H', rt := Q } [some (.int c), x1, x2, x3, some (.str z), x5] H := by
    refine ⟨_, pss_cons (ps_if (pt_cmpR op_in_seq (pv 4) (pe_lst (pa_strs (xs := noWords) (by rfl)) : PE _ _ _) (by with_unfolding_all rfl)) (pss_one (ps_ret (pe_op op_add_str (pv 4) pe_str))) pss_nil) (pss_one (ps_ret (pv 4))), fun x1 x2 x3 x5 z hz oz => ?_⟩
    refine ⟨_, rfl, (by show 9 ≤ sizeLine; decide), fun l hl => ⟨l, _, rfl, .inl (SqL.of upd_same), rfl, noFlat, _, rfl, ?_⟩⟩
    have sm := same_new hl (.lst (noWords.map V.str))
    refine ite2 (fun _ => ?_) (fun _ => ?_)
    · have hx : (Str.ofString "x").length = 1 := by decide +kernel
      refine ⟨_, rfl, _, _, rfl, rfl, small (by omega), q _ _ sm ?_ (sok_app oz (by decide +kernel))⟩
      rw [len_app]
      omega
    · exact ⟨_, rfl, q _ _ sm (by omega) oz⟩
  refine ⟨_, pss_cons (ps_set (i := 1) scWord.nd rfl (Or.inl rfl) pe_str)
    (pss_cons (ps_set (i := 2) scWord.nd rfl (Or.inl rfl) (pe_op op_add pe_int (pe_op op_mod (pv 0) pe_int)))
    (pss_cons (ps_set (i := 3) scWord.nd rfl (Or.inl rfl) (pe_op op_mod (pe_op op_fdiv (pv 0) pe_int) pe_int))
    (pss_cons (ps_set (i := 4) scWord.nd rfl (Or.inl rfl) (pe_op op_mulS (pe_ix ix_str (pv 1) (pe_op op_mod (pv 3) pe_int) (fun _ _ => rfl)) (pv 2)))
    (pss_cons (ps_set (i := 5) scWord.nd rfl (Or.inl rfl) (pe_op op_mod (pe_op op_fdiv (pv 3) pe_int) (pv 2)))
    (pss_cons (ps_set (i := 4) scWord.nd rfl (Or.inl rfl) (pe_op op_add_str (pe_op op_add_str (pe_slice sl_str (pv 4) po_none (po_some (pv 5))) (pe_ix ix_str (pv 1) (pe_op op_mod (pe_op op_fdiv (pv 3) pe_int) pe_int) (fun _ _ => rfl)))
      (pe_slice sl_str (pv 4) (po_some (pe_op op_add (pv 5) pe_int)) po_none))) d6))))), ?_⟩
  have l26 : (Str.ofString "abcdefghijklmnopqrstuvwxyz").length ≤ sizeLine := by decide +kernel
  have h26 : ((Str.ofString "abcdefghijklmnopqrstuvwxyz").cps.toList.length : Int) = 26 := by decide +kernel
  refine ⟨_, rfl, _, _, rfl, rfl, (by show (0 : Int) < 12; decide), _, _, rfl, rfl, ?_⟩
  refine ⟨_, rfl, _, _, rfl, rfl, ⟨by decide, by decide⟩, _, _, rfl, rfl, (by show (0 : Int) < 1000000007; decide), ?_⟩
  have b0 := Int.emod_nonneg c (show (12 : Int) ≠ 0 by decide)
  have b1 := Int.emod_lt_of_pos c (show (0 : Int) < 12 by decide)
  obtain ⟨g, hg⟩ := at_ex (xs := (Str.ofString "abcdefghijklmnopqrstuvwxyz").cps.toList) (i := c / 12 % 1000000007 % 26) (Int.emod_nonneg _ (by decide)) (by rw [h26]; exact Int.emod_lt_of_pos _ (by decide))
  obtain ⟨g2, hg2⟩ := at_ex (xs := (Str.ofString "abcdefghijklmnopqrstuvwxyz").cps.toList) (i := c / 12 % 1000000007 / 312 % 26) (Int.emod_nonneg _ (by decide)) (by rw [h26]; exact Int.emod_lt_of_pos _ (by decide))
  have oL : PyData.strOk (Str.ofString "abcdefghijklmnopqrstuvwxyz") = true := by decide +kernel
  have og := sok_at oL hg
  have og2 := sok_at oL hg2
  have hm : (Txt.mul ⟨#[g]⟩ (1 + c % 12)).length ≤ 12 := by
    have e := PyProof.Rows.len_mul ⟨#[g]⟩ (1 + c % 12)
    rw [if_neg (by rw [decide_eq_true_iff]; omega)] at e
    have e1 : ((Str.length ⟨#[g]⟩ : Nat) : Int) = 1 := rfl
    rw [e1] at e
    omega
  refine ⟨_, rfl, _, rfl, _, _, rfl, rfl, (by show (0 : Int) < 26; decide), _, _, _, rfl, rfl, l26, hg, _, rfl, _, _, rfl, rfl, mulOk_small (by omega) (by omega) (by show 1 ≤ 1000; decide), ?_⟩
  refine ⟨_, rfl, _, _, rfl, rfl, ⟨by decide, by decide⟩, _, rfl, _, _, rfl, rfl, (by show (0 : Int) < 1 + c % 12; omega), ?_⟩
  have s1 := Txt.slice_le (Txt.mul ⟨#[g]⟩ (1 + c % 12)) none (some (c / 12 % 1000000007 / 26 % (1 + c % 12)))
  have s2 := Txt.slice_le (Txt.mul ⟨#[g]⟩ (1 + c % 12)) (some (c / 12 % 1000000007 / 26 % (1 + c % 12) + 1)) none
  have o1 : Str.length ⟨#[g2]⟩ = 1 := rfl
  refine ⟨_, rfl, _, rfl, _, rfl, _, rfl, small (by omega), _, rfl, _, rfl, _, _, rfl, rfl, ⟨by decide, by decide⟩, _, _, rfl, rfl, (by show (0 : Int) < 26; decide), _, _, _, rfl, rfl, l26, hg2, _, _, rfl, rfl, small (by omega), ?_⟩
  refine ⟨_, rfl, _, rfl, _, _, rfl, rfl, _, rfl, _, rfl, small (by omega), _, _, rfl, rfl, small (by rw [len_app]; omega), k6 _ _ _ _ _ ?_ (sok_app (sok_app (sok_slice (sok_mul og _) _ _) og2) (sok_slice (sok_mul og _) _ _))⟩
  rw [len_app, len_app]
  omega
theorem same_trans {H H1 H2 : Hp} (a : Same H H1) (b : Same H1 H2) : Same H H2 := fun x o e => b x o (a x o e)
end
end K22
namespace K22
open PySem L2 Kk
theorem sqt_upd {K : PySem.W.Frag} {H : Hp} {l a : Addr} {ys xs : List V} {o : HO} (h : H l = some (.lst ys)) (t : SqT K H a xs) : SqT K (upd H l o) a xs := by
  rcases t with (t | ⟨o', t⟩) | t
  · exact .inl (.inl (by rw [upd_ne (fun e => by rw [e, h] at t; cases t)]; exact t))
  · exact .inl (.inr ⟨o', by rw [upd_ne (fun e => by rw [e, h] at t; cases t)]; exact t⟩)
  · exact .inr t
theorem kd_keep {K : PySem.W.Frag} {H H' : Hp} (e : ∀ a xs, SqT K H a xs → SqT K H' a xs) : ∀ {x : V} {k : Kd}, KdAt K H x k → KdAt K H' x k
  | _, _, .num h => .num (e _ _ h)
  | _, _, .name h => .name (e _ _ h)
  | _, _, .pair h a b => .pair (e _ _ h) (kd_keep e a) (kd_keep e b)
theorem kds_keep {K : PySem.W.Frag} {H H' : Hp} (e : ∀ a xs, SqT K H a xs → SqT K H' a xs) : ∀ {xs : List V} {ks : List Kd}, KdsAt K H xs ks → KdsAt K H' xs ks
  | _, _, .nil => .nil
  | _, _, .cons a b => .cons (kd_keep e a) (kds_keep e b)
theorem sql_same {K : PySem.W.Frag} {H H' : Hp} {a : Addr} {xs : List V} (e : Same H H') (h : SqL K H a xs) : SqL K H' a xs := by
  rcases h with (h | ⟨o, h⟩) | h
  · exact .inl (.inl (e _ _ h))
  · exact .inl (.inr ⟨o, e _ _ h⟩)
  · exact .inr h
end K22
namespace K22
open PySem L2 Kk
def flat (ks : List Kd) : List Kd := (ks.map Kd.leaves).flatten
theorem flat_app (a b : List Kd) : flat (a ++ b) = flat a ++ flat b := by
  unfold flat
  rw [List.map_append, List.flatten_append]
theorem flat_one (k : Kd) : flat [k] = k.leaves := List.append_nil _
theorem kds_split {K : PySem.W.Frag} {H : Hp} : ∀ {us vs : List V} {ks : List Kd}, KdsAt K H (us ++ vs) ks → ∃ ls ms, ks = ls ++ ms ∧ KdsAt K H us ls ∧ KdsAt K H vs ms
  | [], _, _, h => ⟨[], _, rfl, .nil, h⟩
  | u :: us, vs, _, .cons a b => by
    obtain ⟨ls, ms, rfl, h1, h2⟩ := kds_split (us := us) b
    exact ⟨_ :: ls, ms, rfl, .cons a h1, h2⟩
theorem split_at {vs : List V} {n : Nat} (h : n + 1 < vs.length) : ∃ us x y ws, vs = us ++ [x, y] ++ ws ∧ us.length = n := by
  refine ⟨vs.take n, vs[n], vs[n + 1], vs.drop (n + 2), ?_, by rw [List.length_take]; omega⟩
  have e1 := (List.take_append_drop n vs).symm
  rw [List.drop_eq_getElem_cons (by omega), List.drop_eq_getElem_cons (by omega)] at e1
  rw [List.append_assoc]
  exact e1
theorem cut_to {vs : List V} {n : Nat} (h : n ≤ vs.length) : cutV vs none (some (n : Int)) = vs.take n := by
  unfold cutV
  rw [HT.sIx_none, HT.sIx_nat, Nat.min_eq_left h]
  rfl
theorem cut_from {vs : List V} {n : Nat} (h : n ≤ vs.length) : cutV vs (some (n : Int)) none = vs.drop n := by
  unfold cutV
  rw [HT.sIx_none, HT.sIx_nat, Nat.min_eq_left h, List.take_of_length_le (by rw [List.length_drop]; exact Nat.le_refl _)]
def spTree (K : PySem.W.Frag) : Sp := fun vs H Q _ => ∃ (p : Addr) (t : Int) (xs : List V) (ks : List Kd), vs = [.ref p, .int t] ∧ H p = some (.lst xs) ∧ KdsAt K H xs ks ∧ 1 ≤ ks.length ∧ ks.length ≤ 20 ∧
  ∀ H' v k, Same H H' → KdAt K H' v k → k.leaves = flat ks → Q v H'
section
variable {P : Program} {w : World} {K : PySem.W.Frag} {mg : Str → Option Value} {base : Heap}
theorem scTree : FnScope ["_law_leaves", "_law_turn", "_law_row", "_law_k"] ["_law_leaves", "_law_turn"] (defScope sTree) := ⟨rfl, rfl, rfl, by decide +kernel, rfl, by decide +kernel, by decide +kernel⟩
theorem ok_tree {f : Addr} {fd : FuncData} (F : Fun K "_law_tree" "_law_tree" sTree f fd) (ml : mg "len" = none) (mi : mg "list" = none) : FnOk P w K mg base CX0 1 f fd ["_law_leaves", "_law_turn"] (spTree K) := by
  refine F.ok scTree (fun vs H Q E h => ?_) (fun cdv A outer s H vs Q E hr h => ?_)
  · obtain ⟨p, t, xs, ks, rfl, _⟩ := h
    rfl
  obtain ⟨p, t, xs, ks, rfl, hp, hks, h1, h20, q⟩ := h
  refine ⟨_, pss_cons (ps_set (i := 2) scTree.nd rfl (Or.inl rfl) (pe_callTy call_list_of rfl mi bootList (pa_cons (pv 0) pa_nil)))
    (pss_cons (ps_while PassesOwn.never (pt_cmpR op_gt (pe_callB call_len_seq rfl ml PySem.boot_len (pa_cons (pv 2) pa_nil)) pe_int (nomark _))
      (pss_cons (ps_set (i := 3) scTree.nd rfl (Or.inl rfl) (pe_op op_mod (pv 1) (pe_op op_sub (pe_callB call_len_seq rfl ml PySem.boot_len (pa_cons (pv 2) pa_nil)) pe_int)))
      (pss_cons (ps_set (i := 1) scTree.nd rfl (Or.inl rfl) (pe_op op_mod (pe_op op_add (pe_op op_mul (pv 1) pe_int) pe_int) pe_int))
      (pss_one (ps_set (i := 2) scTree.nd rfl (Or.inl rfl) (pe_op op_cat (pe_op op_cat (pe_slice sl_list (pv 2) po_none (po_some (pv 3)))
          (pe_lst (pa_cons (pe_tup (pa_cons pe_str (pa_cons (pe_ix ix_list (pv 2) (pv 3) (fun _ _ => rfl)) (pa_cons (pe_ix ix_list (pv 2) (pe_op op_add (pv 3) pe_int) (fun _ _ => rfl)) pa_nil)))) pa_nil)))
          (pe_slice sl_list (pv 2) (po_some (pe_op op_add (pv 3) pe_int)) po_none)))))))
    (pss_one (ps_ret (pe_ix ix_list (pv 2) pe_int (fun _ _ => rfl))))), ?_⟩
  refine ⟨_, rfl, p, xs, rfl, .inl (SqL.of hp), fun r hr0 => ?_⟩
  have hxl := hks.length
  refine while_rel (fun m σ H2 => ∃ (vs : List V) (ls : List Kd) (t2 : Int) (r2 : Addr) (h : Option V), σ = [some (.ref p), some (.int t2), some (.ref r2), h] ∧ Same H H2 ∧ H2 r2 = some (.lst vs) ∧ KdsAt K H2 vs ls ∧ flat ls = flat ks ∧ 1 ≤ vs.length ∧ vs.length ≤ 20 ∧ m = vs.length) xs.length
    ⟨xs, ks, t, r, none, rfl, same_new hr0 _, upd_same, hks.same (same_new hr0 _), rfl, by omega, by omega, rfl⟩ ?_ ?_
  · rintro m σ H2 ⟨vs, ls, t2, r2, h, rfl, sH, hR, hv, hf, hv1, hv20, rfl⟩
    refine ⟨_, rfl, r2, _, rfl, .inl (SqL.of hR), _, _, rfl, rfl, _, rfl, ?_⟩
    refine ite2 (fun c => ?_) (fun c => ?_)
    · have c' : (1 : Int) < (vs.length : Int) := of_decide_eq_true c
      refine ⟨_, rfl, _, rfl, r2, _, rfl, .inl (SqL.of hR), _, _, rfl, rfl, _, _, rfl, rfl, (by show (0 : Int) < (vs.length : Int) - 1; omega), ?_⟩
      have z0 := Int.emod_nonneg t2 (show ((vs.length : Int) - 1) ≠ 0 by omega)
      have z1 := Int.emod_lt_of_pos t2 (show (0 : Int) < (vs.length : Int) - 1 by omega)
      obtain ⟨n, en⟩ : ∃ n : Nat, t2 % ((vs.length : Int) - 1) = (n : Int) := ⟨(t2 % ((vs.length : Int) - 1)).toNat, by omega⟩
      have hn : n + 1 < vs.length := by omega
      refine ⟨_, rfl, _, _, rfl, rfl, .inr ⟨by omega, by omega⟩, _, _, rfl, rfl, _, _, rfl, rfl, (by show (0 : Int) < 2147483647; decide), ?_⟩
      obtain ⟨us, x, y, ws, ev, hun⟩ := split_at hn
      have hx : atI vs (t2 % ((vs.length : Int) - 1)) = some x := by rw [en]; exact atI_nat (by rw [ev, ← hun]; simp)
      have hy : atI vs (t2 % ((vs.length : Int) - 1) + 1) = some y := by rw [en]; exact atI_nat (j := n + 1) (by rw [ev, ← hun]; simp)
      have hc1 : cutV vs none (some (t2 % ((vs.length : Int) - 1))) = us := by
        rw [en, cut_to (by omega), ev, ← hun]
        simp
      have hc2 : cutV vs (some (t2 % ((vs.length : Int) - 1) + 2)) none = ws := by
        rw [en]
        show cutV vs (some (((n + 2 : Nat) : Int))) none = ws
        rw [cut_from (by omega), ev, ← hun]
        simp
      have hvl : vs.length = us.length + 2 + ws.length := by rw [ev]; simp; omega
      refine ⟨_, rfl, _, rfl, _, rfl, r2, _, rfl, SqL.of hR, fun p1 q1 => ?_⟩
      have s1 := same_new q1 (.lst (cutV vs none (some (t2 % ((vs.length : Int) - 1)))))
      refine ⟨_, rfl, _, rfl, r2, _, _, _, rfl, rfl, SqL.of (s1 _ _ hR), hx, _, rfl, _, rfl, _, _, rfl, rfl, r2, _, _, _, rfl, rfl, SqL.of (s1 _ _ hR), hy, (by show 3 ≤ sizeLine; decide), fun p2 q2 => ⟨(by show 1 ≤ sizeLine; decide), fun p3 q3 => ?_⟩⟩
      have s2 := same_new q2 (.tup [.str "pair", x, y])
      have s3 := same_new q3 (.lst [.ref p2])
      refine ⟨p1, p3, _, _, rfl, rfl, s3 _ _ (s2 _ _ upd_same), upd_same, (by rw [hc1]; exact small (by show us.length + 1 ≤ 1000; omega)), fun p4 q4 => ?_⟩
      rw [hc1] at s1 q2 q3 q4 s2 s3 ⊢
      have s4 := same_new q4 (.lst (us ++ [.ref p2]))
      have sA := same_trans (same_trans s1 s2) (same_trans s3 s4)
      refine ⟨_, rfl, _, rfl, _, _, rfl, rfl, _, rfl, r2, _, rfl, SqL.of (sA _ _ hR), fun p5 q5 => ?_⟩
      have s5 := same_new q5 (.lst (cutV vs (some (t2 % ((vs.length : Int) - 1) + 2)) none))
      refine ⟨p4, p5, _, _, rfl, rfl, s5 _ _ upd_same, upd_same, (by rw [hc2]; exact small (by rw [List.length_append]; show us.length + 1 + ws.length ≤ 1000; omega)), fun p6 q6 => ?_⟩
      rw [hc2] at s5 q6 ⊢
      have s6 := same_new q6 (.lst (us ++ [.ref p2] ++ ws))
      have sB := same_trans sA (same_trans s5 s6)
      rw [ev] at hv
      obtain ⟨l12, l3, rfl, h12, h3⟩ := kds_split hv
      obtain ⟨l1, l2, rfl, g1, g2⟩ := kds_split h12
      match l2, g2 with
      | [ka, kb], .cons ga (.cons gb .nil) =>
        have tp : SqT K (upd _ p6 (.lst (us ++ [.ref p2] ++ ws))) p2 [.str "pair", x, y] := SqT.of (s6 _ _ (s5 _ _ (s4 _ _ (s3 _ _ upd_same))))
        refine ⟨us.length + 1 + ws.length, by omega, us ++ [.ref p2] ++ ws, l1 ++ [.pair ka kb] ++ l3, _, p6, _, rfl, same_trans sH sB, upd_same, ((g1.same sB).append (one (.pair tp (ga.same sB) (gb.same sB)))).append (h3.same sB), ?_, ?_, ?_, ?_⟩
        · rw [← hf, flat_app, flat_app, flat_app, flat_app, flat_one]
          show flat l1 ++ (ka.leaves ++ kb.leaves) ++ flat l3 = flat l1 ++ (ka.leaves ++ (kb.leaves ++ [])) ++ flat l3
          rw [List.append_nil]
        · rw [List.length_append, List.length_append]; show 1 ≤ us.length + 1 + ws.length; omega
        · rw [List.length_append, List.length_append]; show us.length + 1 + ws.length ≤ 20; omega
        · rw [List.length_append, List.length_append]; rfl
    · have c' : ¬ (1 : Int) < (vs.length : Int) := of_decide_eq_false (Bool.eq_false_iff.mpr c)
      obtain ⟨x, rfl⟩ : ∃ x, vs = [x] := List.length_eq_one_iff.mp (by omega)
      match ls, hv with
      | [k], .cons hk .nil =>
        refine ⟨_, rfl, r2, _, _, _, rfl, rfl, SqL.of hR, (show atI [x] 0 = some x from rfl), q _ x k sH hk ?_⟩
        rw [← flat_one]
        exact hf
  · rintro σ H2 Q1 Q2 hq ⟨v, e1, a, xs, e2, hs, i, j, e3, e4, b, e5, h⟩
    exact ⟨v, e1, a, xs, e2, hs, i, j, e3, e4, b, e5, hq _ _ h⟩
end
end K22
namespace K22
open PySem L2 Kk
theorem call_isi {X : Cx} : CallR X (.builtin "isinstance") (fun xs H Q => ∃ x T t b, xs = [x, .ty T] ∧ TyOf X.K H x t ∧ PySem.W.kitOne X.K t (.type T) = some b ∧ Q (.bl b) H) := by
  intro pins s σ H xs us Q I rv h
  obtain ⟨x, T, t, b, rfl, ty, e, q⟩ := h
  obtain ⟨u, v, rfl, r1, r2⟩ := rv.two
  cases r2
  exact isinst_ok I r1 ty e fun tk => ⟨.bl b, H, I.tok _, rfl, q⟩
theorem kit_ii (K : PySem.W.Frag) : PySem.W.kitOne K (.type "int") (.type "int") = some true := rfl
theorem kit_ib (K : PySem.W.Frag) : PySem.W.kitOne K (.type "int") (.type "bool") = some false := rfl
theorem kit_ll (K : PySem.W.Frag) : PySem.W.kitOne K (.type "list") (.type "list") = some true := rfl
theorem kit_tt (K : PySem.W.Frag) : PySem.W.kitOne K (.type "tuple") (.type "tuple") = some true := rfl
theorem bootInt : bootBuiltins "int" = some (.type "int") := by decide +kernel
theorem bootTuple : bootBuiltins "tuple" = some (.type "tuple") := by decide +kernel
end K22
namespace K22
open PySem L2 Kk
/-! kinds put in for names -/
def Kd.put (G : Str × Str → Option Kd) : Kd → Kd
  | .num n => .num n
  | .name q t => (G (q, t)).getD (.name q t)
  | .pair a b => .pair (Kd.put G a) (Kd.put G b)
def Kd.depth : Kd → Nat
  | .num _ => 1
  | .name _ _ => 1
  | .pair a b => 1 + max (Kd.depth a) (Kd.depth b)
theorem depth_pos (k : Kd) : 1 ≤ Kd.depth k := by
  cases k with
  | num _ => exact Nat.le_refl _
  | name _ _ => exact Nat.le_refl _
  | pair a b => exact Nat.le_add_right _ _
theorem depth_leaves : ∀ k : Kd, Kd.depth k ≤ k.leaves.length
  | .num _ => Nat.le_refl _
  | .name _ _ => Nat.le_refl _
  | .pair a b => by
    have h1 := depth_leaves a
    have h2 := depth_leaves b
    have h3 := leaves_pos a
    have h4 := leaves_pos b
    show 1 + max (Kd.depth a) (Kd.depth b) ≤ (a.leaves ++ b.leaves).length
    rw [List.length_append]
    omega
/-- what a dict by tuples tells of names -/
def GvAt (K : PySem.W.Frag) (H : Hp) (kvs : List (List Key × V)) (G : Str × Str → Option Kd) : Prop :=
  ∀ n, (valV kvs (keyN n) = none ∧ G n = none) ∨ ∃ v k, valV kvs (keyN n) = some v ∧ G n = some k ∧ KdAt K H v k
theorem GvAt.same {K : PySem.W.Frag} {H H' : Hp} {kvs : List (List Key × V)} {G : Str × Str → Option Kd} (e : Same H H') (h : GvAt K H kvs G) : GvAt K H' kvs G := fun n => by
  rcases h n with h | ⟨v, k, h1, h2, h3⟩
  · exact .inl h
  · exact .inr ⟨v, k, h1, h2, h3.same e⟩
def spPut (K : PySem.W.Frag) (n : Nat) : Sp := fun vs H Q _ => ∃ (x : V) (g : Addr) (k : Kd) (kvs : List (List Key × V)) (G : Str × Str → Option Kd), vs = [x, .ref g] ∧ KdAt K H x k ∧ Kd.depth k ≤ n ∧ H g = some (.dT kvs) ∧ GvAt K H kvs G ∧
  ∀ H' v, Same H H' → KdAt K H' v (Kd.put G k) → Q v H'
section
variable {P : Program} {w : World} {K : PySem.W.Frag} {mg : Str → Option Value} {base : Heap}
theorem scPut : FnScope ["kind", "given"] ["kind", "given"] (defScope sPut) := ⟨rfl, rfl, rfl, by decide +kernel, rfl, by decide +kernel, by decide +kernel⟩
theorem ok_put {f : Addr} {fd : FuncData} (F : Fun K "put" "put" sPut f fd) (bP : Binds K fd ["kind", "given"] []) (kP : PySem.W.keepIn K (.ref f) = true) (mP : mg "put" = some (.ref f)) :
    ∀ n, FnOk P w K mg base CX0 n f fd ["kind", "given"] (spPut K n)
  | 0 => ⟨fun vs H Q E h => by obtain ⟨x, g, k, kvs, G, rfl, _⟩ := h; rfl, fun A outer s H args us vs Q E _ _ _ _ h => by
      obtain ⟨x, g, k, kvs, G, _, _, hd, _⟩ := h
      have := depth_pos k
      omega⟩
  | n + 1 => by
    have IH := ok_put F bP kP mP n
    refine F.ok scPut (fun vs H Q E h => ?_) (fun cdv A outer s H vs Q E hr h => ?_)
    · obtain ⟨x, g, k, kvs, G, rfl, _⟩ := h
      rfl
    obtain ⟨x, g, k, kvs, G, rfl, hk, hd, hg, hG, q⟩ := h
    have hu := hu_of hr
    refine ⟨_, pss_cons (ps_if (pt_cmpR op_eq (pe_ix ix_tup (pv 0) pe_int (fun _ _ => rfl)) pe_str (nomark _))
        (pss_one (ps_ret (pe_tup (pa_cons pe_str (pa_cons (pe_call IH hr rfl mP kP bP .nil pass0 (pa_cons (pe_ix ix_tup (pv 0) pe_int (fun _ _ => rfl)) (pa_cons (pv 1) pa_nil)))
          (pa_cons (pe_call IH hr rfl mP kP bP .nil pass0 (pa_cons (pe_ix ix_tup (pv 0) pe_int (fun _ _ => rfl)) (pa_cons (pv 1) pa_nil))) pa_nil)))))) pss_nil)
      (pss_cons (ps_if (pt_cmpR op_eq (pe_ix ix_tup (pv 0) pe_int (fun _ _ => rfl)) pe_str (nomark _))
        (pss_one (ps_ret (pe_dget2 hu (pv 1) (pe_tup (pa_cons (pe_ix ix_tup (pv 0) pe_int (fun _ _ => rfl)) (pa_cons (pe_ix ix_tup (pv 0) pe_int (fun _ _ => rfl)) pa_nil))) (pv 0) ⟨rfl, rfl, rfl, rfl⟩))) pss_nil)
      (pss_one (ps_ret (pv 0)))), ?_⟩
    cases hk with
    | @num p m t =>
      refine ⟨_, rfl, _, _, _, _, rfl, rfl, t, (show atI [V.str "num", .int m] 0 = some (.str "num") from rfl), rfl, _, rfl, ite2 (fun c => absurd c (by decide +kernel)) (fun _ => ?_)⟩
      refine ⟨_, rfl, _, _, _, _, rfl, rfl, t, (show atI [V.str "num", .int m] 0 = some (.str "num") from rfl), rfl, _, rfl, ite2 (fun c => absurd c (by decide +kernel)) (fun _ => ?_)⟩
      exact ⟨_, rfl, q _ _ (Same.refl _) (.num t)⟩
    | @name p a b t =>
      refine ⟨_, rfl, _, _, _, _, rfl, rfl, t, (show atI [V.str "name", .str a, .str b] 0 = some (.str "name") from rfl), rfl, _, rfl, ite2 (fun c => absurd c (by decide +kernel)) (fun _ => ?_)⟩
      refine ⟨_, rfl, _, _, _, _, rfl, rfl, t, (show atI [V.str "name", .str a, .str b] 0 = some (.str "name") from rfl), rfl, _, rfl, ite2 (fun _ => ?_) (fun c => absurd (by decide +kernel) c)⟩
      refine ⟨_, rfl, g, rfl, .inr ⟨kvs, .inl hg⟩, _, rfl, _, _, _, _, rfl, rfl, t, (show atI [V.str "name", .str a, .str b] 1 = some (.str a) from rfl), _, rfl, _, _, _, _, rfl, rfl, t, (show atI [V.str "name", .str a, .str b] 2 = some (.str b) from rfl), (by show 2 ≤ sizeLine; decide), fun y hy => ?_⟩
      have sy := same_new hy (.tup [.str a, .str b])
      refine ⟨_, rfl, _, DGet.t (k := keyN (a, b)) (sy _ _ hg) upd_same, q _ _ sy ?_⟩
      show KdAt K _ ((valV kvs (keyN (a, b))).getD _) ((G (a, b)).getD (.name a b))
      rcases hG (a, b) with ⟨h1, h2⟩ | ⟨v, k', h1, h2, h3⟩
      · rw [h1, h2]
        exact .name (sy.tup t)
      · rw [h1, h2]
        exact h3.same sy
    | @pair p y z a b t ha hb =>
      have hd' : 1 + max (Kd.depth a) (Kd.depth b) ≤ n + 1 := hd
      refine ⟨_, rfl, _, _, _, _, rfl, rfl, t, (show atI [V.str "pair", y, z] 0 = some (.str "pair") from rfl), rfl, _, rfl, ite2 (fun _ => ?_) (fun c => absurd (by decide +kernel) c)⟩
      refine ⟨_, rfl, _, _, _, _, rfl, rfl, t, (show atI [V.str "pair", y, z] 1 = some y from rfl), _, rfl, y, g, a, kvs, G, rfl, ha, by omega, hg, hG, fun H1 v1 s1 k1 => ?_⟩
      refine ⟨_, rfl, _, _, _, _, rfl, rfl, s1.tup t, (show atI [V.str "pair", y, z] 2 = some z from rfl), _, rfl, z, g, b, kvs, G, rfl, hb.same s1, by omega, s1 _ _ hg, hG.same s1, fun H2 v2 s2 k2 => ?_⟩
      refine ⟨(by show 3 ≤ sizeLine; decide), fun c hc => q _ _ (same_trans (same_trans s1 s2) (same_new hc _)) ?_⟩
      exact .pair (SqT.of upd_same) ((k1.same s2).same (same_new hc _)) (k2.same (same_new hc _))
/-! bounded -/
def spBounded (K : PySem.W.Frag) (CT : Addr) : Sp := fun vs H Q E => ∃ (x : V) (k : Kd) (m : Int), vs = [x, .int m] ∧ KdAt K H x k ∧ k.words ≤ 900 ∧ 0 ≤ m ∧ m ≤ 1000000 ∧
  ∀ H', Same H H' → if (k.words : Int) > m then E (.ref CT) none H' else Q x H'
theorem scBounded : FnScope ["kind", "most", "words"] ["kind", "most"] (defScope sBounded) := ⟨rfl, rfl, rfl, by decide +kernel, rfl, by decide +kernel, by decide +kernel⟩
theorem log_small {i : Int} (h0 : 0 ≤ i) (h1 : i ≤ 1000000) : i.natAbs.log2 < 1920 := by
  by_cases hz : i.natAbs = 0
  · rw [hz]; decide
  · refine (Nat.log2_lt hz).mpr (Nat.lt_of_le_of_lt (m := 1000000) (by omega) ?_)
    exact Nat.lt_of_lt_of_le (show 1000000 < 2 ^ 20 by decide) (Nat.pow_le_pow_right (by decide) (by decide))
theorem txt_small {i : Int} (h0 : 0 ≤ i) (h1 : i ≤ 1000000) : (Str.ofString (toString i)).length ≤ 100000 := by
  have := PyProof.Rows.toString_length_le h0 (k := 7) (by decide) (Int.lt_of_le_of_lt h1 (by decide))
  omega
theorem ok_bounded {f fw CT : Addr} {fd fdw : FuncData} (F : Fun K "bounded" "bounded" sBounded f fd) (GW : FnOk P w K mg base CX0 1 fw fdw ["kind"] (spWords K)) (bW : Binds K fdw ["kind"] []) (kW : PySem.W.keepIn K (.ref fw) = true) (mW : mg "words_in" = some (.ref fw))
    (mT : mg "TooBig" = some (.ref CT)) (xT : PySem.W.excIn K CT bmVE "ValueError.__new__" = true) : FnOk P w K mg base (CX1 P w) 2 f fd ["kind", "most"] (spBounded K CT) := by
  refine F.okX scBounded (fun vs H Q E h => ?_) (fun cdv A outer s H vs Q E hr h => ?_)
  · obtain ⟨x, k, m, rfl, _⟩ := h
    rfl
  obtain ⟨x, k, m, rfl, hk, h9, m0, m1, q⟩ := h
  refine ⟨_, pss_cons (ps_set (i := 2) scBounded.nd rfl (Or.inl rfl) (pe_call GW hr rfl mW kW bW .nil pass0 (pa_cons (pv 0) pa_nil)))
    (pss_cons (ps_if (pt_cmpR op_gt (pv 2) (pv 1) (nomark _))
      (pss_one (ps_raise1 rfl mT xT (pa_cons (pe_fstr (pj_cons pe_str (pj_cons (pe_fv (pv 2)) (pj_cons pe_str (pj_cons (pe_fv (pv 1)) (pj_cons pe_str pj_nil))))) (by decide)) pa_nil))) pss_nil)
    (pss_one (ps_ret (pv 0)))), ?_⟩
  refine ⟨_, rfl, x, k, rfl, hk, h9, fun H1 s1 => ?_⟩
  have q1 := q H1 s1
  refine ⟨_, rfl, _, rfl, _, _, rfl, rfl, _, rfl, ?_⟩
  refine ite2 (fun c => ?_) (fun c => ?_)
  · have c' : (k.words : Int) > m := of_decide_eq_true c
    rw [if_pos c'] at q1
    have l9 : (0 : Int) ≤ (k.words : Int) ∧ (k.words : Int) ≤ 1000000 := ⟨by omega, by omega⟩
    refine ⟨_, rfl, by decide +kernel, _, rfl, .inr ⟨_, rfl, log_small l9.1 l9.2, _, rfl, txt_small l9.1 l9.2, _, rfl, by decide +kernel, _, rfl, .inr ⟨_, rfl, log_small m0 m1, _, rfl, txt_small m0 m1, _, rfl, by decide +kernel, fun z hz => ⟨(by show 1 ≤ sizeLine; decide), q1⟩⟩⟩⟩
  · have c' : ¬ (k.words : Int) > m := fun z => c (decide_eq_true z)
    rw [if_neg c'] at q1
    exact ⟨_, rfl, q1⟩
end
end K22
namespace K22
open PySem L2 Kk
/-! what kinds and faces tell of names -/
def KvAt (K : PySem.W.Frag) (H : Hp) (kvs : List (Key × V)) (g : Str → Option Kd) : Prop :=
  ∀ t, (valV kvs (.inr t) = none ∧ g t = none) ∨ ∃ v k, valV kvs (.inr t) = some v ∧ g t = some k ∧ KdAt K H v k
theorem KvAt.same {K : PySem.W.Frag} {H H' : Hp} {kvs : List (Key × V)} {g : Str → Option Kd} (e : Same H H') (h : KvAt K H kvs g) : KvAt K H' kvs g := fun n => by
  rcases h n with h | ⟨v, k, h1, h2, h3⟩
  · exact .inl h
  · exact .inr ⟨v, k, h1, h2, h3.same e⟩
def FaceAt (K : PySem.W.Frag) (H : Hp) (CF : Addr) (v : V) (g : Str → Option Kd) : Prop :=
  ∃ a dx fs d kvs, v = .ref a ∧ H a = some (.ins CF dx fs) ∧ fs.lookup ("kinds" : Str) = some (.ref d) ∧ H d = some (.dK kvs) ∧ KvAt K H kvs g
theorem FaceAt.same {K : PySem.W.Frag} {H H' : Hp} {CF : Addr} {v : V} {g : Str → Option Kd} (e : Same H H') (h : FaceAt K H CF v g) : FaceAt K H' CF v g := by
  obtain ⟨a, dx, fs, d, kvs, h1, h2, h3, h4, h5⟩ := h
  exact ⟨a, dx, fs, d, kvs, h1, e _ _ h2, h3, e _ _ h4, h5.same e⟩
def PartsAt (K : PySem.W.Frag) (H : Hp) (CF : Addr) (kvs : List (Key × V)) (PG : Str → Option (Str → Option Kd)) : Prop :=
  ∀ q, (valV kvs (.inr q) = none ∧ PG q = none) ∨ ∃ v g, valV kvs (.inr q) = some v ∧ PG q = some g ∧ FaceAt K H CF v g
theorem PartsAt.same {K : PySem.W.Frag} {H H' : Hp} {CF : Addr} {kvs : List (Key × V)} {PG : Str → Option (Str → Option Kd)} (e : Same H H') (h : PartsAt K H CF kvs PG) : PartsAt K H' CF kvs PG := fun n => by
  rcases h n with h | ⟨v, g, h1, h2, h3⟩
  · exact .inl h
  · exact .inr ⟨v, g, h1, h2, h3.same e⟩
def tell (OG : Str → Option Kd) (PG : Str → Option (Str → Option Kd)) (n : Str × Str) : Option Kd := if n.1 = "" then OG n.2 else (PG n.1).bind fun g => g n.2
def okW (z : Str) : Prop := PyData.strOk z = true ∧ z.length ≤ 9000
def Told (o : Option Kd) (K : PySem.W.Frag) (H : Hp) (Q : VK) (X : Prop) : Prop := (o = none ∧ X) ∨ ∃ k, o = some k ∧ ∀ v, KdAt K H v k → Q v H
def spToldKind (K : PySem.W.Frag) (CF CN : Addr) : Sp := fun vs H Q E => ∃ (q t : Str) (o p : Addr) (okv pkv : List (Key × V)) (OG : Str → Option Kd) (PG : Str → Option (Str → Option Kd)),
  vs = [.str q, .str t, .ref o, .ref p] ∧ okW q ∧ okW t ∧ H o = some (.dK okv) ∧ KvAt K H okv OG ∧ H p = some (.dK pkv) ∧ PartsAt K H CF pkv PG ∧ Told (tell OG PG (q, t)) K H Q (E (.ref CN) none H)
section
variable {P : Program} {w : World} {K : PySem.W.Frag} {mg : Str → Option Value} {base : Heap}
theorem scToldKind : FnScope ["part", "word", "own", "parts", "kinds"] ["part", "word", "own", "parts"] (defScope sToldKind) := ⟨rfl, rfl, rfl, by decide +kernel, rfl, by decide +kernel, by decide +kernel⟩
theorem ok_toldKind {f CF CN : Addr} {fd : FuncData} (F : Fun K "told_kind" "told_kind" sToldKind f fd) (cF : Cls K CF) (nF : NoAttr K CF "kinds") (mN : mg "NoKind" = some (.ref CN)) (xN : PySem.W.excIn K CN bmVE "ValueError.__new__" = true) :
    FnOk P w K mg base (CX1 P w) 1 f fd ["part", "word", "own", "parts"] (spToldKind K CF CN) := by
  refine F.okX scToldKind (fun vs H Q E h => ?_) (fun cdv A outer s H vs Q E hr h => ?_)
  · obtain ⟨q, t, o, p, okv, pkv, OG, PG, rfl, _⟩ := h
    rfl
  obtain ⟨q, t, o, p, okv, pkv, OG, PG, rfl, hq, ht, ho, hO, hp, hP, hT⟩ := h
  have hu := hu_of hr
  have lq : q.length ≤ 100000 := Nat.le_trans hq.2 (by decide)
  have lt : t.length ≤ 100000 := Nat.le_trans ht.2 (by decide)
  have zq : q.length ≤ sizeLine := Nat.le_trans lq (by decide)
  have zt : t.length ≤ sizeLine := Nat.le_trans lt (by decide)
  obtain ⟨u1, d1, k1⟩ : ∃ t', PSs (cxOf (CX1 P w) P w K mg base ["part", "word", "own", "parts", "kinds"] "told_kind" (defScope sToldKind) f cdv A outer s H E) (List.drop 1 (defBody sToldKind)) t' ∧
      ∀ (d : Addr) (kvs : List (Key × V)) (g : Str → Option Kd), H d = some (.dK kvs) → KvAt K H kvs g → Told (g t) K H Q (E (.ref CN) none H) →
        t' { nx := fun _ H' => Q .non H', rt := Q } [some (.str q), some (.str t), some (.ref o), some (.ref p), some (.ref d)] H := by
    refine ⟨_, pss_cons (ps_if (pt_cmp (pc_dnotin hu (pv 1) (pv 4)) (by with_unfolding_all rfl))
        (pss_one (ps_raise1 rfl mN xN (pa_cons (pe_fstr (pj_cons pe_str (pj_cons (pe_fr (pv 1)) (pj_cons pe_str (pj_cons (pe_fr (pv 0)) pj_nil)))) (by decide)) pa_nil))) pss_nil)
      (pss_one (ps_ret (pe_dget hu (pv 4) (pv 1) (fun _ _ => rfl)))), ?_⟩
    intro d kvs g hd hg hT
    refine ⟨_, rfl, _, rfl, d, _, rfl, DGet.k (k := .inr t) hd, _, rfl, ?_⟩
    rcases hg t with ⟨h1, h2⟩ | ⟨v, k, h1, h2, h3⟩
    · rw [h1]
      rcases hT with ⟨_, hE⟩ | ⟨k, hk, _⟩
      · refine iteT ⟨_, rfl, by decide +kernel, _, rfl, t, rfl, ht.1, ht.2, fun z hz => ⟨z, rfl, hz, _, rfl, by decide +kernel, _, rfl, q, rfl, hq.1, hq.2, fun z2 hz2 => ⟨z2, rfl, hz2, fun z3 hz3 => ⟨(by show 1 ≤ sizeLine; decide), hE⟩⟩⟩⟩
      · rw [h2] at hk
        cases hk
    · rw [h1]
      rcases hT with ⟨hn, _⟩ | ⟨k', hk, hQ⟩
      · rw [h2] at hn
        cases hn
      · rw [h2] at hk
        cases hk
        exact iteF ⟨_, rfl, _, rfl, d, v, rfl, h1 ▸ DGet.k (k := .inr t) hd, hQ v h3⟩
  refine ⟨_, pss_cons (ps_if (pt_cmpR op_eq (pv 0) pe_str (nomark _)) (pss_one (ps_set (i := 4) scToldKind.nd rfl (Or.inl rfl) (pv 2)))
      (pss_one (ps_if (pt_cmp (pc_din hu (pv 0) (pv 3)) (by with_unfolding_all rfl)) (pss_one (ps_set (i := 4) scToldKind.nd rfl (Or.inl rfl) (pe_fld (pe_dget hu (pv 3) (pv 0) (fun _ _ => rfl)) rfl)))
        (pss_one (ps_raise1 rfl mN xN (pa_cons (pe_fstr (pj_cons pe_str (pj_cons (pe_fv (pv 0)) (pj_cons pe_str (pj_cons (pe_fv (pv 0)) (pj_cons pe_str (pj_cons (pe_fv (pv 1)) pj_nil)))))) (by decide)) pa_nil)))))) d1, ?_⟩
  refine ⟨_, rfl, rfl, _, rfl, ?_⟩
  refine ite2 (fun c => ?_) (fun c => ?_)
  · have c' : V.str q = V.str "" := of_decide_eq_true c
    have e : q = "" := by injection c'
    have hT' : Told (OG t) K H Q (E (.ref CN) none H) := by
      unfold tell at hT
      rw [if_pos e] at hT
      exact hT
    exact ⟨_, rfl, k1 o okv OG ho hO hT'⟩
  · have c' : ¬ q = "" := fun e => c (decide_eq_true (by rw [e]))
    have hT' : Told ((PG q).bind fun g => g t) K H Q (E (.ref CN) none H) := by
      unfold tell at hT
      rw [if_neg c'] at hT
      exact hT
    refine ⟨_, rfl, _, rfl, p, _, rfl, DGet.k (k := .inr q) hp, _, rfl, ?_⟩
    rcases hP q with ⟨h1, h2⟩ | ⟨v, g, h1, h2, h3⟩
    · rw [h1]
      rw [h2] at hT'
      rcases hT' with ⟨_, hE⟩ | ⟨k, hk, _⟩
      · refine iteF ⟨_, rfl, by decide +kernel, _, rfl, .inl ⟨q, rfl, zq, q, rfl, lq, _, rfl, by decide +kernel, _, rfl, .inl ⟨q, rfl, zq, q, rfl, lq, _, rfl, by decide +kernel, _, rfl, .inl ⟨t, rfl, zt, t, rfl, lt, fun z3 hz3 => ⟨(by show 1 ≤ sizeLine; decide), hE⟩⟩⟩⟩⟩
      · cases hk
    · rw [h1]
      rw [h2] at hT'
      obtain ⟨a, dx, fs, d, kvs, rfl, h4, h5, h6, h7⟩ := h3
      exact iteT ⟨_, rfl, _, rfl, p, .ref a, rfl, h1 ▸ DGet.k (k := .inr q) hp, a, CF, dx, fs, _, rfl, h4, cF, nF, h5, k1 d kvs g h6 h7 hT'⟩
end
end K22
namespace K22
open PySem L2 Kk
/-! normal -/
theorem put_congr {G T : Str × Str → Option Kd} : ∀ {k : Kd}, (∀ n ∈ Kd.names k, G n = T n) → Kd.put G k = Kd.put T k
  | .num _, _ => rfl
  | .name q t, h => by
    show (G (q, t)).getD _ = (T (q, t)).getD _
    rw [h (q, t) (List.mem_singleton.mpr rfl)]
  | .pair a b, h => by
    show Kd.pair (Kd.put G a) (Kd.put G b) = Kd.pair (Kd.put T a) (Kd.put T b)
    rw [put_congr (k := a) fun n hn => h n (List.mem_append_left _ hn), put_congr (k := b) fun n hn => h n (List.mem_append_right _ hn)]
theorem addN_mem {acc : List (Str × Str)} {m n : Str × Str} (h : n ∈ acc ∨ n = m) : n ∈ addN acc m := by
  unfold addN
  split
  · rename_i hm
    rcases h with h | rfl
    · exact h
    · exact hm
  · rcases h with h | rfl
    · exact List.mem_append_left _ h
    · exact List.mem_append_right _ (List.mem_singleton.mpr rfl)
theorem firsts_mem : ∀ {l acc : List (Str × Str)} {n : Str × Str}, n ∈ acc ∨ n ∈ l → n ∈ firsts acc l
  | [], acc, n, h => h.elim id fun z => nomatch z
  | m :: l, acc, n, h => by
    refine firsts_mem (l := l) (acc := addN acc m) ?_
    rcases h with h | h
    · exact .inl (addN_mem (.inl h))
    · rcases List.mem_cons.mp h with h | h
      · exact .inl (addN_mem (.inr h))
      · exact .inr h
theorem mem_addN {acc : List (Str × Str)} {m n : Str × Str} (h : n ∈ addN acc m) : n ∈ acc ∨ n = m := by
  unfold addN at h
  split at h
  · exact .inl h
  · rcases List.mem_append.mp h with q | q
    · exact .inl q
    · exact .inr (List.mem_singleton.mp q)
theorem mem_firsts : ∀ {l acc : List (Str × Str)} {n : Str × Str}, n ∈ firsts acc l → n ∈ acc ∨ n ∈ l
  | [], acc, n, h => .inl h
  | m :: l, acc, n, h => by
    rcases mem_firsts (l := l) (acc := addN acc m) h with q | q
    · rcases mem_addN q with q | q
      · exact .inl q
      · exact .inr (q ▸ List.mem_cons_self)
    · exact .inr (List.mem_cons_of_mem _ q)
theorem firsts_len : ∀ (l acc : List (Str × Str)), (firsts acc l).length ≤ acc.length + l.length
  | [], acc => Nat.le_refl _
  | m :: l, acc => by
    have h1 := firsts_len l (addN acc m)
    have h2 := addN_len acc m
    show (firsts (addN acc m) l).length ≤ acc.length + (l.length + 1)
    omega
theorem names_len : ∀ k : Kd, (Kd.names k).length ≤ k.words
  | .num _ => Nat.zero_le _
  | .name _ _ => Nat.le_refl _
  | .pair a b => by
    have h1 := names_len a
    have h2 := names_len b
    show (Kd.names a ++ Kd.names b).length ≤ 1 + a.words + b.words
    rw [List.length_append]
    omega
theorem paired_get {H : Hp} : ∀ {dn : List (Str × Str)} {as : List Addr} {i : Nat} {b : Addr}, Paired (fun (n : Str × Str) (a : Addr) => H a = some (.tup [.str n.1, .str n.2])) dn as → as[i]? = some b → ∃ n : Str × Str, dn[i]? = some n ∧ H b = some (.tup [.str n.1, .str n.2])
  | _, _, _, _, .nil, e => by simp at e
  | _, _, 0, _, .cons a _, e => by
    obtain rfl := Option.some.inj e
    exact ⟨_, rfl, a⟩
  | _, _, i + 1, _, .cons _ r, e => paired_get (i := i) r e
theorem gv_put {K : PySem.W.Frag} {H : Hp} {kvs : List (List Key × V)} {G : Str × Str → Option Kd} {n : Str × Str} {v : V} {k : Kd} (h : GvAt K H kvs G) (hv : KdAt K H v k) : GvAt K H (putK kvs (keyN n) v) (fun m => if m = n then some k else G m) := fun m => by
  by_cases e : m = n
  · subst e
    exact .inr ⟨v, k, by rw [valV_put, if_pos rfl], if_pos rfl, hv⟩
  · have e2 : keyN m ≠ keyN n := fun z => e (keyN_inj z)
    rcases h m with ⟨h1, h2⟩ | ⟨v', k', h1, h2, h3⟩
    · exact .inl ⟨by rw [valV_put, if_neg e2]; exact h1, (if_neg e).trans h2⟩
    · exact .inr ⟨v', k', by rw [valV_put, if_neg e2]; exact h1, (if_neg e).trans h2, h3⟩
def spNormal (K : PySem.W.Frag) (CF CN CT : Addr) : Sp := fun vs H Q E => ∃ (x : V) (k : Kd) (o p : Addr) (m : Int) (okv pkv : List (Key × V)) (OG : Str → Option Kd) (PG : Str → Option (Str → Option Kd)),
  vs = [x, .ref o, .ref p, .int m] ∧ KdAt K H x k ∧ k.words ≤ 900 ∧ Kd.depth k ≤ 40 ∧ (∀ n ∈ Kd.names k, okW n.1 ∧ okW n.2) ∧ 0 ≤ m ∧ m ≤ 1000000 ∧ H o = some (.dK okv) ∧ KvAt K H okv OG ∧ H p = some (.dK pkv) ∧ PartsAt K H CF pkv PG ∧
  (∀ H', Same H H' → (∃ n ∈ Kd.names k, tell OG PG n = none) → E (.ref CN) none H') ∧
  ((∀ n ∈ Kd.names k, tell OG PG n ≠ none) → (Kd.put (tell OG PG) k).words ≤ 900 ∧ ∀ H', Same H H' → if ((Kd.put (tell OG PG) k).words : Int) > m then E (.ref CT) none H' else ∀ v, KdAt K H' v (Kd.put (tell OG PG) k) → Q v H')
section
variable {P : Program} {w : World} {K : PySem.W.Frag} {mg : Str → Option Value} {base : Heap}
theorem scNormal : FnScope ["kind", "own", "parts", "most", "given", "part", "word"] ["kind", "own", "parts", "most"] (defScope sNormal) := ⟨rfl, rfl, rfl, by decide +kernel, rfl, by decide +kernel, by decide +kernel⟩
set_option maxHeartbeats 0 in
theorem ok_normal {f fn fp fb ft CF CN CT : Addr} {dV : Value} {fd fdn fdp fdb fdt : FuncData} (F : FunD K "normal" "normal" sNormal dV f fd)
    (GN : FnOk P w K mg base CX0 1 fn fdn ["kind"] (spNames K)) (bN : Binds K fdn ["kind"] []) (kN : PySem.W.keepIn K (.ref fn) = true) (mN : mg "names_in" = some (.ref fn))
    (GP : FnOk P w K mg base CX0 40 fp fdp ["kind", "given"] (spPut K 40)) (bP : Binds K fdp ["kind", "given"] []) (kP : PySem.W.keepIn K (.ref fp) = true) (mP : mg "put" = some (.ref fp))
    (GB : FnOk P w K mg base (CX1 P w) 2 fb fdb ["kind", "most"] (spBounded K CT)) (bB : Binds K fdb ["kind", "most"] []) (kB : PySem.W.keepIn K (.ref fb) = true) (mB : mg "bounded" = some (.ref fb))
    (GT : FnOk P w K mg base (CX1 P w) 1 ft fdt ["part", "word", "own", "parts"] (spToldKind K CF CN)) (bT : Binds K fdt ["part", "word", "own", "parts"] []) (kT : PySem.W.keepIn K (.ref ft) = true) (mT : mg "told_kind" = some (.ref ft)) :
    FnOk P w K mg base (CX1 P w) 41 f fd ["kind", "own", "parts", "most"] (spNormal K CF CN CT) := by
  refine F.okX scNormal (fun vs H Q E h => ?_) (fun cdv A outer s H vs Q E hr h => ?_)
  · obtain ⟨x, k, o, p, m, okv, pkv, OG, PG, rfl, _⟩ := h
    rfl
  obtain ⟨x, k, o, p, m, okv, pkv, OG, PG, rfl, hk, hw, hdp, hnm, m0, m1, ho, hO, hp, hP, q1, q2⟩ := h
  have hu := hu_of hr
  have hr1 : Room 1 _ := hr.mono (by decide)
  have hr2 : Room 2 _ := hr.mono (by decide)
  refine ⟨_, pss_cons (ps_set (i := 4) scNormal.nd rfl (Or.inl rfl) pe_dnewT)
    (pss_cons (ps_for PassesOwn.leaving rfl (pi_list (pe_call GN hr1 rfl mN kN bN .nil pass0 (pa_cons (pv 0) pa_nil)))
      (pg_tup rfl (pgs_cons (pg_name (i := 5) scNormal.nd rfl (Or.inl rfl)) (pgs_cons (pg_name (i := 6) scNormal.nd rfl (Or.inl rfl)) pgs_nil)))
      (pss_one (ps_dput hu (pv 4) (pe_tup (pa_cons (pv 5) (pa_cons (pv 6) pa_nil))) (pe_call GT hr1 rfl mT kT bT .nil pass1 (pa_cons (pv 5) (pa_cons (pv 6) (pa_cons (pv 1) (pa_cons (pv 2) pa_nil))))) rfl)))
    (pss_one (ps_ret (pe_call GB hr2 rfl mB kB bB .nil pass1 (pa_cons (pe_call GP hr rfl mP kP bP .nil pass0 (pa_cons (pv 0) (pa_cons (pv 4) pa_nil))) (pa_cons (pv 3) pa_nil)))))), ?_⟩
  intro g hg
  have sg := same_new hg (.dT [])
  refine ⟨_, rfl, x, k, rfl, hk.same sg, hw, fun H1 l as s1 _ hl hpr => ?_⟩
  have gne : l ≠ g := fun e => by
    have z := s1 _ _ (upd_same (H := H) (a := g) (o := .dT []))
    rw [← e, hl] at z
    cases z
  have hS1 : Same H H1 := same_trans sg s1
  have hlen := Paired.length hpr
  refine ⟨l, rfl, ⟨_, SqL.of hl⟩, for_list (K := K) (xs := as.map V.ref) (fun i σ H3 => ∃ (x5 x6 : Option V) (kvs : List (List Key × V)), σ = [some x, some (.ref o), some (.ref p), some (.int m), some (.ref g), x5, x6] ∧ Same H H3 ∧ H3 l = some (.lst (as.map V.ref)) ∧ H3 g = some (.dT kvs) ∧
      Paired (fun (n : Str × Str) (a : Addr) => H3 a = some (.tup [.str n.1, .str n.2])) (firsts [] (Kd.names k)) as ∧ kvs.length ≤ i ∧ (∀ n ∈ (firsts [] (Kd.names k)).take i, tell OG PG n ≠ none) ∧ GvAt K H3 kvs (fun n => if n ∈ (firsts [] (Kd.names k)).take i then tell OG PG n else none))
    ⟨none, none, [], rfl, hS1, hl, s1 _ _ upd_same, hpr, Nat.le_refl _, fun n hn => (by simp at hn), fun n => .inl ⟨rfl, by simp⟩⟩ ?_ ?_ ?_⟩
  · rintro i σ H3 _ ⟨x5, x6, kvs, rfl, _, h3, _⟩
    exact SqL.of h3
  · rintro i y σ H3 hy ⟨x5, x6, kvs, rfl, s3, hl3, hg3, hp3, hkl, hto, hG⟩
    obtain ⟨b, hb, rfl⟩ : ∃ b, as[i]? = some b ∧ V.ref b = y := by
      rw [List.getElem?_map] at hy
      exact Option.map_eq_some_iff.mp hy
    obtain ⟨n, hn, htu⟩ := paired_get hp3 hb
    have hnm' : n ∈ Kd.names k := by
      rcases mem_firsts (List.mem_of_getElem? hn) with z | z
      · cases z
      · exact z
    have hil : i < as.length := (List.getElem?_eq_some_iff.mp hb).1
    have etake : (firsts [] (Kd.names k)).take (i + 1) = (firsts [] (Kd.names k)).take i ++ [n] := by
      rw [List.take_add_one, hn]
      rfl
    have hkz : kvs.length < sizeLine := by
      have h1 := firsts_len (Kd.names k) []
      have h2 := names_len k
      have h3 : ([] : List (Str × Str)).length = 0 := rfl
      exact Nat.lt_of_lt_of_le (Nat.lt_succ_self _) (small (by omega))
    refine ⟨b, _, rfl, SqT.of htu, rfl, _, _, rfl, _, _, rfl, rfl, ?_⟩
    refine ⟨_, rfl, _, rfl, _, rfl, _, rfl, n.1, n.2, o, p, okv, pkv, OG, PG, rfl, (hnm n hnm').1, (hnm n hnm').2, s3 _ _ ho, hO.same s3, s3 _ _ hp, hP.same s3, ?_⟩
    cases ht : tell OG PG n with
    | none => exact .inl ⟨rfl, q1 _ s3 ⟨n, hnm', ht⟩⟩
    | some kk =>
      refine .inr ⟨kk, rfl, fun v hv => ?_⟩
      refine ⟨_, rfl, _, rfl, _, rfl, (by show 2 ≤ sizeLine; decide), fun c hc => ?_⟩
      have sc := same_new hc (.tup [.str n.1, .str n.2])
      have hg4 := sc _ _ hg3
      have hcg : g ≠ c := ne_of_none hg3 hc
      have hcl : l ≠ c := ne_of_none hl3 hc
      have hc0 : H c = none := by
        cases e : H c with
        | none => rfl
        | some u => rw [s3 _ _ e] at hc; cases hc
      refine ⟨g, _, rfl, DPut.t (k := keyN n) hg4 upd_same hkz, ?_⟩
      have keep : ∀ a xs, SqT K (upd H3 c (.tup [.str n.1, .str n.2])) a xs → SqT K (upd (upd H3 c (.tup [.str n.1, .str n.2])) g (.dT (putK kvs (keyN n) v))) a xs := fun a xs t => by
        rcases t with (t | ⟨o', t⟩) | t
        · exact .inl (.inl (by rw [upd_ne (fun e => by rw [e, hg4] at t; cases t)]; exact t))
        · exact .inl (.inr ⟨o', by rw [upd_ne (fun e => by rw [e, hg4] at t; cases t)]; exact t⟩)
        · exact .inr t
      refine ⟨_, _, putK kvs (keyN n) v, rfl, sput (same_trans s3 sc) hg, ?_, upd_same, ?_, ?_, ?_, ?_⟩
      · rw [upd_ne gne]
        exact sc _ _ hl3
      · exact Paired.imp' (fun m a e => by rw [upd_ne (fun z => by rw [z, hg3] at e; cases e)]; exact sc _ _ e) hp3
      · have := length_putK kvs (keyN n) v
        omega
      · rw [etake]
        intro m hm
        rcases List.mem_append.mp hm with z | z
        · exact hto m z
        · rw [List.mem_singleton.mp z, ht]
          exact fun e => nomatch e
      · have hG2 := gv_put (n := n) (hG.same sc) (hv.same sc)
        rw [etake]
        intro mm
        have eG : (if mm ∈ (firsts [] (Kd.names k)).take i ++ [n] then tell OG PG mm else none) = (if mm = n then some kk else if mm ∈ (firsts [] (Kd.names k)).take i then tell OG PG mm else none) := by
          by_cases e : mm = n
          · subst e
            rw [if_pos (List.mem_append_right _ (List.mem_singleton.mpr rfl)), if_pos rfl, ht]
          · rw [if_neg e]
            by_cases e2 : mm ∈ (firsts [] (Kd.names k)).take i
            · rw [if_pos e2, if_pos (List.mem_append_left _ e2)]
            · rw [if_neg e2, if_neg (fun z => (List.mem_append.mp z).elim e2 fun z2 => e (List.mem_singleton.mp z2))]
        rcases hG2 mm with ⟨h1, h2⟩ | ⟨v', k', h1, h2, h3⟩
        · exact .inl ⟨h1, eG.trans h2⟩
        · exact .inr ⟨v', k', h1, eG.trans h2, kd_keep keep h3⟩
  · rintro σ H3 ⟨x5, x6, kvs, rfl, s3, hl3, hg3, hp3, hkl, hto, hG⟩
    rw [List.length_map, ← hlen, List.take_length] at hto hG
    have hall : ∀ n ∈ Kd.names k, tell OG PG n ≠ none := fun n hn => hto n (firsts_mem (.inr hn))
    obtain ⟨hb9, q3⟩ := q2 hall
    have epc : Kd.put (fun n => if n ∈ firsts [] (Kd.names k) then tell OG PG n else none) k = Kd.put (tell OG PG) k := put_congr fun n hn => if_pos (firsts_mem (.inr hn))
    refine ⟨_, rfl, _, rfl, x, g, k, kvs, _, rfl, hk.same s3, hdp, hg3, hG, fun H4 v4 s4 hv4 => ?_⟩
    rw [epc] at hv4
    refine ⟨_, rfl, v4, _, m, rfl, hv4, hb9, m0, m1, fun H5 s5 => ?_⟩
    have q4 := q3 H5 (same_trans s3 (same_trans s4 s5))
    by_cases c : ((Kd.put (tell OG PG) k).words : Int) > m
    · rw [if_pos c] at q4 ⊢
      exact q4
    · rw [if_neg c] at q4 ⊢
      exact q4 v4 (hv4.same s5)
end
end K22
namespace K22
open PySem L2 Kk Builtin.Str
theorem idx_to {n j : Nat} (h : j ≤ n) : strSliceIndices none (some (j : Int)) 1 n = List.range j := by
  have e := StrLaws.strSliceIndices_plain (a := 0) (b := j) (len := n) (Nat.zero_le _) h
  have e2 : strSliceIndices none (some (j : Int)) 1 n = strSliceIndices (some ((0 : Nat) : Int)) (some (j : Int)) 1 n := by
    unfold strSliceIndices
    simp
    congr 1
    try omega
  rw [e2, e]
  simp
theorem idx_from {n j : Nat} (h : j ≤ n) : strSliceIndices (some (j : Int)) none 1 n = (List.range (n - j)).map (j + ·) := by
  have e := StrLaws.strSliceIndices_plain (a := j) (b := n) (len := n) h (Nat.le_refl _)
  have e2 : strSliceIndices (some (j : Int)) none 1 n = strSliceIndices (some (j : Int)) (some (n : Int)) 1 n := by
    unfold strSliceIndices
    simp
    congr 1
    split <;> omega
  rw [e2, e]
theorem fm_len {α β : Type} {f : α → Option β} : ∀ {l : List α}, (∀ a ∈ l, (f a).isSome = true) → (l.filterMap f).length = l.length
  | [], _ => rfl
  | a :: l, h => by
    have h1 := h a List.mem_cons_self
    obtain ⟨b, hb⟩ := Option.isSome_iff_exists.mp h1
    rw [List.filterMap_cons_some hb, List.length_cons, List.length_cons, fm_len fun c hc => h c (List.mem_cons_of_mem _ hc)]
theorem slice_len {z : Str} {l u : Option Int} (h : ∀ i ∈ strSliceIndices l u 1 z.length, i < z.length) : (Txt.slice z l u).length = (strSliceIndices l u 1 z.length).length := by
  unfold Txt.slice
  split
  · rename_i c
    simp at c
    exact c.symm
  · show Array.size (List.toArray _) = _
    rw [List.size_toArray]
    refine fm_len fun i hi => ?_
    have := h i hi
    rw [Array.getElem?_eq_getElem (show i < z.cps.size from this)] <;> rfl
theorem slice_to {z : Str} {j : Int} (h0 : 0 ≤ j) (h1 : j ≤ z.length) : (Txt.slice z none (some j)).length = j.toNat := by
  obtain ⟨n, rfl⟩ : ∃ n : Nat, j = n := ⟨j.toNat, by omega⟩
  have hn : n ≤ z.length := by omega
  rw [slice_len (by rw [idx_to hn]; intro i hi; have := List.mem_range.mp hi; omega), idx_to hn, List.length_range]
  simp
theorem slice_from {z : Str} {j : Int} (h0 : 0 ≤ j) (h1 : j ≤ z.length) : (Txt.slice z (some j) none).length = z.length - j.toNat := by
  obtain ⟨n, rfl⟩ : ∃ n : Nat, j = n := ⟨j.toNat, by omega⟩
  have hn : n ≤ z.length := by omega
  rw [slice_len (by rw [idx_from hn]; intro i hi; obtain ⟨k, hk, rfl⟩ := List.mem_map.mp hi; have := List.mem_range.mp hk; omega), idx_from hn, List.length_map, List.length_range]
  simp
end K22
namespace K22
open PySem L2 Kk
def chF (i : Int) : Nat := (atI (Str.ofString "abcdefghijklmnopqrstuvwxyz").cps.toList i).getD 97
def wordRaw (c : Int) : Str := Txt.slice (Txt.mul ⟨#[chF (c / 12 % 1000000007 % 26)]⟩ (1 + c % 12)) none (some (c / 12 % 1000000007 / 26 % (1 + c % 12))) ++ ⟨#[chF (c / 12 % 1000000007 / 312 % 26)]⟩ ++
  Txt.slice (Txt.mul ⟨#[chF (c / 12 % 1000000007 % 26)]⟩ (1 + c % 12)) (some (c / 12 % 1000000007 / 26 % (1 + c % 12) + 1)) none
def wordF (c : Int) : Str := if inV (V.str (wordRaw c)) (noWords.map V.str) = true then wordRaw c ++ "x" else wordRaw c
theorem chF_ok (i : Int) : PyData.strOk ⟨#[chF i]⟩ = true := by
  unfold chF
  cases h : atI (Str.ofString "abcdefghijklmnopqrstuvwxyz").cps.toList i with
  | none => decide +kernel
  | some g => exact sok_at (by decide +kernel) h
theorem raw_ok (c : Int) : PyData.strOk (wordRaw c) = true := sok_app (sok_app (sok_slice (sok_mul (chF_ok _) _) _ _) (chF_ok _)) (sok_slice (sok_mul (chF_ok _) _) _ _)
theorem mul_len (g : Nat) (c : Int) : ((Txt.mul ⟨#[g]⟩ (1 + c % 12)).length : Int) = 1 + c % 12 := by
  have b0 := Int.emod_nonneg c (show (12 : Int) ≠ 0 by decide)
  have e := PyProof.Rows.len_mul ⟨#[g]⟩ (1 + c % 12)
  rw [if_neg (by rw [decide_eq_true_iff]; omega)] at e
  have e1 : ((Str.length ⟨#[g]⟩ : Nat) : Int) = 1 := rfl
  rw [e1] at e
  omega
theorem raw_eq (c : Int) : ((wordRaw c).length : Int) = 1 + c % 12 := by
  have b0 := Int.emod_nonneg c (show (12 : Int) ≠ 0 by decide)
  have m := mul_len (chF (c / 12 % 1000000007 % 26)) c
  have a0 := Int.emod_nonneg (c / 12 % 1000000007 / 26) (show (1 + c % 12 : Int) ≠ 0 by omega)
  have a1 := Int.emod_lt_of_pos (c / 12 % 1000000007 / 26) (show (0 : Int) < 1 + c % 12 by omega)
  unfold wordRaw
  rw [len_app, len_app, slice_to a0 (by omega), slice_from (by omega) (by omega)]
  have o1 : Str.length ⟨#[chF (c / 12 % 1000000007 / 312 % 26)]⟩ = 1 := rfl
  rw [o1]
  omega
theorem raw_len (c : Int) : (wordRaw c).length ≤ 12 := by
  have := raw_eq c
  have := Int.emod_lt_of_pos c (show (0 : Int) < 12 by decide)
  omega
theorem word_ok (c : Int) : PyData.strOk (wordF c) = true := by
  unfold wordF
  split
  · exact sok_app (raw_ok c) (by decide +kernel)
  · exact raw_ok c
theorem word_len (c : Int) : 1 ≤ (wordF c).length ∧ (wordF c).length ≤ 13 := by
  have h1 := raw_len c
  have h2 := raw_eq c
  have h3 := Int.emod_nonneg c (show (12 : Int) ≠ 0 by decide)
  have hx : (Str.ofString "x").length = 1 := by decide +kernel
  unfold wordF
  split
  · rw [len_app]
    omega
  · omega
theorem noWords_len : ∀ z ∈ noWords, z.length ≤ 6 := by decide +kernel
theorem inV_str {z : Str} {ws : List Str} : inV (V.str z) (ws.map V.str) = true ↔ z ∈ ws := by
  unfold inV
  rw [List.any_eq_true]
  constructor
  · rintro ⟨y, hy, e⟩
    obtain ⟨u, hu, rfl⟩ := List.mem_map.mp hy
    have e' : (u == z) = true := e
    rw [← eq_of_beq e']
    exact hu
  · intro h
    exact ⟨V.str z, List.mem_map.mpr ⟨z, h, rfl⟩, (show (z == z) = true from beq_self_eq_true z)⟩
theorem word_long {c : Int} (h : 7 ≤ 1 + c % 12) : ((wordF c).length : Int) = 1 + c % 12 := by
  have e := raw_eq c
  unfold wordF
  split
  · rename_i hm
    have := noWords_len _ (inV_str.mp hm)
    omega
  · exact e
def spWordF : Sp := fun vs H Q _ => ∃ c : Int, vs = [.int c] ∧ ∀ H', Same H H' → Q (.str (wordF c)) H'
section
variable {P : Program} {w : World} {K : PySem.W.Frag} {mg : Str → Option Value} {base : Heap}
theorem ok_wordF {f : Addr} {fd : FuncData} (F : Fun K "_law_word" "_law_word" sWord f fd) : FnOk P w K mg base CX0 1 f fd ["_law_cell_here"] spWordF := by
  refine F.ok scWord (fun vs H Q E h => ?_) (fun cdv A outer s H vs Q E hr h => ?_)
  · obtain ⟨c, rfl, _⟩ := h
    rfl
  obtain ⟨c, rfl, q⟩ := h
  obtain ⟨u6, d6, k6⟩ : ∃ t, PSs (cxOf CX0 P w K mg base ["_law_cell_here", "_law_letters", "_law_size_here", "_law_left", "_law_word_here", "_law_at"] "_law_word" (defScope sWord) f cdv A outer s H E).nox (List.drop 6 (defBody sWord)) t ∧
      ∀ (x1 x2 x3 x5 : Option V), t { nx := fun _ H' => Q .non H', rt := Q } [some (.int c), x1, x2, x3, some (.str (wordRaw c)), x5] H := by
    refine ⟨_, pss_cons (ps_if (pt_cmpR op_in_seq (pv 4) (pe_lst (pa_strs (xs := noWords) (by rfl)) : PE _ _ _) (by with_unfolding_all rfl)) (pss_one (ps_ret (pe_op op_add_str (pv 4) pe_str))) pss_nil) (pss_one (ps_ret (pv 4))), fun x1 x2 x3 x5 => ?_⟩
    refine ⟨_, rfl, (by show 9 ≤ sizeLine; decide), fun l hl => ⟨l, _, rfl, .inl (SqL.of upd_same), rfl, noFlat, _, rfl, ?_⟩⟩
    have sm := same_new hl (.lst (noWords.map V.str))
    have hz := raw_len c
    refine ite2 (fun c1 => ?_) (fun c1 => ?_)
    · have hx : (Str.ofString "x").length = 1 := by decide +kernel
      have c1' : inV (V.str (wordRaw c)) (noWords.map V.str) = true := c1
      have e : wordF c = wordRaw c ++ "x" := if_pos c1'
      refine ⟨_, rfl, _, _, rfl, rfl, small (by omega), ?_⟩
      rw [← e]
      exact q _ sm
    · have c1' : ¬ inV (V.str (wordRaw c)) (noWords.map V.str) = true := c1
      have e : wordF c = wordRaw c := if_neg c1'
      refine ⟨_, rfl, ?_⟩
      rw [← e]
      exact q _ sm
  refine ⟨_, pss_cons (ps_set (i := 1) scWord.nd rfl (Or.inl rfl) pe_str)
    (pss_cons (ps_set (i := 2) scWord.nd rfl (Or.inl rfl) (pe_op op_add pe_int (pe_op op_mod (pv 0) pe_int)))
    (pss_cons (ps_set (i := 3) scWord.nd rfl (Or.inl rfl) (pe_op op_mod (pe_op op_fdiv (pv 0) pe_int) pe_int))
    (pss_cons (ps_set (i := 4) scWord.nd rfl (Or.inl rfl) (pe_op op_mulS (pe_ix ix_str (pv 1) (pe_op op_mod (pv 3) pe_int) (fun _ _ => rfl)) (pv 2)))
    (pss_cons (ps_set (i := 5) scWord.nd rfl (Or.inl rfl) (pe_op op_mod (pe_op op_fdiv (pv 3) pe_int) (pv 2)))
    (pss_cons (ps_set (i := 4) scWord.nd rfl (Or.inl rfl) (pe_op op_add_str (pe_op op_add_str (pe_slice sl_str (pv 4) po_none (po_some (pv 5))) (pe_ix ix_str (pv 1) (pe_op op_mod (pe_op op_fdiv (pv 3) pe_int) pe_int) (fun _ _ => rfl)))
      (pe_slice sl_str (pv 4) (po_some (pe_op op_add (pv 5) pe_int)) po_none))) d6))))), ?_⟩
  have l26 : (Str.ofString "abcdefghijklmnopqrstuvwxyz").length ≤ sizeLine := by decide +kernel
  have h26 : ((Str.ofString "abcdefghijklmnopqrstuvwxyz").cps.toList.length : Int) = 26 := by decide +kernel
  refine ⟨_, rfl, _, _, rfl, rfl, (by show (0 : Int) < 12; decide), _, _, rfl, rfl, ?_⟩
  refine ⟨_, rfl, _, _, rfl, rfl, ⟨by decide, by decide⟩, _, _, rfl, rfl, (by show (0 : Int) < 1000000007; decide), ?_⟩
  have b0 := Int.emod_nonneg c (show (12 : Int) ≠ 0 by decide)
  have b1 := Int.emod_lt_of_pos c (show (0 : Int) < 12 by decide)
  obtain ⟨g, hg⟩ := at_ex (xs := (Str.ofString "abcdefghijklmnopqrstuvwxyz").cps.toList) (i := c / 12 % 1000000007 % 26) (Int.emod_nonneg _ (by decide)) (by rw [h26]; exact Int.emod_lt_of_pos _ (by decide))
  obtain ⟨g2, hg2⟩ := at_ex (xs := (Str.ofString "abcdefghijklmnopqrstuvwxyz").cps.toList) (i := c / 12 % 1000000007 / 312 % 26) (Int.emod_nonneg _ (by decide)) (by rw [h26]; exact Int.emod_lt_of_pos _ (by decide))
  have oL : PyData.strOk (Str.ofString "abcdefghijklmnopqrstuvwxyz") = true := by decide +kernel
  have og := sok_at oL hg
  have og2 := sok_at oL hg2
  have hm : (Txt.mul ⟨#[g]⟩ (1 + c % 12)).length ≤ 12 := by
    have e := PyProof.Rows.len_mul ⟨#[g]⟩ (1 + c % 12)
    rw [if_neg (by rw [decide_eq_true_iff]; omega)] at e
    have e1 : ((Str.length ⟨#[g]⟩ : Nat) : Int) = 1 := rfl
    rw [e1] at e
    omega
  refine ⟨_, rfl, _, rfl, _, _, rfl, rfl, (by show (0 : Int) < 26; decide), _, _, _, rfl, rfl, l26, hg, _, rfl, _, _, rfl, rfl, mulOk_small (by omega) (by omega) (by show 1 ≤ 1000; decide), ?_⟩
  refine ⟨_, rfl, _, _, rfl, rfl, ⟨by decide, by decide⟩, _, rfl, _, _, rfl, rfl, (by show (0 : Int) < 1 + c % 12; omega), ?_⟩
  have s1 := Txt.slice_le (Txt.mul ⟨#[g]⟩ (1 + c % 12)) none (some (c / 12 % 1000000007 / 26 % (1 + c % 12)))
  have s2 := Txt.slice_le (Txt.mul ⟨#[g]⟩ (1 + c % 12)) (some (c / 12 % 1000000007 / 26 % (1 + c % 12) + 1)) none
  have o1 : Str.length ⟨#[g2]⟩ = 1 := rfl
  refine ⟨_, rfl, _, rfl, _, rfl, _, rfl, small (by omega), _, rfl, _, rfl, _, _, rfl, rfl, ⟨by decide, by decide⟩, _, _, rfl, rfl, (by show (0 : Int) < 26; decide), _, _, _, rfl, rfl, l26, hg2, _, _, rfl, rfl, small (by omega), ?_⟩
  refine ⟨_, rfl, _, rfl, _, _, rfl, rfl, _, rfl, _, rfl, small (by omega), _, _, rfl, rfl, small (by rw [len_app]; omega), ?_⟩
  have eg : chF (c / 12 % 1000000007 % 26) = g := by unfold chF; rw [hg]; rfl
  have eg2 : chF (c / 12 % 1000000007 / 312 % 26) = g2 := by unfold chF; rw [hg2]; rfl
  have ez : wordRaw c = Txt.slice (Txt.mul ⟨#[g]⟩ (1 + c % 12)) none (some (c / 12 % 1000000007 / 26 % (1 + c % 12))) ++ ⟨#[g2]⟩ ++ Txt.slice (Txt.mul ⟨#[g]⟩ (1 + c % 12)) (some (c / 12 % 1000000007 / 26 % (1 + c % 12) + 1)) none := by
    unfold wordRaw
    rw [eg, eg2]
  rw [← ez]
  exact k6 _ _ _ _
end
end K22
namespace K22
open PySem L2 Kk
def mergeAt : Nat → List Kd → List Kd
  | 0, a :: b :: r => .pair a b :: r
  | n + 1, a :: r => a :: mergeAt n r
  | _, r => r
def treeF : Nat → List Kd → Int → Kd
  | 0, ks, _ => ks.headD (.num 0)
  | m + 1, ks, t => if ks.length ≤ 1 then ks.headD (.num 0) else treeF m (mergeAt (t % ((ks.length : Int) - 1)).toNat ks) ((t * 48271 + 7919) % 2147483647)
theorem merge_eq (x y : Kd) (c : List Kd) : ∀ a : List Kd, mergeAt a.length (a ++ [x, y] ++ c) = a ++ [.pair x y] ++ c
  | [] => rfl
  | z :: a => by
    show z :: mergeAt a.length (a ++ [x, y] ++ c) = z :: (a ++ [.pair x y] ++ c)
    rw [merge_eq x y c a]
theorem merge_map {f : Kd → Kd} (hf : ∀ a b, f (.pair a b) = .pair (f a) (f b)) : ∀ (n : Nat) (ks : List Kd), (mergeAt n ks).map f = mergeAt n (ks.map f)
  | 0, [] => rfl
  | 0, [_] => rfl
  | 0, a :: b :: r => by
    show f (.pair a b) :: r.map f = .pair (f a) (f b) :: r.map f
    rw [hf]
  | n + 1, [] => rfl
  | n + 1, a :: r => by
    show f a :: (mergeAt n r).map f = f a :: mergeAt n (r.map f)
    rw [merge_map hf n r]
theorem tree_map {f : Kd → Kd} (hf : ∀ a b, f (.pair a b) = .pair (f a) (f b)) : ∀ (m : Nat) (ks : List Kd) (t : Int), ks ≠ [] → f (treeF m ks t) = treeF m (ks.map f) t
  | 0, [], _, h => absurd rfl h
  | 0, a :: r, _, _ => rfl
  | m + 1, ks, t, h => by
    unfold treeF
    rw [List.length_map]
    split
    · match ks, h with
      | a :: r, _ => rfl
    · rename_i hl
      rw [← merge_map hf]
      refine tree_map hf m _ _ ?_
      match ks, h, hl with
      | [a], _, hl => exact absurd (Nat.le_refl 1) hl
      | a :: b :: r, _, _ =>
        cases (t % (((a :: b :: r).length : Int) - 1)).toNat with
        | zero => exact List.cons_ne_nil _ _
        | succ n => exact List.cons_ne_nil _ _
def spTreeF (K : PySem.W.Frag) : Sp := fun vs H Q _ => ∃ (p : Addr) (t : Int) (xs : List V) (ks : List Kd), vs = [.ref p, .int t] ∧ H p = some (.lst xs) ∧ KdsAt K H xs ks ∧ 1 ≤ ks.length ∧ ks.length ≤ 20 ∧
  ∀ H' v k, Same H H' → KdAt K H' v k → k.leaves = flat ks → k = treeF ks.length ks t → Q v H'
section
variable {P : Program} {w : World} {K : PySem.W.Frag} {mg : Str → Option Value} {base : Heap}
theorem ok_treeF {f : Addr} {fd : FuncData} (F : Fun K "_law_tree" "_law_tree" sTree f fd) (ml : mg "len" = none) (mi : mg "list" = none) : FnOk P w K mg base CX0 1 f fd ["_law_leaves", "_law_turn"] (spTreeF K) := by
  refine F.ok scTree (fun vs H Q E h => ?_) (fun cdv A outer s H vs Q E hr h => ?_)
  · obtain ⟨p, t, xs, ks, rfl, _⟩ := h
    rfl
  obtain ⟨p, t, xs, ks, rfl, hp, hks, h1, h20, q⟩ := h
  refine ⟨_, pss_cons (ps_set (i := 2) scTree.nd rfl (Or.inl rfl) (pe_callTy call_list_of rfl mi bootList (pa_cons (pv 0) pa_nil)))
    (pss_cons (ps_while PassesOwn.never (pt_cmpR op_gt (pe_callB call_len_seq rfl ml PySem.boot_len (pa_cons (pv 2) pa_nil)) pe_int (nomark _))
      (pss_cons (ps_set (i := 3) scTree.nd rfl (Or.inl rfl) (pe_op op_mod (pv 1) (pe_op op_sub (pe_callB call_len_seq rfl ml PySem.boot_len (pa_cons (pv 2) pa_nil)) pe_int)))
      (pss_cons (ps_set (i := 1) scTree.nd rfl (Or.inl rfl) (pe_op op_mod (pe_op op_add (pe_op op_mul (pv 1) pe_int) pe_int) pe_int))
      (pss_one (ps_set (i := 2) scTree.nd rfl (Or.inl rfl) (pe_op op_cat (pe_op op_cat (pe_slice sl_list (pv 2) po_none (po_some (pv 3)))
          (pe_lst (pa_cons (pe_tup (pa_cons pe_str (pa_cons (pe_ix ix_list (pv 2) (pv 3) (fun _ _ => rfl)) (pa_cons (pe_ix ix_list (pv 2) (pe_op op_add (pv 3) pe_int) (fun _ _ => rfl)) pa_nil)))) pa_nil)))
          (pe_slice sl_list (pv 2) (po_some (pe_op op_add (pv 3) pe_int)) po_none)))))))
    (pss_one (ps_ret (pe_ix ix_list (pv 2) pe_int (fun _ _ => rfl))))), ?_⟩
  refine ⟨_, rfl, p, xs, rfl, .inl (SqL.of hp), fun r hr0 => ?_⟩
  have hxl := hks.length
  refine while_rel (fun m σ H2 => ∃ (vs : List V) (ls : List Kd) (t2 : Int) (r2 : Addr) (h : Option V), σ = [some (.ref p), some (.int t2), some (.ref r2), h] ∧ Same H H2 ∧ H2 r2 = some (.lst vs) ∧ KdsAt K H2 vs ls ∧ flat ls = flat ks ∧ treeF ls.length ls t2 = treeF ks.length ks t ∧ 1 ≤ vs.length ∧ vs.length ≤ 20 ∧ m = vs.length) xs.length
    ⟨xs, ks, t, r, none, rfl, same_new hr0 _, upd_same, hks.same (same_new hr0 _), rfl, rfl, by omega, by omega, rfl⟩ ?_ ?_
  · rintro m σ H2 ⟨vs, ls, t2, r2, h, rfl, sH, hR, hv, hf, hT, hv1, hv20, rfl⟩
    refine ⟨_, rfl, r2, _, rfl, .inl (SqL.of hR), _, _, rfl, rfl, _, rfl, ?_⟩
    refine ite2 (fun c => ?_) (fun c => ?_)
    · have c' : (1 : Int) < (vs.length : Int) := of_decide_eq_true c
      refine ⟨_, rfl, _, rfl, r2, _, rfl, .inl (SqL.of hR), _, _, rfl, rfl, _, _, rfl, rfl, (by show (0 : Int) < (vs.length : Int) - 1; omega), ?_⟩
      have z0 := Int.emod_nonneg t2 (show ((vs.length : Int) - 1) ≠ 0 by omega)
      have z1 := Int.emod_lt_of_pos t2 (show (0 : Int) < (vs.length : Int) - 1 by omega)
      obtain ⟨n, en⟩ : ∃ n : Nat, t2 % ((vs.length : Int) - 1) = (n : Int) := ⟨(t2 % ((vs.length : Int) - 1)).toNat, by omega⟩
      have hn : n + 1 < vs.length := by omega
      refine ⟨_, rfl, _, _, rfl, rfl, .inr ⟨by omega, by omega⟩, _, _, rfl, rfl, _, _, rfl, rfl, (by show (0 : Int) < 2147483647; decide), ?_⟩
      obtain ⟨us, x, y, ws, ev, hun⟩ := split_at hn
      have hx : atI vs (t2 % ((vs.length : Int) - 1)) = some x := by rw [en]; exact atI_nat (by rw [ev, ← hun]; simp)
      have hy : atI vs (t2 % ((vs.length : Int) - 1) + 1) = some y := by rw [en]; exact atI_nat (j := n + 1) (by rw [ev, ← hun]; simp)
      have hc1 : cutV vs none (some (t2 % ((vs.length : Int) - 1))) = us := by
        rw [en, cut_to (by omega), ev, ← hun]
        simp
      have hc2 : cutV vs (some (t2 % ((vs.length : Int) - 1) + 2)) none = ws := by
        rw [en]
        show cutV vs (some (((n + 2 : Nat) : Int))) none = ws
        rw [cut_from (by omega), ev, ← hun]
        simp
      have hvl : vs.length = us.length + 2 + ws.length := by rw [ev]; simp; omega
      refine ⟨_, rfl, _, rfl, _, rfl, r2, _, rfl, SqL.of hR, fun p1 q1 => ?_⟩
      have s1 := same_new q1 (.lst (cutV vs none (some (t2 % ((vs.length : Int) - 1)))))
      refine ⟨_, rfl, _, rfl, r2, _, _, _, rfl, rfl, SqL.of (s1 _ _ hR), hx, _, rfl, _, rfl, _, _, rfl, rfl, r2, _, _, _, rfl, rfl, SqL.of (s1 _ _ hR), hy, (by show 3 ≤ sizeLine; decide), fun p2 q2 => ⟨(by show 1 ≤ sizeLine; decide), fun p3 q3 => ?_⟩⟩
      have s2 := same_new q2 (.tup [.str "pair", x, y])
      have s3 := same_new q3 (.lst [.ref p2])
      refine ⟨p1, p3, _, _, rfl, rfl, s3 _ _ (s2 _ _ upd_same), upd_same, (by rw [hc1]; exact small (by show us.length + 1 ≤ 1000; omega)), fun p4 q4 => ?_⟩
      rw [hc1] at s1 q2 q3 q4 s2 s3 ⊢
      have s4 := same_new q4 (.lst (us ++ [.ref p2]))
      have sA := same_trans (same_trans s1 s2) (same_trans s3 s4)
      refine ⟨_, rfl, _, rfl, _, _, rfl, rfl, _, rfl, r2, _, rfl, SqL.of (sA _ _ hR), fun p5 q5 => ?_⟩
      have s5 := same_new q5 (.lst (cutV vs (some (t2 % ((vs.length : Int) - 1) + 2)) none))
      refine ⟨p4, p5, _, _, rfl, rfl, s5 _ _ upd_same, upd_same, (by rw [hc2]; exact small (by rw [List.length_append]; show us.length + 1 + ws.length ≤ 1000; omega)), fun p6 q6 => ?_⟩
      rw [hc2] at s5 q6 ⊢
      have s6 := same_new q6 (.lst (us ++ [.ref p2] ++ ws))
      have sB := same_trans sA (same_trans s5 s6)
      rw [ev] at hv
      have hvl2 := hv.length
      obtain ⟨l12, l3, rfl, h12, h3⟩ := kds_split hv
      obtain ⟨l1, l2, rfl, g1, g2⟩ := kds_split h12
      match l2, g2 with
      | [ka, kb], .cons ga (.cons gb .nil) =>
        have tp : SqT K (upd _ p6 (.lst (us ++ [.ref p2] ++ ws))) p2 [.str "pair", x, y] := SqT.of (s6 _ _ (s5 _ _ (s4 _ _ (s3 _ _ upd_same))))
        refine ⟨us.length + 1 + ws.length, by omega, us ++ [.ref p2] ++ ws, l1 ++ [.pair ka kb] ++ l3, _, p6, _, rfl, same_trans sH sB, upd_same, ((g1.same sB).append (one (.pair tp (ga.same sB) (gb.same sB)))).append (h3.same sB), ?_, ?_, ?_, ?_, ?_⟩
        · rw [← hf, flat_app, flat_app, flat_app, flat_app, flat_one]
          show flat l1 ++ (ka.leaves ++ kb.leaves) ++ flat l3 = flat l1 ++ (ka.leaves ++ (kb.leaves ++ [])) ++ flat l3
          rw [List.append_nil]
        · rw [← hT]
          have e1 : l1.length = us.length := g1.length.symm
          have e3 : l3.length = ws.length := h3.length.symm
          have eL : (l1 ++ [ka, kb] ++ l3).length = (l1 ++ [Kd.pair ka kb] ++ l3).length + 1 := by
            rw [List.length_append, List.length_append, List.length_append, List.length_append]
            show l1.length + 2 + l3.length = l1.length + 1 + l3.length + 1
            omega
          have eZ : (((l1 ++ [ka, kb] ++ l3).length : Nat) : Int) = (vs.length : Int) := by
            rw [List.length_append, List.length_append]
            show ((l1.length + 2 + l3.length : Nat) : Int) = _
            omega
          rw [eL]
          show _ = (if (l1 ++ [ka, kb] ++ l3).length ≤ 1 then _ else _)
          rw [if_neg (by rw [List.length_append, List.length_append]; show ¬ l1.length + 2 + l3.length ≤ 1; omega), eZ, en]
          have eN : ((n : Int)).toNat = l1.length := by omega
          rw [eN, merge_eq]
        · rw [List.length_append, List.length_append]; show 1 ≤ us.length + 1 + ws.length; omega
        · rw [List.length_append, List.length_append]; show us.length + 1 + ws.length ≤ 20; omega
        · rw [List.length_append, List.length_append]; rfl
    · have c' : ¬ (1 : Int) < (vs.length : Int) := of_decide_eq_false (Bool.eq_false_iff.mpr c)
      obtain ⟨x, rfl⟩ : ∃ x, vs = [x] := List.length_eq_one_iff.mp (by omega)
      match ls, hv with
      | [k], .cons hk .nil =>
        refine ⟨_, rfl, r2, _, _, _, rfl, rfl, SqL.of hR, (show atI [x] 0 = some x from rfl), q _ x k sH hk ?_ hT⟩
        rw [← flat_one]
        exact hf
  · rintro σ H2 Q1 Q2 hq ⟨v, e1, a, xs, e2, hs, i, j, e3, e4, b, e5, h⟩
    exact ⟨v, e1, a, xs, e2, hs, i, j, e3, e4, b, e5, hq _ _ h⟩
end
end K22
namespace K22
open PySem L2 Kk
abbrev sInit : Stmt := inClass (top 13) 0
theorem kf : ¬ (("funs" : Str) = "kinds") := by decide +kernel
theorem kf' : ¬ (("kinds" : Str) = "funs") := by decide +kernel
/-- Face(kinds, funs): copies of both -/
def spInit (CF : Addr) : Sp := fun vs H Q _ => ∃ (p dx a b : Addr) (kvs fvs : List (Key × V)), vs = [.ref p, .ref a, .ref b] ∧ H p = some (.ins CF dx []) ∧ H a = some (.dK kvs) ∧ H b = some (.dK fvs) ∧
  ∀ (d : Addr) (fs : List (Str × V)) (H' : Hp), H d = none → H' p = some (.ins CF dx fs) → fs.lookup ("kinds" : Str) = some (.ref d) → H' d = some (.dK kvs) → (∀ c o, H c = some o → c ≠ p → H' c = some o) → Q .non H'
def Kd.ok : Kd → Prop
  | .num _ => True
  | .name q t => okW q ∧ okW t
  | .pair a b => Kd.ok a ∧ Kd.ok b
theorem ok_leaves : ∀ {k : Kd}, (∀ l ∈ k.leaves, Kd.ok l) → Kd.ok k
  | .num _, _ => trivial
  | .name q t, h => h (.name q t) (List.mem_singleton.mpr rfl)
  | .pair a b, h => ⟨ok_leaves fun l hl => h l (List.mem_append_left _ hl), ok_leaves fun l hl => h l (List.mem_append_right _ hl)⟩
theorem names_ok : ∀ {k : Kd}, Kd.ok k → ∀ n ∈ Kd.names k, okW n.1 ∧ okW n.2
  | .num _, _, n, hn => nomatch hn
  | .name q t, h, n, hn => by
    obtain rfl := List.mem_singleton.mp hn
    exact h
  | .pair a b, h, n, hn => by
    rcases List.mem_append.mp hn with z | z
    · exact names_ok h.1 n z
    · exact names_ok h.2 n z
theorem mem_flat {ks : List Kd} {l : Kd} (h : l ∈ flat ks) : ∃ k ∈ ks, l ∈ k.leaves := by
  unfold flat at h
  obtain ⟨m, hm, hl⟩ := List.mem_flatten.mp h
  obtain ⟨k, hk, rfl⟩ := List.mem_map.mp hm
  exact ⟨k, hk, hl⟩
theorem flat_len {ks : List Kd} (h : ∀ k ∈ ks, k.leaf = true) : (flat ks).length = ks.length := by
  induction ks with
  | nil => rfl
  | cons k ks ih =>
    have e : flat (k :: ks) = k.leaves ++ flat ks := rfl
    rw [e, List.length_append, leaves_of_leaf (h k List.mem_cons_self), ih fun j hj => h j (List.mem_cons_of_mem _ hj)]
    show 1 + ks.length = ks.length + 1
    omega
def LfOk (k : Kd) : Prop := k.leaf = true ∧ Kd.ok k
theorem flat_ok {ks : List Kd} (h : ∀ k ∈ ks, LfOk k) : ∀ l ∈ flat ks, Kd.ok l := fun l hl => by
  obtain ⟨k, hk, hlk⟩ := mem_flat hl
  rw [leaves_of_leaf (h k hk).1] at hlk
  rw [List.mem_singleton.mp hlk]
  exact (h k hk).2
theorem okW_word (c : Int) : okW (wordF c) := ⟨word_ok c, by have := (word_len c).2; omega⟩
def spTold (K : PySem.W.Frag) : Sp := fun vs H Q _ => ∃ (c : Int) (wl : Addr) (w1 w2 w3 : Str), vs = [.int c, .ref wl] ∧ H wl = some (.lst [.str "", .str w1, .str w2, .str w3]) ∧ okW w1 ∧ okW w2 ∧ okW w3 ∧
  ∀ H' v k, Same H H' → KdAt K H' v k → Kd.ok k → k.leaves.length ≤ 4 → Q v H'
def spSize (K : PySem.W.Frag) : Sp := fun vs H Q _ => ∃ (x : V) (k : Kd), vs = [x] ∧ KdAt K H x k ∧ k.words ≤ 900 ∧ ∀ H', Same H H' → Q (.int k.words) H'
section
variable {P : Program} {w : World} {K : PySem.W.Frag} {mg : Str → Option Value} {base : Heap}
theorem bootDict : bootBuiltins "dict" = some (.type "dict") := by decide +kernel
theorem scInit : FnScope ["self", "kinds", "funs"] ["self", "kinds", "funs"] (defScope sInit) := ⟨rfl, rfl, rfl, by decide +kernel, rfl, by decide +kernel, by decide +kernel⟩
theorem ok_init {f CF : Addr} {fd : FuncData} (F : Fun K "__init__" "Face.__init__" sInit f fd) (cF : Cls K CF) (nK : NoAttr K CF "kinds") (nF : NoAttr K CF "funs") (md : mg "dict" = none) : FnOk P w K mg base CX0 1 f fd ["self", "kinds", "funs"] (spInit CF) := by
  refine F.ok scInit (fun vs H Q E h => ?_) (fun cdv A outer s H vs Q E hr h => ?_)
  · obtain ⟨p, dx, a, b, kvs, fvs, rfl, _⟩ := h
    rfl
  obtain ⟨p, dx, a, b, kvs, fvs, rfl, hp, ha, hb, q⟩ := h
  refine ⟨_, pss_cons (ps_fld (pv 0) (pe_callTy call_dict_dK rfl md bootDict (pa_cons (pv 1) pa_nil)) rfl) (pss_one (ps_fld (pv 0) (pe_callTy call_dict_dK rfl md bootDict (pa_cons (pv 2) pa_nil)) rfl)), ?_⟩
  refine ⟨_, rfl, a, kvs, rfl, ha, fun d hd => ?_⟩
  have npd : p ≠ d := ne_of_none hp hd
  refine ⟨_, rfl, p, CF, dx, [], rfl, (by rw [upd_ne npd]; exact hp), cF, nK, (by show 0 < 1000; decide), ?_⟩
  have hb1 : upd (upd H d (.dK kvs)) p (.ins CF dx (putF "kinds" (.ref d) [])) b = some (.dK fvs) := by
    rw [upd_ne (ne_of hb hp (by intro z; cases z)), upd_ne (ne_of_none hb hd)]
    exact hb
  refine ⟨_, rfl, b, fvs, rfl, hb1, fun e he => ?_⟩
  have npe : p ≠ e := fun z => by rw [← z, upd_same] at he; cases he
  have nde : d ≠ e := fun z => by rw [← z, upd_ne npd.symm, upd_same] at he; cases he
  refine ⟨_, rfl, p, CF, dx, _, rfl, (by rw [upd_ne npe]; exact upd_same), cF, nF, (by show 1 < 1000; decide), ?_⟩
  refine q d _ _ hd upd_same (by rw [lookup_putF, if_neg kf', lookup_putF, if_pos rfl]) ?_ fun c o ec hc => ?_
  · rw [upd_ne npd.symm, upd_ne nde, upd_ne npd.symm, upd_same]
  · have hce : c ≠ e := fun z => by
      rw [z] at ec hc
      rw [upd_ne hc, upd_ne (ne_of_none ec hd)] at he
      rw [he] at ec
      cases ec
    rw [upd_ne hc, upd_ne hce, upd_ne hc, upd_ne (ne_of_none ec hd)]
    exact ec
theorem scTold : FnScope ["_law_cell_here", "_law_words", "_law_leaves", "_law_k"] ["_law_cell_here", "_law_words"] (defScope sTold) := ⟨rfl, rfl, rfl, by decide +kernel, rfl, by decide +kernel, by decide +kernel⟩
set_option maxHeartbeats 0 in
theorem ok_told {f fw ft : Addr} {fd fdw fdt : FuncData} (F : Fun K "_law_told" "_law_told" sTold f fd)
    (GW : FnOk P w K mg base CX0 1 fw fdw ["_law_cell_here"] spWordF) (bW : Binds K fdw ["_law_cell_here"] []) (kW : PySem.W.keepIn K (.ref fw) = true) (mW : mg "_law_word" = some (.ref fw))
    (GT : FnOk P w K mg base CX0 1 ft fdt ["_law_leaves", "_law_turn"] (spTreeF K)) (bT : Binds K fdt ["_law_leaves", "_law_turn"] []) (kT : PySem.W.keepIn K (.ref ft) = true) (mT : mg "_law_tree" = some (.ref ft)) (mr : mg "range" = none) :
    FnOk P w K mg base CX0 2 f fd ["_law_cell_here", "_law_words"] (spTold K) := by
  refine F.ok scTold (fun vs H Q E h => ?_) (fun cdv A outer s H vs Q E hr h => ?_)
  · obtain ⟨c, wl, w1, w2, w3, rfl, _⟩ := h
    rfl
  obtain ⟨c, wl, w1, w2, w3, rfl, hwl, o1, o2, o3, q⟩ := h
  refine ⟨_, pss_cons (ps_set (i := 2) scTold.nd rfl (Or.inl rfl) (pe_lst pa_nil))
    (pss_cons (ps_for PassesOwn.never rfl (pi_range1 rfl mr (pa_cons (pe_op op_add pe_int (pe_op op_mod (pv 0) pe_int)) pa_nil)) (pg_name (i := 3) scTold.nd rfl (Or.inl rfl))
      (pss_one (ps_if (pt_cmpR op_eq (pe_op op_mod (pe_op op_add (pe_op op_fdiv (pv 0) pe_int) (pv 3)) pe_int) pe_int (nomark _))
        (pss_one (ps_expr (pe_bm PySem.F.plainAttrs_list PySem.F.slot_list_append PySem.F.type_list_append mt_append (pv 2) (pa_cons (pe_tup (pa_cons pe_str (pa_cons (pe_op op_add pe_int (pe_op op_mod (pe_op op_add (pv 0) (pe_op op_mul pe_int (pv 3))) (pe_op op_pow pe_int pe_int))) pa_nil))) pa_nil))))
        (pss_one (ps_expr (pe_bm PySem.F.plainAttrs_list PySem.F.slot_list_append PySem.F.type_list_append mt_append (pv 2) (pa_cons (pe_tup (pa_cons pe_str (pa_cons (pe_ix ix_list (pv 1) (pe_op op_add pe_int (pe_op op_mod (pe_op op_fdiv (pv 0) pe_int) pe_int)) (fun _ _ => rfl))
          (pa_cons (pe_call GW hr rfl mW kW bW .nil pass0 (pa_cons (pe_op op_add (pe_op op_fdiv (pv 0) pe_int) (pe_op op_mul pe_int (pv 3))) pa_nil)) pa_nil)))) pa_nil)))))))
    (pss_one (ps_ret (pe_call GT hr rfl mT kT bT .nil pass0 (pa_cons (pv 2) (pa_cons (pe_op op_fdiv (pv 0) pe_int) pa_nil)))))), ?_⟩
  refine ⟨(by show 0 ≤ sizeLine; decide), fun l hl => ?_⟩
  have b0 : 0 ≤ c % 4 := Int.emod_nonneg _ (by decide)
  have b1 : c % 4 < 4 := Int.emod_lt_of_pos _ (by decide)
  refine ⟨_, rfl, _, _, rfl, rfl, (by show (0 : Int) < 4; decide), _, _, rfl, rfl, _, rfl, by omega, by omega, for_range (fun i σ H2 => ∃ (xs : List V) (ks : List Kd) (v : Option V), σ = [some (.int c), some (.ref wl), some (.ref l), v] ∧ Same H H2 ∧ H2 l = some (.lst xs) ∧ KdsAt K H2 xs ks ∧ (∀ k ∈ ks, LfOk k) ∧ xs.length = i)
    ⟨[], [], none, rfl, same_new hl _, upd_same, .nil, (fun k hk => nomatch hk), rfl⟩ ?_ ?_⟩
  · rintro i σ H2 hi ⟨xs, ks, v, rfl, sH, hL, hv, hleaf, rfl⟩
    have hi4 : xs.length < 4 := by omega
    have other : ∀ (A1 : V) (H3 : Hp) (k : Kd), Same H2 H3 → KdAt K H3 A1 k → LfOk k →
        ∃ (xs' : List V) (ks' : List Kd) (v' : Option V), ([some (.int c), some (.ref wl), some (.ref l), some (.int (0 + (xs.length : Int)))] : St) = [some (.int c), some (.ref wl), some (.ref l), v'] ∧ Same H (upd H3 l (.lst (xs ++ [A1]))) ∧ upd H3 l (.lst (xs ++ [A1])) l = some (.lst xs') ∧ KdsAt K (upd H3 l (.lst (xs ++ [A1]))) xs' ks' ∧ (∀ k ∈ ks', LfOk k) ∧ xs'.length = xs.length + 1 := by
      intro A1 H3 k s3 hk lf
      have hL3 : H3 l = some (.lst xs) := s3 _ _ hL
      refine ⟨xs ++ [A1], ks ++ [k], _, rfl, sput (same_trans sH s3) hl, upd_same, kds_keep (fun _ _ t => sqt_upd hL3 t) ((hv.same s3).append (one hk)), ?_, by rw [List.length_append] <;> rfl⟩
      intro k' hk'
      rcases List.mem_append.mp hk' with z | z
      · exact hleaf k' z
      · rw [List.mem_singleton.mp z]
        exact lf
    have sz : xs.length < sizeLine := Nat.lt_of_lt_of_le (Nat.lt_succ_self _) (small (by omega))
    refine ⟨_, rfl, _, _, rfl, rfl, ⟨by decide, by decide⟩, _, rfl, _, _, rfl, rfl, _, _, rfl, rfl, (by show (0 : Int) < 2; decide), rfl, _, rfl, ?_⟩
    refine ite2 (fun _ => ?_) (fun _ => ?_)
    · have e9 : (0 : Int) < ((10 : Int) ^ (18 : Int).toNat) := by decide
      refine ⟨_, rfl, .inl ⟨rfl, _, SqL.of hL⟩, _, rfl, _, rfl, _, _, rfl, rfl, .inl ⟨by omega, by omega⟩, _, _, rfl, rfl, _, _, rfl, rfl, ⟨by decide, by decide, by decide⟩, _, _, rfl, rfl, e9, _, _, rfl, rfl, (by show 2 ≤ sizeLine; decide), fun y hy => ?_⟩
      exact ⟨l, _, _, rfl, rfl, same_new hy _ _ _ hL, sz, other _ _ _ (same_new hy _) (.num (SqT.of upd_same)) ⟨rfl, trivial⟩⟩
    · have r0 := Int.emod_nonneg (c / 9) (show (3 : Int) ≠ 0 by decide)
      have r1 := Int.emod_lt_of_pos (c / 9) (show (0 : Int) < 3 by decide)
      obtain ⟨z, hz, oz⟩ : ∃ z : Str, atI [V.str "", .str w1, .str w2, .str w3] (1 + c / 9 % 3) = some (.str z) ∧ okW z := by
        have h3 : c / 9 % 3 = 0 ∨ c / 9 % 3 = 1 ∨ c / 9 % 3 = 2 := by omega
        rcases h3 with e | e | e <;> rw [e]
        · exact ⟨w1, rfl, o1⟩
        · exact ⟨w2, rfl, o2⟩
        · exact ⟨w3, rfl, o3⟩
      refine ⟨_, rfl, .inl ⟨rfl, _, SqL.of hL⟩, _, rfl, _, rfl, _, _, rfl, rfl, ⟨by decide, by decide⟩, _, _, rfl, rfl, (by show (0 : Int) < 3; decide), _, _, rfl, rfl, wl, _, _, _, rfl, rfl, SqL.of (sH _ _ hwl), hz, ?_⟩
      refine ⟨_, rfl, _, _, rfl, rfl, ⟨by decide, by decide⟩, _, rfl, _, _, rfl, rfl, .inl ⟨by omega, by omega⟩, _, _, rfl, rfl, _, rfl, fun H3 s3 => ⟨(by show 3 ≤ sizeLine; decide), fun y hy => ?_⟩⟩
      exact ⟨l, _, _, rfl, rfl, same_new hy _ _ _ (s3 _ _ hL), sz, other _ _ _ (same_trans s3 (same_new hy _)) (.name (SqT.of upd_same)) ⟨rfl, oz, okW_word _⟩⟩
  · rintro σ H2 ⟨xs, ks, v, rfl, sH, hL, hv, hleaf, hlen⟩
    have hkl := hv.length
    refine ⟨_, rfl, _, rfl, _, _, rfl, rfl, ⟨by decide, by decide⟩, l, _, xs, ks, rfl, hL, hv, by omega, by omega, fun H3 v3 k3 s3 hk3 hf3 _ => ?_⟩
    refine q _ _ _ (same_trans sH s3) hk3 (ok_leaves (by rw [hf3]; exact flat_ok hleaf)) ?_
    rw [hf3, flat_len fun k hk => (hleaf k hk).1]
    omega
theorem scSize : FnScope ["_law_kind", "_law_left", "_law_many", "_law_one"] ["_law_kind"] (defScope sSize) := ⟨rfl, rfl, rfl, by decide +kernel, rfl, by decide +kernel, by decide +kernel⟩
theorem ok_size {f : Addr} {fd : FuncData} (F : Fun K "_law_size" "_law_size" sSize f fd) (ml : mg "len" = none) : FnOk P w K mg base CX0 1 f fd ["_law_kind"] (spSize K) := by
  refine F.ok scSize (fun vs H Q E h => ?_) (fun cdv A outer s H vs Q E hr h => ?_)
  · obtain ⟨x, k, rfl, _⟩ := h
    rfl
  obtain ⟨x, k, rfl, hk, h9, q⟩ := h
  refine ⟨_, pss_cons (ps_set (i := 1) scSize.nd rfl (Or.inl rfl) (pe_lst (pa_cons (pv 0) pa_nil)))
    (pss_cons (ps_set (i := 2) scSize.nd rfl (Or.inl rfl) pe_int)
    (pss_cons (ps_while PassesOwn.never (pt_cmpR op_gt (pe_callB call_len_seq rfl ml PySem.boot_len (pa_cons (pv 1) pa_nil)) pe_int (nomark _))
      (pss_cons (ps_set (i := 3) scSize.nd rfl (Or.inl rfl) (pe_bm0 PySem.F.plainAttrs_list PySem.F.slot_list_pop PySem.F.type_list_pop mt_pop (pv 1)))
      (pss_cons (ps_set (i := 2) scSize.nd rfl (Or.inl rfl) (pe_op op_add (pv 2) pe_int))
      (pss_one (ps_if (pt_cmpR op_eq (pe_ix ix_tup (pv 3) pe_int (fun _ _ => rfl)) pe_str (nomark _))
        (pss_one (ps_set (i := 1) scSize.nd rfl (Or.inl rfl) (pe_op op_cat (pv 1) (pe_lst (pa_cons (pe_ix ix_tup (pv 3) pe_int (fun _ _ => rfl)) (pa_cons (pe_ix ix_tup (pv 3) pe_int (fun _ _ => rfl)) pa_nil)))))) pss_nil)))))
    (pss_one (ps_ret (pv 2))))), ?_⟩
  refine ⟨_, rfl, (by show 1 ≤ sizeLine; decide), fun l hl => ?_⟩
  refine while_rel (fun m σ H2 => ∃ (l2 : Addr) (vs : List V) (ks : List Kd) (n : Nat) (h : Option V), σ = [some x, some (.ref l2), some (.int n), h] ∧ H l2 = none ∧ Same H H2 ∧ H2 l2 = some (.lst vs) ∧ KdsAt K H2 vs ks ∧ n + sumW ks = k.words ∧ m = sumW ks) (sumW [k])
    ⟨l, [x], [k], 0, none, rfl, hl, same_new hl _, upd_same, one (hk.same (same_new hl _)), by rw [sumW_one]; omega, rfl⟩ ?_ ?_
  · rintro m σ H2 ⟨l2, vs, ks, n, h, rfl, hl2, sH, hL, hv, hn, rfl⟩
    refine ⟨_, rfl, l2, _, rfl, .inl (SqL.of hL), _, _, rfl, rfl, _, rfl, ?_⟩
    refine ite2 (fun c => ?_) (fun c => ?_)
    · have c' : (0 : Int) < (vs.length : Int) := of_decide_eq_true c
      have hne : vs ≠ [] := fun e => by rw [e] at c'; exact absurd c' (by decide)
      obtain ⟨us, v, rfl⟩ : ∃ us v, vs = us ++ [v] := ⟨_, _, (List.dropLast_concat_getLast hne).symm⟩
      obtain ⟨ls, j, rfl, hu, hj⟩ := snoc hv
      rw [sumW_app, sumW_one] at hn ⊢
      have hjp := words_pos j
      refine ⟨_, rfl, .inl ⟨rfl, _, SqL.of hL⟩, l2, _, v, rfl, rfl, hL, snoc_get, ?_⟩
      rw [List.dropLast_concat]
      have keep : ∀ a xs, SqT K H2 a xs → SqT K (upd H2 l2 (.lst us)) a xs := fun _ _ t => sqt_upd hL t
      have hu1 := kds_keep keep hu
      have hj1 := kd_keep keep hj
      have sH1 : Same H (upd H2 l2 (.lst us)) := sput sH hl2
      have hl2' := len_sumW ls
      have hul := hu.length
      have e1 : ((n : Int) + 1) = ((n + 1 : Nat) : Int) := by omega
      refine ⟨_, rfl, _, _, rfl, rfl, ?_⟩
      cases hj1 with
      | @num p m t =>
        have hw : (Kd.num m).words = 1 := rfl
        rw [hw] at hn
        refine ⟨_, rfl, _, _, _, _, rfl, rfl, t, (show atI [V.str "num", .int m] 0 = some (.str "num") from rfl), rfl, _, rfl, ite2 (fun c => absurd c (by decide +kernel)) (fun _ => ?_)⟩
        exact ⟨sumW ls, by omega, l2, us, ls, n + 1, _, by rw [← e1] <;> rfl, hl2, sH1, upd_same, hu1, by omega, rfl⟩
      | @name p a b t =>
        have hw : (Kd.name a b).words = 1 := rfl
        rw [hw] at hn
        refine ⟨_, rfl, _, _, _, _, rfl, rfl, t, (show atI [V.str "name", .str a, .str b] 0 = some (.str "name") from rfl), rfl, _, rfl, ite2 (fun c => absurd c (by decide +kernel)) (fun _ => ?_)⟩
        exact ⟨sumW ls, by omega, l2, us, ls, n + 1, _, by rw [← e1] <;> rfl, hl2, sH1, upd_same, hu1, by omega, rfl⟩
      | @pair p y z a b t ha hb =>
        have hw : (Kd.pair a b).words = 1 + a.words + b.words := rfl
        rw [hw] at hn ⊢
        refine ⟨_, rfl, _, _, _, _, rfl, rfl, t, (show atI [V.str "pair", y, z] 0 = some (.str "pair") from rfl), rfl, _, rfl, ite2 (fun _ => ?_) (fun c => absurd (by decide +kernel) c)⟩
        refine ⟨_, rfl, _, rfl, _, _, _, _, rfl, rfl, t, (show atI [V.str "pair", y, z] 1 = some y from rfl), _, rfl, _, _, _, _, rfl, rfl, t, (show atI [V.str "pair", y, z] 2 = some z from rfl), (by show 2 ≤ sizeLine; decide), fun p1 q1 => ?_⟩
        have s1 := same_new q1 (.lst [y, z])
        have hp1 : H p1 = none := by
          cases e : H p1 with
          | none => rfl
          | some u => rw [sH1 _ _ e] at q1; cases q1
        refine ⟨l2, p1, _, _, rfl, rfl, s1 _ _ upd_same, upd_same, small (by show us.length + 2 ≤ 1000; omega), fun p2 q2 => ?_⟩
        have s2 := same_new q2 (.lst (us ++ [y, z]))
        have sA := same_trans s1 s2
        have hp2 : H p2 = none := by
          cases e : H p2 with
          | none => rfl
          | some u => rw [s1 _ _ (sH1 _ _ e)] at q2; cases q2
        have es : sumW (ls ++ [a, b]) = sumW ls + (a.words + b.words) := by
          rw [sumW_app]
          show sumW ls + (a.words + (b.words + 0)) = _
          omega
        refine ⟨sumW (ls ++ [a, b]), by rw [es]; omega, p2, us ++ [y, z], ls ++ [a, b], n + 1, _, by rw [← e1] <;> rfl, hp2, same_trans sH1 sA, upd_same, (hu1.same sA).append (.cons (ha.same sA) (.cons (hb.same sA) .nil)), by rw [es]; omega, rfl⟩
    · have c' : ¬ (0 : Int) < (vs.length : Int) := of_decide_eq_false (Bool.eq_false_iff.mpr c)
      have hv0 : vs = [] := List.length_eq_zero_iff.mp (by omega)
      subst hv0
      cases hv
      have e : n = k.words := hn
      subst e
      exact ⟨_, rfl, q _ sH⟩
  · rintro σ H2 Q1 Q2 hq ⟨v, e1, a, xs, e2, hs, i, j, e3, e4, b, e5, h⟩
    exact ⟨v, e1, a, xs, e2, hs, i, j, e3, e4, b, e5, hq _ _ h⟩
end
end K22
namespace K22
open PySem L2 Kk
section
variable {K : PySem.W.Frag}
theorem bind3 {f T : Addr} {fd : FuncData} {oT : Value} {dT : Option Addr} {nT : Nat} {sT : Array (Option Value)} {tk : Tok} (F : FunD K "normal" "normal" sNormal (.ref T) f fd) (lT : K.lookup T = some ⟨oT, dT, .seq #[.int 40 tk] nT, sT⟩) : Binds K fd ["kind", "own", "parts", "most"] [.int 40 tk] :=
  F.binds lT fun _ _ _ _ _ _ us hl => by
    have hl' : us.length = 3 := by simpa using hl
    match us, hl' with
    | [_, _, _], _ => exact ⟨_, rfl, rfl⟩
theorem bind4 {f T : Addr} {fd : FuncData} {oT : Value} {dT : Option Addr} {nT : Nat} {sT : Array (Option Value)} {tk : Tok} (F : FunD K "normal" "normal" sNormal (.ref T) f fd) (lT : K.lookup T = some ⟨oT, dT, .seq #[.int 40 tk] nT, sT⟩) : Binds K fd ["kind", "own", "parts", "most"] [] :=
  F.binds lT fun _ _ _ _ _ _ us hl => by
    rw [List.append_nil] at hl
    match us, hl with
    | [_, _, _, _], _ => exact ⟨_, rfl, rfl⟩
end
theorem pigeon (g : Nat → Nat) (ls : List Nat) (hl : ls.length ≤ 3) (key : ∀ L : Nat, 7 ≤ L → L ≤ 10 → ∃ j, g j = L) (all : ∀ j, g j ∈ ls) : False := by
  obtain ⟨j7, e7⟩ := key 7 (by decide) (by decide)
  obtain ⟨j8, e8⟩ := key 8 (by decide) (by decide)
  obtain ⟨j9, e9⟩ := key 9 (by decide) (by decide)
  obtain ⟨j10, e10⟩ := key 10 (by decide) (by decide)
  have m7 := all j7
  have m8 := all j8
  have m9 := all j9
  have m10 := all j10
  rw [e7] at m7
  rw [e8] at m8
  rw [e9] at m9
  rw [e10] at m10
  match ls, hl with
  | [], _ => cases m7
  | [a], _ =>
    simp only [List.mem_cons, List.not_mem_nil, or_false] at m7 m8
    omega
  | [a, b], _ =>
    simp only [List.mem_cons, List.not_mem_nil, or_false] at m7 m8 m9
    omega
  | [a, b, d], _ =>
    simp only [List.mem_cons, List.not_mem_nil, or_false] at m7 m8 m9 m10
    omega
theorem fresh_word (ws : List Str) (hl : ws.length ≤ 3) (c : Int) : ∃ J : Nat, wordF (c + (J : Int)) ∉ ws := by
  by_cases h : ∃ J : Nat, wordF (c + (J : Int)) ∉ ws
  · exact h
  refine (pigeon (fun j => (wordF (c + (j : Int))).length) (ws.map Str.length) (by rw [List.length_map]; exact hl) (fun L h1 h2 => ?_) fun j => ?_).elim
  · have e : (c + (((((L : Int) - 1 - c) % 12).toNat : Nat) : Int)) % 12 = (L : Int) - 1 := by omega
    refine ⟨(((L : Int) - 1 - c) % 12).toNat, ?_⟩
    have z := word_long (c := c + (((((L : Int) - 1 - c) % 12).toNat : Nat) : Int)) (by omega)
    show (wordF (c + (((((L : Int) - 1 - c) % 12).toNat : Nat) : Int))).length = L
    omega
  · have hm : wordF (c + (j : Int)) ∈ ws := Decidable.byContradiction fun z => h ⟨j, z⟩
    exact List.mem_map_of_mem (f := Str.length) hm
def spParts (K : PySem.W.Frag) : Sp := fun vs H Q _ => ∃ (a : Addr) (ns : List Int), vs = [.ref a] ∧ SqL K H a (ns.map V.int) ∧ ns.length ≤ 63 ∧
  ∀ H' (l : Addr) (w1 w2 w3 : Str), Same H H' → H l = none → H' l = some (.lst [.str "", .str w1, .str w2, .str w3]) → okW w1 → okW w2 → okW w3 → (["", w1, w2, w3] : List Str).Nodup → Q (.ref l) H'
section
variable {P : Program} {w : World} {K : PySem.W.Frag} {mg : Str → Option Value} {base : Heap}
theorem scParts : FnScope ["_law_script", "_law_words", "_law_k", "_law_cell_here"] ["_law_script"] (defScope sParts) := ⟨rfl, rfl, rfl, by decide +kernel, rfl, by decide +kernel, by decide +kernel⟩
theorem flat_strs (ws : List Str) : (ws.map V.str).all flatV = true := by
  induction ws with
  | nil => rfl
  | cons z ws ih =>
    rw [List.map_cons, List.all_cons, ih]
    rfl
set_option maxHeartbeats 0 in
theorem ok_parts {f fc fw : Addr} {fd fdc fdw : FuncData} (F : Fun K "_law_parts" "_law_parts" sParts f fd)
    (GC : FnOk P w K mg base CX0 1 fc fdc ["_law_script", "_law_k"] (spCell K)) (bC : Binds K fdc ["_law_script", "_law_k"] []) (kC : PySem.W.keepIn K (.ref fc) = true) (mC : mg "_law_cell" = some (.ref fc))
    (GW : FnOk P w K mg base CX0 1 fw fdw ["_law_cell_here"] spWordF) (bW : Binds K fdw ["_law_cell_here"] []) (kW : PySem.W.keepIn K (.ref fw) = true) (mW : mg "_law_word" = some (.ref fw)) (mr : mg "range" = none) :
    FnOk P w K mg base CX0 2 f fd ["_law_script"] (spParts K) := by
  refine F.ok scParts (fun vs H Q E h => ?_) (fun cdv A outer s H vs Q E hr h => ?_)
  · obtain ⟨a, ns, rfl, _⟩ := h
    rfl
  obtain ⟨a, ns, rfl, hS, h63, q⟩ := h
  refine ⟨_, pss_cons (ps_set (i := 1) scParts.nd rfl (Or.inl rfl) (pe_lst (pa_cons pe_str pa_nil)))
    (pss_cons (ps_for PassesOwn.never rfl (pi_range1 rfl mr (pa_cons pe_int pa_nil)) (pg_name (i := 2) scParts.nd rfl (Or.inl rfl))
      (pss_cons (ps_set (i := 3) scParts.nd rfl (Or.inl rfl) (pe_call GC hr rfl mC kC bC .nil pass0 (pa_cons (pv 0) (pa_cons (pe_op op_add pe_int (pv 2)) pa_nil))))
      (pss_cons (ps_while PassesOwn.never (pt_cmpR op_in_seq (pe_call GW hr rfl mW kW bW .nil pass0 (pa_cons (pv 3) pa_nil)) (pv 1) (by with_unfolding_all rfl))
        (pss_one (ps_set (i := 3) scParts.nd rfl (Or.inl rfl) (pe_op op_add (pv 3) pe_int))))
      (pss_one (ps_expr (pe_bm PySem.F.plainAttrs_list PySem.F.slot_list_append PySem.F.type_list_append mt_append (pv 1) (pa_cons (pe_call GW hr rfl mW kW bW .nil pass0 (pa_cons (pv 3) pa_nil)) pa_nil)))))))
    (pss_one (ps_ret (pv 1)))), ?_⟩
  refine ⟨(by show 1 ≤ sizeLine; decide), fun l hl => ?_⟩
  refine ⟨_, rfl, by decide, by decide, for_range (fun i σ H2 => ∃ (ws : List Str) (v c : Option V), σ = [some (.ref a), some (.ref l), v, c] ∧ Same H H2 ∧ H2 l = some (.lst (ws.map V.str)) ∧ ws.length = i + 1 ∧ ws.Nodup ∧ ws.head? = some ("" : Str) ∧ ∀ z ∈ ws, okW z)
    ⟨[""], none, none, rfl, same_new hl _, upd_same, rfl, by decide +kernel, rfl, fun z hz => by rw [List.mem_singleton.mp hz]; exact ⟨by decide +kernel, by decide +kernel⟩⟩ ?_ ?_⟩
  · rintro i σ H2 hi ⟨ws, v, c, rfl, sH, hL, hlen, hnd, hhd, hok⟩
    have hi3 : i < 3 := hi
    refine ⟨_, rfl, _, rfl, _, _, rfl, rfl, a, ns, _, rfl, sql_same sH hS, h63, by omega, by omega, fun ce => ?_⟩
    obtain ⟨J, hJ⟩ := fresh_word ws (by omega) ce
    refine while_rel (fun m σ H3 => ∃ j : Nat, σ = [some (.ref a), some (.ref l), some (.int (0 + (i : Int))), some (.int (ce + (j : Int)))] ∧ Same H2 H3 ∧ j ≤ J ∧ m = J - j) (J - 0)
      ⟨0, by rw [show ce + ((0 : Nat) : Int) = ce by omega] <;> rfl, Same.refl _, Nat.zero_le _, rfl⟩ ?_ ?_
    · rintro m σ H3 ⟨j, rfl, s3, hj, rfl⟩
      refine ⟨_, rfl, _, rfl, fun H4 s4 => ?_⟩
      have hL4 := s4 _ _ (s3 _ _ hL)
      refine ⟨_, rfl, l, _, rfl, .inl (SqL.of hL4), rfl, flat_strs ws, _, rfl, ?_⟩
      refine ite2 (fun c1 => ?_) (fun c1 => ?_)
      · have c1' : inV (V.str (wordF (ce + (j : Int)))) (ws.map V.str) = true := c1
        have hm := inV_str.mp c1'
        have hne : j ≠ J := fun e => hJ (e ▸ hm)
        refine ⟨_, rfl, _, _, rfl, rfl, J - (j + 1), by omega, j + 1, ?_, same_trans s3 s4, by omega, rfl⟩
        show ([some (.ref a), some (.ref l), some (.int (0 + (i : Int))), some (.int (ce + (j : Int) + 1))] : St) = _
        rw [show ce + (j : Int) + 1 = ce + ((j + 1 : Nat) : Int) by omega]
      · have c1' : ¬ inV (V.str (wordF (ce + (j : Int)))) (ws.map V.str) = true := c1
        have hm : wordF (ce + (j : Int)) ∉ ws := fun z => c1' (inV_str.mpr z)
        refine ⟨_, rfl, .inl ⟨rfl, _, SqL.of hL4⟩, _, rfl, _, rfl, fun H5 s5 => ?_⟩
        have hL5 := s5 _ _ hL4
        refine ⟨l, _, _, rfl, rfl, hL5, Nat.lt_of_lt_of_le (Nat.lt_succ_self _) (small (by rw [List.length_map]; omega)), ?_⟩
        refine ⟨ws ++ [wordF (ce + (j : Int))], _, _, rfl, sput (same_trans sH (same_trans s3 (same_trans s4 s5))) hl, ?_, ?_, ?_, ?_, ?_⟩
        · rw [upd_same, List.map_append]
          rfl
        · rw [List.length_append, hlen]
          rfl
        · rw [List.nodup_append]
          refine ⟨hnd, by simp, fun x hx y hy => ?_⟩
          rw [List.mem_singleton.mp hy]
          exact fun e => hm (e ▸ hx)
        · cases ws with
          | nil => cases hhd
          | cons x r => exact hhd
        · intro z hz
          rcases List.mem_append.mp hz with z1 | z1
          · exact hok z z1
          · rw [List.mem_singleton.mp z1]
            exact okW_word _
    · rintro σ H3 Q1 Q2 hq ⟨v1, e1, c1, e2, h1⟩
      refine ⟨v1, e1, c1, e2, fun H4 s4 => ?_⟩
      obtain ⟨v2, e3, p, xs, e4, h2, h3, h4, b, e5, h5⟩ := h1 H4 s4
      exact ⟨v2, e3, p, xs, e4, h2, h3, h4, b, e5, hq _ _ h5⟩
  · rintro σ H2 ⟨ws, v, c, rfl, sH, hL, hlen, hnd, hhd, hok⟩
    have hlen4 : ws.length = 4 := hlen
    match ws, hlen4 with
    | [x0, w1, w2, w3], _ =>
      have e0 : x0 = "" := Option.some.inj hhd
      subst e0
      exact ⟨_, rfl, q H2 l w1 w2 w3 sH hl hL (hok w1 (by simp)) (hok w2 (by simp)) (hok w3 (by simp)) hnd⟩
end
end K22
namespace K22
open PySem L2 Kk
def boundOf (m : Int) : Int := if m = 0 then 40 else m
/-- what is said of a kind: not known, too big, or told -/
def spSaid (K : PySem.W.Frag) (CF : Addr) : Sp := fun vs H Q _ => ∃ (x : V) (k : Kd) (o p : Addr) (m : Int) (okv pkv : List (Key × V)) (OG : Str → Option Kd) (PG : Str → Option (Str → Option Kd)),
  vs = [x, .ref o, .ref p, .int m] ∧ KdAt K H x k ∧ k.words ≤ 900 ∧ Kd.depth k ≤ 40 ∧ (∀ n ∈ Kd.names k, okW n.1 ∧ okW n.2) ∧ 0 ≤ m ∧ m ≤ 1000000 ∧ H o = some (.dK okv) ∧ KvAt K H okv OG ∧ H p = some (.dK pkv) ∧ PartsAt K H CF pkv PG ∧
  ((∃ n ∈ Kd.names k, tell OG PG n = none) → ∀ H' t, Same H H' → H' t = some (.tup [.str "no", .bl true]) → Q (.ref t) H') ∧
  ((∀ n ∈ Kd.names k, tell OG PG n ≠ none) → (Kd.put (tell OG PG) k).words ≤ 900 ∧
    (((Kd.put (tell OG PG) k).words : Int) > boundOf m → ∀ H' t, Same H H' → H' t = some (.tup [.str "big", .bl true]) → Q (.ref t) H') ∧
    (¬ ((Kd.put (tell OG PG) k).words : Int) > boundOf m → ∀ H' t v, Same H H' → KdAt K H' v (Kd.put (tell OG PG) k) → H' t = some (.tup [.str "told", v]) → Q (.ref t) H'))
def tryHs : List Stmt → List ExceptHandler
  | .Try _ hs _ _ _ :: _ => hs
  | _ => []
section
variable {P : Program} {w : World} {K : PySem.W.Frag} {mg : Str → Option Value} {base : Heap}
theorem scSaid : FnScope ["_law_kind", "_law_own", "_law_parts_here", "_law_most", "_law_found", "e"] ["_law_kind", "_law_own", "_law_parts_here", "_law_most"] (defScope sSaid) := ⟨rfl, rfl, rfl, by decide +kernel, rfl, by decide +kernel, by decide +kernel⟩
theorem bootIsi : bootBuiltins "isinstance" = some (.builtin "isinstance") := by decide +kernel
theorem bootVE : bootBuiltins "ValueError" = some (.type "ValueError") := by decide +kernel
theorem same_ext {H : Hp} {e : Addr} {o : HO} (h : H e = none) : Same H (upd H e o) := same_new h o
theorem isiK {X : Cx} {D : Addr} (c : ExcCls K D) (h : X.K = K) : CallR X (.builtin "isinstance") (fun xs H Q => ∃ e y u b, xs = [.ref e, y] ∧ RelV y u ∧ (∀ u', RelV y u' → u' = u) ∧ H e = some (.ext (excAt e (.ref D))) ∧ PySem.W.kitOne K (.ref D) u = some b ∧ Q (.bl b) H) := by
  subst h
  exact call_isiX c
set_option maxHeartbeats 0 in
theorem ok_said {f fn CF CN CT CR T : Addr} {fd fdn : FuncData} {oT : Value} {dT : Option Addr} {nT : Nat} {sT : Array (Option Value)} {tk : Tok} (F : Fun K "_law_said" "_law_said" sSaid f fd) (FN : FunD K "normal" "normal" sNormal (.ref T) fn fdn) (lT : K.lookup T = some ⟨oT, dT, .seq #[.int 40 tk] nT, sT⟩)
    (GN : FnOk P w K mg base (CX1 P w) 41 fn fdn ["kind", "own", "parts", "most"] (spNormal K CF CN CT)) (kN : PySem.W.keepIn K (.ref fn) = true) (mN : mg "normal" = some (.ref fn))
    (mC : mg "NoKind" = some (.ref CN)) (mT : mg "TooBig" = some (.ref CT)) (mR : mg "Refused" = some (.ref CR)) (mi : mg "isinstance" = none) (mv : mg "ValueError" = none)
    (cN : ExcCls K CN) (cT : ExcCls K CT)
    (x1 : PySem.W.exmOne K (.ref CN) (.ref CN) = some true) (x2 : PySem.W.exmOne K (.ref CT) (.ref CN) = some false) (x3 : PySem.W.exmOne K (.ref CT) (.ref CT) = some true)
    (k1 : PySem.W.kitOne K (.ref CN) (.ref CR) = some true) (k2 : PySem.W.kitOne K (.ref CN) (.ref CT) = some false) (k3 : PySem.W.kitOne K (.ref CT) (.ref CR) = some true) (k4 : PySem.W.kitOne K (.ref CT) (.type "ValueError") = some true) :
    FnOk P w K mg base CX0 42 f fd ["_law_kind", "_law_own", "_law_parts_here", "_law_most"] (spSaid K CF) := by
  refine F.ok scSaid (fun vs H Q E h => ?_) (fun cdv A outer s H vs Q E hr h => ?_)
  · obtain ⟨x, k, o, p, m, okv, pkv, OG, PG, rfl, _⟩ := h
    rfl
  obtain ⟨x, k, o, p, m, okv, pkv, OG, PG, rfl, hk, hw, hdp, hnm, m0, m1, ho, hO, hp, hP, q1, q2⟩ := h
  obtain ⟨th, hh, hN, hT⟩ : ∃ th, PH (cxOf CX0 P w K mg base ["_law_kind", "_law_own", "_law_parts_here", "_law_most", "_law_found", "e"] "_law_said" (defScope sSaid) f cdv A outer s H E).nox (tryHs (defBody sSaid)) th ∧
      (∀ D e H', H' e = none → (∀ t H2, Same H' H2 → H2 t = some (.tup [.str "no", .bl true]) → D.rt (.ref t) H2) → th D (.ref CN) e [some x, some (.ref o), some (.ref p), some (.int m), none, none] H') ∧
      (∀ D e H', H' e = none → (∀ t H2, Same H' H2 → H2 t = some (.tup [.str "big", .bl true]) → D.rt (.ref t) H2) → th D (.ref CT) e [some x, some (.ref o), some (.ref p), some (.int m), none, none] H') := by
    refine ⟨_, ph_as (i := 5) rfl scSaid.nd rfl rfl rfl mC
      (fun e => pss_one (ps_ret (pe_tup (pa_cons pe_str (pa_cons (pe_and (pe_callB (isiK cN rfl) rfl mi bootIsi (pa_cons (pv 5) (pa_cons (pe_glob rfl mR (v := .ref CR) rfl) pa_nil)))
        (pe_one (pe_not (pe_callB (isiK cN rfl) rfl mi bootIsi (pa_cons (pv 5) (pa_cons (pe_glob rfl mT (v := .ref CT) rfl) pa_nil)))))) pa_nil)))))
      (ph_as (i := 5) rfl scSaid.nd rfl rfl rfl mT
        (fun e => pss_one (ps_ret (pe_tup (pa_cons pe_str (pa_cons (pe_and (pe_callB (isiK cT rfl) rfl mi bootIsi (pa_cons (pv 5) (pa_cons (pe_glob rfl mR (v := .ref CR) rfl) pa_nil)))
          (pe_one (pe_callB (isiK cT rfl) rfl mi bootIsi (pa_cons (pv 5) (pa_cons (pe_bltn rfl mv bootVE (v := .ty "ValueError") rfl) pa_nil))))) pa_nil))))) ph_nil), ?_, ?_⟩
    · intro D e H' he q
      refine ⟨true, x1, iteT ?_⟩
      have hE : upd H' e (.ext (excAt e (.ref CN))) e = some (.ext (excAt e (.ref CN))) := upd_same
      refine ⟨_, rfl, e, _, _, true, rfl, rfl, (fun _ z => z), hE, k1, true, rfl, iteT ⟨_, rfl, e, _, _, false, rfl, rfl, (fun _ z => z), hE, k2, false, rfl, (by show 2 ≤ sizeLine; decide), fun t ht => ?_⟩⟩
      exact q t _ (same_trans (same_new he _) (same_new ht _)) upd_same
    · intro D e H' he q
      refine ⟨false, x2, iteF ⟨true, x3, iteT ?_⟩⟩
      have hE : upd H' e (.ext (excAt e (.ref CT))) e = some (.ext (excAt e (.ref CT))) := upd_same
      refine ⟨_, rfl, e, _, _, true, rfl, rfl, (fun _ z => z), hE, k3, true, rfl, iteT ⟨_, rfl, e, _, _, true, rfl, rfl, (fun _ z => z), hE, k4, (by show 2 ≤ sizeLine; decide), fun t ht => ?_⟩⟩
      exact q t _ (same_trans (same_new he _) (same_new ht _)) upd_same
  have bT3 := bind3 FN lT
  have bT4 := bind4 FN lT
  refine ⟨_, pss_cons (ps_try fun pins D => pss_one (ps_if (pt_cmpR op_eq (pv 3) pe_int (nomark _))
      (pss_one (ps_set (i := 4) scSaid.nd rfl (Or.inl rfl) (pe_callE GN hr rfl mN kN bT3 (.cons (show RelV (.int 40) (.int 40 tk) from ⟨tk, rfl⟩) .nil) (passT rfl rfl hh) (pa_cons (pv 0) (pa_cons (pv 1) (pa_cons (pv 2) pa_nil))))))
      (pss_one (ps_set (i := 4) scSaid.nd rfl (Or.inl rfl) (pe_callE GN hr rfl mN kN bT4 .nil (passT rfl rfl hh) (pa_cons (pv 0) (pa_cons (pv 1) (pa_cons (pv 2) (pa_cons (pv 3) pa_nil)))))))))
    (pss_one (ps_ret (pe_tup (pa_cons pe_str (pa_cons (pv 4) pa_nil))))), ?_⟩
  have key : ∀ (m' : Int), m' = boundOf m → 0 ≤ m' → m' ≤ 1000000 → ∀ (D : Ends) (QV : VK), D.rt = Q → (∀ v H', Same H H' → KdAt K H' v (Kd.put (tell OG PG) k) → (∀ n ∈ Kd.names k, tell OG PG n ≠ none) → ¬ ((Kd.put (tell OG PG) k).words : Int) > boundOf m → QV v H') →
      spNormal K CF CN CT [x, .ref o, .ref p, .int m'] H QV (fun cls _ H' => ∀ e, H' e = none → th D cls e [some x, some (.ref o), some (.ref p), some (.int m), none, none] H') := by
    intro m' em hm0 hm1 D QV hD hq
    refine ⟨x, k, o, p, m', okv, pkv, OG, PG, rfl, hk, hw, hdp, hnm, hm0, hm1, ho, hO, hp, hP, fun H' sH hex e he => ?_, fun hall => ⟨(q2 hall).1, fun H' sH => ?_⟩⟩
    · exact hN D e H' he fun t H2 s2 h2 => hD ▸ q1 hex H2 t (same_trans sH s2) h2
    · rw [em]
      by_cases c : ((Kd.put (tell OG PG) k).words : Int) > boundOf m
      · rw [if_pos c]
        exact fun e he => hT D e H' he fun t H2 s2 h2 => hD ▸ (q2 hall).2.1 c H2 t (same_trans sH s2) h2
      · rw [if_neg c]
        exact fun v hv => hq v H' sH hv hall c
  have fin : ∀ v H', Same H H' → KdAt K H' v (Kd.put (tell OG PG) k) → (∀ n ∈ Kd.names k, tell OG PG n ≠ none) → ¬ ((Kd.put (tell OG PG) k).words : Int) > boundOf m → ∀ t, H' t = none → Q (.ref t) (upd H' t (.tup [.str "told", v])) := fun v H' sH hv hall c t ht =>
    (q2 hall).2.2 c _ t v (same_trans sH (same_new ht _)) (hv.same (same_new ht _)) upd_same
  refine ⟨_, rfl, rfl, _, rfl, ?_⟩
  refine ite2 (fun c => ?_) (fun c => ?_)
  · have c' : V.int m = V.int 0 := of_decide_eq_true c
    have e0 : m = 0 := by injection c'
    refine ⟨_, rfl, _, rfl, _, rfl, key 40 (by unfold boundOf; rw [if_pos e0]) (by decide) (by decide) _ _ rfl fun v H' sH hv hall c2 => ?_⟩
    exact ⟨_, rfl, (by show 2 ≤ sizeLine; decide), fun t ht => fin v H' sH hv hall c2 t ht⟩
  · have c' : ¬ m = 0 := fun e => c (decide_eq_true (by rw [e]))
    refine ⟨_, rfl, _, rfl, _, rfl, _, rfl, key m (by unfold boundOf; rw [if_neg c']) m0 m1 _ _ rfl fun v H' sH hv hall c2 => ?_⟩
    exact ⟨_, rfl, (by show 2 ≤ sizeLine; decide), fun t ht => fin v H' sH hv hall c2 t ht⟩
end
end K22
namespace K22
open PySem L2 Kk
/-! kinds as data; puts into what kinds and parts tell -/
def Kd.dat : Kd → PyData
  | .num n => .tuple [.str "num", .int n]
  | .name q t => .tuple [.str "name", .str q, .str t]
  | .pair a b => .tuple [.str "pair", Kd.dat a, Kd.dat b]
theorem kd_dat {K : PySem.W.Frag} {H : Hp} : ∀ {x : V} {k : Kd}, KdAt K H x k → Dat K H x (Kd.dat k)
  | _, _, .num t => .tup t (.cons (.str _) (.cons (.int _) .nil))
  | _, _, .name t => .tup t (.cons (.str _) (.cons (.str _) (.cons (.str _) .nil)))
  | _, _, .pair t a b => .tup t (.cons (.str _) (.cons (kd_dat a) (.cons (kd_dat b) .nil)))
theorem eqv_kd : ∀ k : Kd, PyData.eqv (Kd.dat k) (Kd.dat k) = true
  | .num n => by simp [Kd.dat, PyData.eqv, PyData.eqvAll]
  | .name q t => by simp [Kd.dat, PyData.eqv, PyData.eqvAll]
  | .pair a b => by simp [Kd.dat, PyData.eqv, PyData.eqvAll, eqv_kd a, eqv_kd b]
theorem lay_kd : ∀ {k : Kd}, Kd.ok k → PyData.canLay0 (Kd.dat k) = true
  | .num n, _ => by
    have h : PyData.strOk "num" = true := by decide +kernel
    simp [Kd.dat, PyData.canLay0, PyData.canLayAll0, h]
  | .name q t, ⟨h1, h2⟩ => by
    have h : PyData.strOk "name" = true := by decide +kernel
    simp [Kd.dat, PyData.canLay0, PyData.canLayAll0, h, h1.1, h2.1]
  | .pair a b, ⟨h1, h2⟩ => by
    have h : PyData.strOk "pair" = true := by decide +kernel
    simp [Kd.dat, PyData.canLay0, PyData.canLayAll0, h, lay_kd h1, lay_kd h2]
theorem deep_kd : ∀ k : Kd, PyData.depth (Kd.dat k) ≤ Kd.depth k
  | .num n => by simp [Kd.dat, PyData.depth, PyData.depthAll, Kd.depth]
  | .name q t => by simp [Kd.dat, PyData.depth, PyData.depthAll, Kd.depth]
  | .pair a b => by
    have h1 := deep_kd a
    have h2 := deep_kd b
    simp only [Kd.dat, PyData.depth, PyData.depthAll, Kd.depth]
    omega
/-- ("told", k) -/
def toldD (k : Kd) : PyData := .tuple [.str "told", Kd.dat k]
def flagD (x : Str) : PyData := .tuple [.str x, .bool true]
theorem told_shaped {k : Kd} (h : Kd.ok k) (hd : Kd.depth k ≤ 60) : SeqAt.shaped (toldD k) = true := by
  have h0 : PyData.strOk "told" = true := by decide +kernel
  have h1 := lay_kd h
  have h2 := deep_kd k
  have h3 : PyData.depth (toldD k) ≤ 64 := by
    simp only [toldD, PyData.depth, PyData.depthAll]
    omega
  have h4 : PyData.canLay0 (toldD k) = true := by simp [toldD, PyData.canLay0, PyData.canLayAll0, h0, h1]
  unfold SeqAt.shaped
  rw [h4, decide_eq_true h3]
  rfl
theorem told_eqv (k : Kd) : PyData.eqv (toldD k) (toldD k) = true := by simp [toldD, PyData.eqv, PyData.eqvAll, eqv_kd k]
theorem told_dat {K : PySem.W.Frag} {H : Hp} {a : Addr} {v : V} {k : Kd} (h : H a = some (.tup [.str "told", v])) (hv : KdAt K H v k) : Dat K H (.ref a) (toldD k) := .tup (SqT.of h) (.cons (.str _) (.cons (kd_dat hv) .nil))
theorem flag_dat {K : PySem.W.Frag} {H : Hp} {a : Addr} {x : Str} (h : H a = some (.tup [.str x, .bl true])) : Dat K H (.ref a) (flagD x) := .tup (SqT.of h) (.cons (.str _) (.cons (.bl _) .nil))
theorem no_shaped : SeqAt.shaped (flagD "no") = true := by decide +kernel
theorem big_shaped : SeqAt.shaped (flagD "big") = true := by decide +kernel
theorem no_eqv : PyData.eqv (flagD "no") (flagD "no") = true := by decide +kernel
theorem big_eqv : PyData.eqv (flagD "big") (flagD "big") = true := by decide +kernel
theorem inr_ne {a b : Str} (h : a ≠ b) : (Sum.inr a : Key) ≠ Sum.inr b := fun e => h (Sum.inr.inj e)
def putG {α : Type} (g : Str → Option α) (t : Str) (k : α) : Str → Option α := fun z => if z = t then some k else g z
theorem KvAt.put {K : PySem.W.Frag} {H : Hp} {kvs : List (Key × V)} {g : Str → Option Kd} {t : Str} {v : V} {k : Kd} (h : KvAt K H kvs g) (hv : KdAt K H v k) : KvAt K H (putK kvs (.inr t) v) (putG g t k) := fun z => by
  by_cases e : z = t
  · subst e
    exact .inr ⟨v, k, by rw [valV_put, if_pos rfl], if_pos rfl, hv⟩
  · have e2 := inr_ne e
    rcases h z with ⟨h1, h2⟩ | ⟨v', k', h1, h2, h3⟩
    · exact .inl ⟨by rw [valV_put, if_neg e2]; exact h1, (if_neg e).trans h2⟩
    · exact .inr ⟨v', k', by rw [valV_put, if_neg e2]; exact h1, (if_neg e).trans h2, h3⟩
theorem KvAt.nil {K : PySem.W.Frag} {H : Hp} : KvAt K H [] (fun _ => none) := fun _ => .inl ⟨rfl, rfl⟩
theorem PartsAt.put {K : PySem.W.Frag} {H : Hp} {CF : Addr} {kvs : List (Key × V)} {PG : Str → Option (Str → Option Kd)} {q : Str} {v : V} {g : Str → Option Kd} (h : PartsAt K H CF kvs PG) (hv : FaceAt K H CF v g) : PartsAt K H CF (putK kvs (.inr q) v) (putG PG q g) := fun z => by
  by_cases e : z = q
  · subst e
    exact .inr ⟨v, g, by rw [valV_put, if_pos rfl], if_pos rfl, hv⟩
  · have e2 := inr_ne e
    rcases h z with ⟨h1, h2⟩ | ⟨v', k', h1, h2, h3⟩
    · exact .inl ⟨by rw [valV_put, if_neg e2]; exact h1, (if_neg e).trans h2⟩
    · exact .inr ⟨v', k', by rw [valV_put, if_neg e2]; exact h1, (if_neg e).trans h2, h3⟩
theorem KvAt.keep {K : PySem.W.Frag} {H H' : Hp} {kvs : List (Key × V)} {g : Str → Option Kd} (e : ∀ a xs, SqT K H a xs → SqT K H' a xs) (h : KvAt K H kvs g) : KvAt K H' kvs g := fun n => by
  rcases h n with h | ⟨v, k, h1, h2, h3⟩
  · exact .inl h
  · exact .inr ⟨v, k, h1, h2, kd_keep e h3⟩
end K22
namespace K22
open PySem L2 Kk
theorem sqt_dk {K : PySem.W.Frag} {H : Hp} {l a : Addr} {kvs : List (Key × V)} {xs : List V} {o : HO} (h : H l = some (.dK kvs)) (t : SqT K H a xs) : SqT K (upd H l o) a xs := by
  rcases t with (t | ⟨o', t⟩) | t
  · exact .inl (.inl (by rw [upd_ne (fun e => by rw [e, h] at t; cases t)]; exact t))
  · exact .inl (.inr ⟨o', by rw [upd_ne (fun e => by rw [e, h] at t; cases t)]; exact t⟩)
  · exact .inr t
def twoP (w1 w2 : Str) (g1 g2 : Str → Option Kd) : Str → Option (Str → Option Kd) := fun q => if q = w1 then some g1 else if q = w2 then some g2 else none
def spLacks (K : PySem.W.Frag) (CF : Addr) : Sp := fun vs H Q _ => ∃ (a td wl ph d0 d1 d2 : Addr) (ns : List Int) (w1 w2 w3 : Str) (tkv kv0 kv1 kv2 pkv : List (Key × V)) (g0 g1 g2 : Str → Option Kd),
  vs = [.ref a, .ref td, .ref wl, .ref ph] ∧ SqL K H a (ns.map V.int) ∧ ns.length ≤ 63 ∧ H wl = some (.lst [.str "", .str w1, .str w2, .str w3]) ∧ okW w1 ∧ okW w2 ∧ okW w3 ∧ (["", w1, w2, w3] : List Str).Nodup ∧
  H td = some (.dK tkv) ∧ valV tkv (.inr "") = some (.ref d0) ∧ valV tkv (.inr w1) = some (.ref d1) ∧ valV tkv (.inr w2) = some (.ref d2) ∧ valV tkv (.inr w3) = none ∧
  H d0 = some (.dK kv0) ∧ KvAt K H kv0 g0 ∧ kv0.length ≤ 100 ∧ H d1 = some (.dK kv1) ∧ KvAt K H kv1 g1 ∧ H d2 = some (.dK kv2) ∧ KvAt K H kv2 g2 ∧
  H ph = some (.dK pkv) ∧ PartsAt K H CF pkv (twoP w1 w2 g1 g2) ∧ pkv.length ≤ 100 ∧ ∀ H', Same H H' → Q (.bl true) H'
section
variable {P : Program} {w : World} {K : PySem.W.Frag} {mg : Str → Option Value} {base : Heap}
theorem scLacks : FnScope ["_law_script", "_law_told_here", "_law_words", "_law_parts_here", "_law_cell_here", "_law_leaf", "_law_short", "_law_own", "_law_again", "_law_due"] ["_law_script", "_law_told_here", "_law_words", "_law_parts_here"] (defScope sLacks) := ⟨rfl, rfl, rfl, by decide +kernel, rfl, by decide +kernel, by decide +kernel⟩
end
end K22
namespace K22
open PySem L2 Kk
abbrev lacksN : List Str := ["_law_script", "_law_told_here", "_law_words", "_law_parts_here", "_law_cell_here", "_law_leaf", "_law_short", "_law_own", "_law_again", "_law_due"]
theorem se2 {env : Env} {es fs : List Expr} {k : Nat} {pos : Pos} : starEach (.Tuple fs k pos :: es) env = (false, eval (.Tuple fs k pos) env) :: starEach es env := rfl
theorem se1 {env : Env} {es : List Expr} {c : Const} {k : Nat} {pos : Pos} : starEach (.Constant c k pos :: es) env = (false, eval (.Constant c k pos) env) :: starEach es env := rfl
theorem seN {env : Env} {es : List Expr} {x : Str} {pos : Pos} : starEach (.Name x pos :: es) env = (false, eval (.Name x pos) env) :: starEach es env := rfl
theorem pe_num2 {X : Cx} {x : Str} {i : Int} {j1 j2 k : Nat} {p1 p2 pos : Pos} : PE X (.Tuple [.Constant (.str x) j1 p1, .Constant (.int i) j2 p2] k pos) (tTup (tCons (tC (.str x)) (tCons (tC (.int i)) tNil))) := pe_tup (pa_cons pe_str (pa_cons pe_int pa_nil))
def shortK (b : Int) (z t : Str) : Kd := if b = 0 then .pair (.num 7) (.name z t) else .pair (.name z t) (.num 7)
def dueK (b : Int) : Kd := if b = 0 then .pair (.num 7) (.num 3) else .pair (.num 3) (.num 7)
theorem short_put {b : Int} {z t : Str} {G : Str × Str → Option Kd} (h : G (z, t) = some (.num 3)) : Kd.put G (shortK b z t) = dueK b := by
  unfold shortK dueK
  split <;> simp [Kd.put, h]
theorem short_facts (b : Int) (z t : Str) : (shortK b z t).words = 3 ∧ Kd.depth (shortK b z t) ≤ 40 ∧ Kd.names (shortK b z t) = [(z, t)] := by
  unfold shortK
  split
  · exact ⟨rfl, by show 1 + max 1 1 ≤ 40; decide, rfl⟩
  · exact ⟨rfl, by show 1 + max 1 1 ≤ 40; decide, rfl⟩
theorem due_facts (b : Int) : (dueK b).words = 3 ∧ Kd.depth (dueK b) ≤ 60 ∧ Kd.ok (dueK b) := by
  unfold dueK
  split
  · exact ⟨rfl, by show 1 + max 1 1 ≤ 60; decide, trivial, trivial⟩
  · exact ⟨rfl, by show 1 + max 1 1 ≤ 60; decide, trivial, trivial⟩
section
variable {P : Program} {w : World} {K : PySem.W.Frag} {mg : Str → Option Value} {base : Heap}
set_option maxHeartbeats 0 in
theorem ok_lacks {f fc fw fs fi CF : Addr} {fd fdc fdw fds fdi : FuncData} (F : Fun K "_law_lacks" "_law_lacks" sLacks f fd)
    (GC : FnOk P w K mg base CX0 1 fc fdc ["_law_script", "_law_k"] (spCell K)) (bC : Binds K fdc ["_law_script", "_law_k"] []) (kC : PySem.W.keepIn K (.ref fc) = true) (mC : mg "_law_cell" = some (.ref fc))
    (GW : FnOk P w K mg base CX0 1 fw fdw ["_law_cell_here"] spWordF) (bW : Binds K fdw ["_law_cell_here"] []) (kW : PySem.W.keepIn K (.ref fw) = true) (mW : mg "_law_word" = some (.ref fw))
    (GS : FnOk P w K mg base CX0 42 fs fds ["_law_kind", "_law_own", "_law_parts_here", "_law_most"] (spSaid K CF)) (bS : Binds K fds ["_law_kind", "_law_own", "_law_parts_here", "_law_most"] []) (kS : PySem.W.keepIn K (.ref fs) = true) (mS : mg "_law_said" = some (.ref fs))
    (GI : FnOk P w K mg base CX0 1 fi fdi ["self", "kinds", "funs"] (spInit CF)) (bI : Binds K fdi ["self", "kinds", "funs"] []) (MF : Mk K CF fi) (mF : mg "Face" = some (.ref CF)) (md : mg "dict" = none) :
    FnOk P w K mg base CX0 43 f fd ["_law_script", "_law_told_here", "_law_words", "_law_parts_here"] (spLacks K CF) := by
  refine F.ok scLacks (fun vs H Q E h => ?_) (fun cdv A outer s H vs Q E hr h => ?_)
  · obtain ⟨a, td, wl, ph, d0, d1, d2, ns, w1, w2, w3, tkv, kv0, kv1, kv2, pkv, g0, g1, g2, rfl, _⟩ := h
    rfl
  obtain ⟨a, td, wl, ph, d0, d1, d2, ns, w1, w2, w3, tkv, kv0, kv1, kv2, pkv, g0, g1, g2, rfl, hS, h63, hwl, o1, o2, o3, hnd, htd, t0, t1, t2, t3, hd0, hk0, hz0, hd1, hk1, hd2, hk2, hph, hP, hz1, q⟩ := h
  have hu := hu_of hr
  have hu64 := hr.units
  have hr1 : Room 1 _ := hr.mono (by decide)
  have hr2 : Room (1 + 1) _ := hr.mono (by decide)
  -- what is due, and said of the short kind
  obtain ⟨u9, d9, k9⟩ : ∃ t', PSs (cxOf CX0 P w K mg base lacksN "_law_lacks" (defScope sLacks) f cdv A outer s H E).nox (List.drop 9 (defBody sLacks)) t' ∧
      ∀ (c : Int) (z t : Str) (lf own ag : Addr) (v6 : V) (H9 : Hp) (okv agv : List (Key × V)) (OG : Str → Option Kd) (PG : Str → Option (Str → Option Kd)), Same H H9 → KdAt K H9 v6 (shortK (c / 5 % 2) z t) → okW z → okW t → H9 own = some (.dK okv) → KvAt K H9 okv OG → H9 ag = some (.dK agv) → PartsAt K H9 CF agv PG → tell OG PG (z, t) = some (.num 3) →
        t' { nx := fun _ H' => Q .non H', rt := Q } [some (.ref a), some (.ref td), some (.ref wl), some (.ref ph), some (.int c), some (.ref lf), some v6, some (.ref own), some (.ref ag), none] H9 := by
    refine ⟨_, (@pss_cons _ _ _ _ _ (@ps_set _ _ 9 _ _ _ _ scLacks.nd rfl (Or.inl rfl) (@pe_ix _ _ _ _ _ _ _ ix_list (@pe_lst _ _ _ _ (@pa_cons _ _ _ _ _ (@pe_tup _ _ _ _ _ (@pa_cons _ _ _ _ _ (@pe_str _ _ _ _) (@pa_cons _ _ _ _ _ (@pe_num2 _ _ _ _ _ _ _ _ _) (@pa_cons _ _ _ _ _ (@pe_num2 _ _ _ _ _ _ _ _ _) (@pa_nil _) se2) se2) se1)) (@pa_cons _ _ _ _ _ (@pe_tup _ _ _ _ _ (@pa_cons _ _ _ _ _ (@pe_str _ _ _ _) (@pa_cons _ _ _ _ _ (@pe_num2 _ _ _ _ _ _ _ _ _) (@pa_cons _ _ _ _ _ (@pe_num2 _ _ _ _ _ _ _ _ _) (@pa_nil _) se2) se2) se1)) (@pa_nil _) se2) se2)) (pe_op op_mod (pe_op op_fdiv (pv 4) pe_int) pe_int) (fun _ _ => rfl)) rfl (Or.inl rfl))
      (pss_one (ps_ret (pe_cmpR (op_eqD hu64) (pe_call GS hr (by rfl) mS kS bS .nil pass0 (pa_cons (pv 6) (pa_cons (pv 7) (pa_cons (pv 8) (pa_cons pe_int pa_nil))))) (pe_tup (pa_cons pe_str (pa_cons (pv 9) pa_nil))) (nomark _)))) : PSs (cxOf CX0 P w K mg base lacksN "_law_lacks" (defScope sLacks) f cdv A outer s H E).nox _ _), ?_⟩
    intro c z t lf own ag v6 H9 okv agv OG PG s9 hv6 oz ot hown hO hag hPA htell
    refine ⟨(by show 2 ≤ sizeLine; decide), fun p1 h1 => ⟨(by show 2 ≤ sizeLine; decide), fun p2 h2 => ⟨(by show 3 ≤ sizeLine; decide), fun p3 h3 => ⟨(by show 2 ≤ sizeLine; decide), fun p4 h4 => ⟨(by show 2 ≤ sizeLine; decide), fun p5 h5 => ⟨(by show 3 ≤ sizeLine; decide), fun p6 h6 => ⟨(by show 2 ≤ sizeLine; decide), fun l hl => ?_⟩⟩⟩⟩⟩⟩⟩
    have e1 := same_new h1 (.tup [.str "num", .int 7])
    have e2 := same_new h2 (.tup [.str "num", .int 3])
    have e3 := same_new h3 (.tup [.str "pair", .ref p1, .ref p2])
    have e4 := same_new h4 (.tup [.str "num", .int 3])
    have e5 := same_new h5 (.tup [.str "num", .int 7])
    have e6 := same_new h6 (.tup [.str "pair", .ref p4, .ref p5])
    have e7 := same_new hl (.lst [V.ref p3, .ref p6])
    have eA : Same H9 _ := e1.trans (e2.trans (e3.trans (e4.trans (e5.trans (e6.trans e7)))))
    have m2 : c / 5 % 2 = 0 ∨ c / 5 % 2 = 1 := by omega
    obtain ⟨vd, hat, hvd⟩ : ∃ vd, atI [V.ref p3, .ref p6] (c / 5 % 2) = some vd ∧ KdAt K (upd (upd (upd (upd (upd (upd (upd H9 p1 (.tup [.str "num", .int 7])) p2 (.tup [.str "num", .int 3])) p3 (.tup [.str "pair", .ref p1, .ref p2])) p4 (.tup [.str "num", .int 3])) p5 (.tup [.str "num", .int 7])) p6 (.tup [.str "pair", .ref p4, .ref p5])) l (.lst [V.ref p3, .ref p6])) vd (dueK (c / 5 % 2)) := by
      rcases m2 with e | e <;> rw [e]
      · exact ⟨_, rfl, .pair (SqT.of (e7 _ _ (e6 _ _ (e5 _ _ (e4 _ _ upd_same))))) (.num (SqT.of (e7 _ _ (e6 _ _ (e5 _ _ (e4 _ _ (e3 _ _ (e2 _ _ upd_same)))))))) (.num (SqT.of (e7 _ _ (e6 _ _ (e5 _ _ (e4 _ _ (e3 _ _ upd_same)))))))⟩
      · exact ⟨_, rfl, .pair (SqT.of (e7 _ _ upd_same)) (.num (SqT.of (e7 _ _ (e6 _ _ (e5 _ _ upd_same))))) (.num (SqT.of (e7 _ _ (e6 _ _ upd_same))))⟩
    refine ⟨_, rfl, _, _, rfl, rfl, ⟨by decide, by decide⟩, _, _, rfl, rfl, (by show (0 : Int) < 2; decide), l, _, _, _, rfl, rfl, SqL.of upd_same, hat, ?_⟩
    obtain ⟨w3, dp, nm⟩ := short_facts (c / 5 % 2) z t
    obtain ⟨dw, dd, dok⟩ := due_facts (c / 5 % 2)
    have hput := short_put (b := c / 5 % 2) (z := z) (t := t) htell
    have hdw : (Kd.put (tell OG PG) (shortK (c / 5 % 2) z t)).words = 3 := by rw [hput]; exact dw
    refine ⟨_, rfl, _, rfl, _, rfl, ?_⟩
    refine ⟨v6, shortK (c / 5 % 2) z t, own, ag, 0, okv, agv, OG, PG, rfl, hv6.same eA, by omega, dp, ?_, by decide, by decide, eA _ _ hown, hO.same eA, eA _ _ hag, hPA.same eA, ?_, ?_⟩
    · intro n hn
      rw [nm] at hn
      obtain rfl := List.mem_singleton.mp hn
      exact ⟨oz, ot⟩
    · rintro ⟨n, hn, en⟩
      rw [nm] at hn
      obtain rfl := List.mem_singleton.mp hn
      rw [htell] at en
      cases en
    · refine fun _ => ⟨by omega, fun hb => absurd hb (by rw [hdw]; show ¬ ((3 : Nat) : Int) > 40; decide), fun _ H10 t1 v s10 hv ht1 => ?_⟩
      rw [hput] at hv
      refine ⟨_, rfl, (by show 2 ≤ sizeLine; decide), fun p8 h8 => ?_⟩
      have e8 := same_new h8 (.tup [.str "told", vd])
      refine ⟨toldD (dueK (c / 5 % 2)), toldD (dueK (c / 5 % 2)), told_dat (e8 _ _ ht1) (hv.same e8), told_dat upd_same (hvd.same (s10.trans e8)), told_shaped dok dd, told_shaped dok dd, ?_⟩
      have zq := q _ (s9.trans (eA.trans (s10.trans e8)))
      rw [← told_eqv (dueK (c / 5 % 2))] at zq
      exact zq
  -- the own kinds and the parts with one more
  obtain ⟨u6, d6, k6⟩ : ∃ t', PSs (cxOf CX0 P w K mg base lacksN "_law_lacks" (defScope sLacks) f cdv A outer s H E).nox (List.drop 6 (defBody sLacks)) t' ∧
      ∀ (c : Int) (z t : Str) (lf own : Addr) (v6 : V) (H6 : Hp), Same H H6 → H own = none → H6 own = some (.dK kv0) → KdAt K H6 v6 (shortK (c / 5 % 2) z t) → SqT K H6 lf [.str "name", .str z, .str t] → okW z → okW t →
        t' { nx := fun _ H' => Q .non H', rt := Q } [some (.ref a), some (.ref td), some (.ref wl), some (.ref ph), some (.int c), some (.ref lf), some v6, some (.ref own), none, none] H6 := by
    refine ⟨_, (pss_cons (ps_set (i := 8) scLacks.nd rfl (Or.inl rfl) (pe_callTy call_dict_dK (by rfl) md bootDict (pa_cons (pv 3) pa_nil)))
      (@pss_cons _ _ _ _ _ (@ps_dput _ _ _ _ _ _ _ _ _ hu (pv 7) (pe_ix ix_tup (pv 5) pe_int (fun _ _ => rfl)) (@pe_num2 _ _ _ _ _ _ _ _ _) rfl)
      (pss_cons (ps_if (pt_cmpR op_ne (pe_ix ix_tup (pv 5) pe_int (fun _ _ => rfl)) pe_str (nomark _))
        (@pss_cons _ _ _ _ _ (@ps_dput _ _ _ _ _ _ _ _ _ hu (pv 8) (pe_ix ix_tup (pv 5) pe_int (fun _ _ => rfl)) (pe_make MF GI hr2 (by rfl) mF bI .nil pass0 (pa_cons (pv 7) (pa_cons pe_dnewK pa_nil))) rfl) (@pss_one _ _ _ (@ps_set _ _ 7 _ _ _ _ scLacks.nd rfl (Or.inl rfl) (@pe_dnewK _ _) rfl (Or.inl rfl)))) pss_nil) @d9)) : PSs (cxOf CX0 P w K mg base lacksN "_law_lacks" (defScope sLacks) f cdv A outer s H E).nox _ _), ?_⟩
    intro c z t lf own v6 H6 s6 hown0 hown hv6 hlf oz ot
    refine ⟨_, rfl, ph, pkv, rfl, s6 _ _ hph, fun ag hag0 => ?_⟩
    have e7 := same_new hag0 (.dK pkv)
    have hago : ag ≠ own := fun e => by rw [e, hown] at hag0; cases hag0
    refine ⟨(by show 2 ≤ sizeLine; decide), fun p hp => ?_⟩
    have e8 := same_new hp (.tup [.str "num", .int 3])
    have e68 := e7.trans e8
    have hown8 := e68 _ _ hown
    refine ⟨_, rfl, _, rfl, lf, _, _, _, rfl, rfl, e68.tup hlf, (show atI [V.str "name", .str z, .str t] 2 = some (.str t) from rfl), own, _, rfl, DPut.k (k := .inr t) hown8 (Nat.lt_of_lt_of_le (Nat.lt_succ_self _) (small (by omega))), ?_⟩
    have s9 : Same H (upd (upd (upd H6 ag (.dK pkv)) p (.tup [.str "num", .int 3])) own (.dK (putK kv0 (.inr t) (.ref p)))) := sput (s6.trans e68) hown0
    have kp9 : ∀ a xs, SqT K H6 a xs → SqT K (upd (upd (upd H6 ag (.dK pkv)) p (.tup [.str "num", .int 3])) own (.dK (putK kv0 (.inr t) (.ref p)))) a xs := fun _ _ h => sqt_dk hown8 (e68.tup h)
    have hO9 : KvAt K (upd (upd (upd H6 ag (.dK pkv)) p (.tup [.str "num", .int 3])) own (.dK (putK kv0 (.inr t) (.ref p)))) (putK kv0 (.inr t) (.ref p)) (putG g0 t (.num 3)) := (hk0.same s9).put (.num (sqt_dk hown8 (SqT.of upd_same)))
    have hag9 : upd (upd (upd H6 ag (.dK pkv)) p (.tup [.str "num", .int 3])) own (.dK (putK kv0 (.inr t) (.ref p))) ag = some (.dK pkv) := by rw [upd_ne hago]; exact e8 _ _ upd_same
    have hlf9 := kp9 _ _ hlf
    have hv9 := kd_keep kp9 hv6
    generalize hH9 : upd (upd (upd H6 ag (.dK pkv)) p (.tup [.str "num", .int 3])) own (.dK (putK kv0 (.inr t) (.ref p))) = H9 at s9 kp9 hO9 hag9 hlf9 hv9 ⊢
    have hown9 : H9 own = some (.dK (putK kv0 (.inr t) (.ref p))) := by rw [← hH9]; exact upd_same
    have hag0' : H ag = none := s6.free hag0
    clear hH9
    refine ⟨_, rfl, lf, _, _, _, rfl, rfl, hlf9, (show atI [V.str "name", .str z, .str t] 1 = some (.str z) from rfl), rfl, _, rfl, ite2 (fun ne => ?_) (fun eq => ?_)⟩
    · have ne' : z ≠ "" := fun e => by
        have ne2 : (!decide (V.str z = V.str "")) = true := ne
        rw [e, decide_eq_true rfl] at ne2
        cases ne2
      refine ⟨_, rfl, fun fd0 hfd0 x dx nx ndx nex => ?_⟩
      have e10 := same_new hfd0 (.dK [])
      have e11a := same_new ndx (.own x)
      have nx' : upd (upd H9 fd0 (.dK [])) dx (.own x) x = none := by rw [upd_ne (Ne.symm nex)]; exact nx
      have e11b := same_new nx' (.ins CF dx [])
      have e11 := e10.trans (e11a.trans e11b)
      refine ⟨x, dx, own, fd0, _, [], rfl, upd_same, e11 _ _ hown9, e11b _ _ (e11a _ _ upd_same), fun d fs H12 hd hx hk hd' keep => ⟨rfl, ?_⟩⟩
      have s12 : Same H9 H12 := fun b o hb => keep b o (e11 _ _ hb) (fun e => by rw [e] at hb; rw [e10 _ _ hb] at nx; cases nx)
      have hag12 := s12 _ _ hag9
      refine ⟨_, rfl, _, rfl, lf, _, _, _, rfl, rfl, s12.tup hlf9, (show atI [V.str "name", .str z, .str t] 1 = some (.str z) from rfl), ag, _, rfl, DPut.k (k := .inr z) hag12 (Nat.lt_of_lt_of_le (Nat.lt_succ_self _) (small (by omega))), ?_⟩
      refine fun e he => ?_
      have e14 := same_new he (.dK [])
      have hxa : x ≠ ag := fun q => by rw [q] at nx; rw [e10 _ _ hag9] at nx; cases nx
      have hda : d ≠ ag := fun q => by rw [q, e11 _ _ hag9] at hd; cases hd
      have kp : ∀ a xs, SqT K H9 a xs → SqT K (upd (upd H12 ag (.dK (putK pkv (.inr z) (.ref x)))) e (.dK [])) a xs := fun _ _ h => e14.tup (sqt_dk hag12 (s12.tup h))
      have s14 : Same H (upd (upd H12 ag (.dK (putK pkv (.inr z) (.ref x)))) e (.dK [])) := (sput (s9.trans s12) hag0').trans e14
      have hF : FaceAt K (upd (upd H12 ag (.dK (putK pkv (.inr z) (.ref x)))) e (.dK [])) CF (.ref x) (putG g0 t (.num 3)) :=
        ⟨x, dx, fs, d, _, rfl, e14 _ _ (by rw [upd_ne hxa]; exact hx), hk, e14 _ _ (by rw [upd_ne hda]; exact hd'), hO9.keep kp⟩
      refine k9 c z t lf e ag v6 _ [] _ (fun _ => none) (putG (twoP w1 w2 g1 g2) z (putG g0 t (.num 3))) s14 (kd_keep kp hv9) oz ot upd_same .nil (e14 _ _ upd_same) ((hP.same s14).put hF) ?_
      show (if z = "" then none else (putG (twoP w1 w2 g1 g2) z (putG g0 t (.num 3)) z).bind fun g => g t) = some (.num 3)
      rw [if_neg ne']
      show ((if z = z then some (putG g0 t (.num 3)) else _).bind fun g => g t) = some (.num 3)
      rw [if_pos rfl]
      show (if t = t then some (Kd.num 3) else _) = _
      rw [if_pos rfl]
    · have eq' : z = "" := by
        have eq2 : ¬ (!decide (V.str z = V.str "")) = true := eq
        exact Decidable.byContradiction fun n => eq2 (by rw [decide_eq_false (fun h => n (V.str.inj h))] <;> rfl)
      refine k9 c z t lf own ag v6 H9 _ pkv (putG g0 t (.num 3)) (twoP w1 w2 g1 g2) s9 hv9 oz ot hown9 hO9 hag9 (hP.same s9) ?_
      show (if z = "" then putG g0 t (.num 3) t else _) = some (.num 3)
      rw [if_pos eq']
      show (if t = t then some (Kd.num 3) else _) = _
      rw [if_pos rfl]
  -- refused first
  obtain ⟨u4, d4, k4⟩ : ∃ t', PSs (cxOf CX0 P w K mg base lacksN "_law_lacks" (defScope sLacks) f cdv A outer s H E).nox (List.drop 4 (defBody sLacks)) t' ∧
      ∀ (c : Int) (z t : Str) (lf : Addr) (v6 : V) (H4 : Hp), Same H H4 → KdAt K H4 v6 (shortK (c / 5 % 2) z t) → SqT K H4 lf [.str "name", .str z, .str t] → okW z → okW t → tell g0 (twoP w1 w2 g1 g2) (z, t) = none →
        t' { nx := fun _ H' => Q .non H', rt := Q } [some (.ref a), some (.ref td), some (.ref wl), some (.ref ph), some (.int c), some (.ref lf), some v6, none, none, none] H4 := by
    refine ⟨_, pss_cons (ps_set (i := 7) scLacks.nd rfl (Or.inl rfl) (pe_callTy call_dict_dK (by rfl) md bootDict (pa_cons (pe_dget hu (pv 1) pe_str (fun _ _ => rfl)) pa_nil)))
      (pss_cons (ps_if (pt_cmpR (op_neD hu64) (pe_call GS hr (by rfl) mS kS bS .nil pass0 (pa_cons (pv 6) (pa_cons (pv 7) (pa_cons (pv 3) (pa_cons pe_int pa_nil))))) (pe_tup (pa_cons pe_str (pa_cons pe_bl pa_nil))) (nomark _)) (pss_one (ps_ret pe_bl)) pss_nil) @d6), ?_⟩
    intro c z t lf v6 H4 s4 hv6 hlf oz ot htell
    refine ⟨_, rfl, td, .ref d0, rfl, t0 ▸ DGet.k (k := .inr "") (s4 _ _ htd), d0, kv0, rfl, s4 _ _ hd0, fun own hown => ?_⟩
    have e5 := same_new hown (.dK kv0)
    have s5 := s4.trans e5
    obtain ⟨w3, dp, nm⟩ := short_facts (c / 5 % 2) z t
    refine ⟨_, rfl, _, rfl, _, rfl, ?_⟩
    refine ⟨v6, shortK (c / 5 % 2) z t, own, ph, 0, kv0, pkv, g0, twoP w1 w2 g1 g2, rfl, hv6.same e5, by omega, dp, ?_, by decide, by decide, upd_same, hk0.same s5, s5 _ _ hph, hP.same s5, ?_, ?_⟩
    · intro n hn
      rw [nm] at hn
      obtain rfl := List.mem_singleton.mp hn
      exact ⟨oz, ot⟩
    · refine fun _ H6 t1 s6 ht1 => ⟨(by show 2 ≤ sizeLine; decide), fun p7 h7 => ?_⟩
      have e7 := same_new h7 (.tup [.str "no", .bl true])
      have s57 := s6.trans e7
      refine ⟨flagD "no", flagD "no", flag_dat (e7 _ _ ht1), flag_dat upd_same, no_shaped, no_shaped, _, rfl, ite2 (fun z => ?_) (fun _ => k6 c z t lf own v6 _ (s5.trans s57) (s4.free hown) (s57 _ _ upd_same) (hv6.same (e5.trans s57)) ((e5.trans s57).tup hlf) oz ot)⟩
      have z' : (!PyData.eqv (flagD "no") (flagD "no")) = true := z
      rw [no_eqv] at z'
      cases z'
    · refine fun hall => absurd htell (hall (z, t) ?_)
      rw [nm]
      exact List.mem_singleton.mpr rfl
  refine ⟨_, (pss_cons (ps_set (i := 4) scLacks.nd rfl (Or.inl rfl) (pe_call GC hr1 (by rfl) mC kC bC .nil pass0 (pa_cons (pv 0) (pa_cons pe_int pa_nil))))
    (pss_cons (ps_set (i := 5) scLacks.nd rfl (Or.inl rfl) (pe_tup (pa_cons pe_str (pa_cons (pe_ix ix_list (pv 2) (pe_op op_mod (pv 4) pe_int) (fun _ _ => rfl)) (pa_cons (pe_call GW hr1 (by rfl) mW kW bW .nil pass0 (pa_cons (pe_op op_fdiv (pv 4) pe_int) pa_nil)) pa_nil)))))
    (@pss_cons _ _ _ _ _ (@ps_set _ _ 6 _ _ _ _ scLacks.nd rfl (Or.inl rfl) (@pe_ix _ _ _ _ _ _ _ ix_list (@pe_lst _ _ _ _ (@pa_cons _ _ _ _ _ (@pe_tup _ _ _ _ _ (@pa_cons _ _ _ _ _ (@pe_str _ _ _ _) (@pa_cons _ _ _ _ _ (@pe_num2 _ _ _ _ _ _ _ _ _) (@pa_cons _ _ _ _ _ (pv 5) (@pa_nil _) seN) se2) se1)) (@pa_cons _ _ _ _ _ (@pe_tup _ _ _ _ _ (@pa_cons _ _ _ _ _ (@pe_str _ _ _ _) (@pa_cons _ _ _ _ _ (pv 5) (@pa_cons _ _ _ _ _ (@pe_num2 _ _ _ _ _ _ _ _ _) (@pa_nil _) se2) seN) se1)) (@pa_nil _) se2) se2)) (pe_op op_mod (pe_op op_fdiv (pv 4) pe_int) pe_int) (fun _ _ => rfl)) rfl (Or.inl rfl))
    (pss_cons (ps_if (PW.pt (pw_and (pt_cmp (pc_din hu (pe_ix ix_tup (pv 5) pe_int (fun _ _ => rfl)) (pv 1)) (by with_unfolding_all rfl)) (pw_and1 (pt_cmp (pc_din hu (pe_ix ix_tup (pv 5) pe_int (fun _ _ => rfl)) (pe_dget hu (pv 1) (pe_ix ix_tup (pv 5) pe_int (fun _ _ => rfl)) (fun _ _ => rfl))) (by with_unfolding_all rfl))))) (pss_one (ps_ret pe_bl)) pss_nil) @d4))) : PSs (cxOf CX0 P w K mg base lacksN "_law_lacks" (defScope sLacks) f cdv A outer s H E).nox _ _), ?_⟩
  refine ⟨_, rfl, a, ns, 6, rfl, hS, h63, by decide, by decide, fun c => ?_⟩
  have b0 := Int.emod_nonneg c (show (4 : Int) ≠ 0 by decide)
  have b1 := Int.emod_lt_of_pos c (show (0 : Int) < 4 by decide)
  have nd4 : "" ≠ w1 ∧ "" ≠ w2 ∧ "" ≠ w3 ∧ w1 ≠ w2 ∧ w1 ≠ w3 ∧ w2 ≠ w3 := by
    simp only [List.nodup_cons, List.mem_cons, List.not_mem_nil, or_false, not_or] at hnd
    obtain ⟨⟨n1, n2, n3⟩, ⟨n4, n5⟩, n6, _⟩ := hnd
    exact ⟨n1, n2, n3, n4, n5, n6⟩
  obtain ⟨n1, n2, n3, n4, n5, n6⟩ := nd4
  have ot : okW (wordF (c / 4)) := ⟨word_ok _, by have := (word_len (c / 4)).2; omega⟩
  -- the word, and what is told of it
  obtain ⟨z, hz, oz, hcase⟩ : ∃ z : Str, atI [V.str "", .str w1, .str w2, .str w3] (c % 4) = some (.str z) ∧ okW z ∧
      ((valV tkv (.inr z) = none ∧ tell g0 (twoP w1 w2 g1 g2) (z, wordF (c / 4)) = none) ∨
        ∃ di kvi gi, valV tkv (.inr z) = some (.ref di) ∧ H di = some (.dK kvi) ∧ KvAt K H kvi gi ∧ (gi (wordF (c / 4)) = none → tell g0 (twoP w1 w2 g1 g2) (z, wordF (c / 4)) = none)) := by
    have h3 : c % 4 = 0 ∨ c % 4 = 1 ∨ c % 4 = 2 ∨ c % 4 = 3 := by omega
    rcases h3 with e | e | e | e <;> rw [e]
    · refine ⟨"", rfl, ⟨by decide +kernel, by decide +kernel⟩, .inr ⟨d0, kv0, g0, t0, hd0, hk0, fun h => ?_⟩⟩
      show (if ("" : Str) = "" then g0 (wordF (c / 4)) else _) = none
      rw [if_pos rfl]
      exact h
    · refine ⟨w1, rfl, o1, .inr ⟨d1, kv1, g1, t1, hd1, hk1, fun h => ?_⟩⟩
      show (if w1 = "" then _ else ((if w1 = w1 then some g1 else _).bind fun g => g (wordF (c / 4)))) = none
      rw [if_neg (Ne.symm n1), if_pos rfl]
      exact h
    · refine ⟨w2, rfl, o2, .inr ⟨d2, kv2, g2, t2, hd2, hk2, fun h => ?_⟩⟩
      show (if w2 = "" then _ else ((if w2 = w1 then some g1 else if w2 = w2 then some g2 else none).bind fun g => g (wordF (c / 4)))) = none
      rw [if_neg (Ne.symm n2), if_neg (Ne.symm n4), if_pos rfl]
      exact h
    · refine ⟨w3, rfl, o3, .inl ⟨t3, ?_⟩⟩
      show (if w3 = "" then _ else ((if w3 = w1 then some g1 else if w3 = w2 then some g2 else none).bind fun g => g (wordF (c / 4)))) = none
      rw [if_neg (Ne.symm n3), if_neg (Ne.symm n5), if_neg (Ne.symm n6)]
      rfl
  refine ⟨_, rfl, _, rfl, _, _, rfl, rfl, (by show (0 : Int) < 4; decide), wl, _, _, _, rfl, rfl, SqL.of hwl, hz, _, rfl, _, _, rfl, rfl, ⟨by decide, by decide⟩, c / 4, rfl, fun H1 s1 => ⟨(by show 3 ≤ sizeLine; decide), fun lf hlf => ?_⟩⟩
  generalize ht : wordF (c / 4) = t at ot hcase ⊢
  have e1 := same_new hlf (.tup [.str "name", .str z, .str t])
  refine ⟨(by show 2 ≤ sizeLine; decide), fun p1 h1 => ⟨_, rfl, (by show 3 ≤ sizeLine; decide), fun p2 h2 => ⟨_, rfl, (by show 2 ≤ sizeLine; decide), fun p3 h3 => ⟨(by show 3 ≤ sizeLine; decide), fun p4 h4 => ⟨(by show 2 ≤ sizeLine; decide), fun l hl => ?_⟩⟩⟩⟩⟩
  have f1 := same_new h1 (.tup [.str "num", .int 7])
  have f2 := same_new h2 (.tup [.str "pair", .ref p1, .ref lf])
  have f3 := same_new h3 (.tup [.str "num", .int 7])
  have f4 := same_new h4 (.tup [.str "pair", .ref lf, .ref p3])
  have f5 := same_new hl (.lst [V.ref p2, .ref p4])
  have fA := f1.trans (f2.trans (f3.trans (f4.trans f5)))
  have hlfA : SqT K _ lf [.str "name", .str z, .str t] := SqT.of (fA _ _ upd_same)
  have m2 : c / 5 % 2 = 0 ∨ c / 5 % 2 = 1 := by omega
  obtain ⟨v6, hat, hv6⟩ : ∃ v6, atI [V.ref p2, .ref p4] (c / 5 % 2) = some v6 ∧ KdAt K (upd (upd (upd (upd (upd (upd H1 lf (.tup [.str "name", .str z, .str t])) p1 (.tup [.str "num", .int 7])) p2 (.tup [.str "pair", .ref p1, .ref lf])) p3 (.tup [.str "num", .int 7])) p4 (.tup [.str "pair", .ref lf, .ref p3])) l (.lst [V.ref p2, .ref p4])) v6 (shortK (c / 5 % 2) z t) := by
    rcases m2 with e | e <;> rw [e]
    · exact ⟨_, rfl, .pair (SqT.of (f5 _ _ (f4 _ _ (f3 _ _ upd_same)))) (.num (SqT.of (f5 _ _ (f4 _ _ (f3 _ _ (f2 _ _ upd_same)))))) (.name hlfA)⟩
    · exact ⟨_, rfl, .pair (SqT.of (f5 _ _ upd_same)) (.name hlfA) (.num (SqT.of (f5 _ _ (f4 _ _ upd_same))))⟩
  refine ⟨_, rfl, _, _, rfl, rfl, ⟨by decide, by decide⟩, _, _, rfl, rfl, (by show (0 : Int) < 2; decide), l, _, _, _, rfl, rfl, SqL.of upd_same, hat, ?_⟩
  have sB := s1.trans (e1.trans fA)
  refine ⟨_, rfl, lf, _, _, _, rfl, rfl, hlfA, (show atI [V.str "name", .str z, .str t] 1 = some (.str z) from rfl), _, rfl, td, _, rfl, DGet.k (k := .inr z) (sB _ _ htd), _, rfl, ?_⟩
  rcases hcase with ⟨hv, htell⟩ | ⟨di, kvi, gi, hv, hdi, hki, himp⟩
  · rw [hv]
    exact iteF (iteF (k4 c z t lf v6 _ sB hv6 hlfA oz ot htell))
  · rw [hv]
    refine iteT ⟨_, rfl, lf, _, _, _, rfl, rfl, hlfA, (show atI [V.str "name", .str z, .str t] 2 = some (.str t) from rfl), _, rfl, _, rfl, lf, _, _, _, rfl, rfl, hlfA, (show atI [V.str "name", .str z, .str t] 1 = some (.str z) from rfl), td, .ref di, rfl, hv ▸ DGet.k (k := .inr z) (sB _ _ htd), di, _, rfl, DGet.k (k := .inr t) (sB _ _ hdi), _, rfl, ?_⟩
    rcases hki t with ⟨hn, hg⟩ | ⟨v, k, hn, hg, _⟩
    · rw [hn]
      exact iteF (k4 c z t lf v6 _ sB hv6 hlfA oz ot (himp hg))
    · rw [hn]
      exact iteT (q _ sB)
end
end K22
namespace K22
open PySem L2 Kk
abbrev lawN : List Str := ["_law_script", "_law_turn", "_law_words", "_law_told_here", "_law_leaves", "_law_row", "_law_k", "_law_cell_here", "_law_t", "_law_kind", "_law_due", "_law_parts_here", "_law_most", "_law_sought_one", "_law_handed"]
def spLaw (K : PySem.W.Frag) : Sp := fun vs H Q _ => ∃ (a : Addr) (ns : List Int), vs = [.ref a] ∧ SqL K H a (ns.map V.int) ∧ ns.length ≤ 63 ∧ ∀ H', Q (.bl true) H'
def Refs (kv : List (Key × V)) : Prop := ∀ p ∈ kv, ∃ c, p.2 = V.ref c
/-- what the law has made, ahead of what it asks -/
def Fx (K : PySem.W.Frag) (CF : Addr) (H : Hp) (a wl td ph : Addr) (ns : List Int) (w1 w2 w3 : Str) (kv0 : List (Key × V)) (v9 v10 : V) (kd : Kd) (g0 g1 g2 : Str → Option Kd) : Prop :=
  ∃ (d0 d1 d2 x1 dx1 e1 x2 dx2 e2 : Addr) (tkv kv1 kv2 pkv : List (Key × V)) (fs1 fs2 : List (Str × V)),
    SqL K H a (ns.map V.int) ∧ H wl = some (.lst [.str "", .str w1, .str w2, .str w3]) ∧ KdAt K H v9 kd ∧ KdAt K H v10 (Kd.put (tell g0 (twoP w1 w2 g1 g2)) kd) ∧
    H td = some (.dK tkv) ∧ valV tkv (.inr "") = some (.ref d0) ∧ valV tkv (.inr w1) = some (.ref d1) ∧ valV tkv (.inr w2) = some (.ref d2) ∧ valV tkv (.inr w3) = none ∧
    H d0 = some (.dK kv0) ∧ KvAt K H kv0 g0 ∧ kv0.length ≤ 100 ∧ Refs kv0 ∧ H d1 = some (.dK kv1) ∧ KvAt K H kv1 g1 ∧ Refs kv1 ∧ H d2 = some (.dK kv2) ∧ KvAt K H kv2 g2 ∧ Refs kv2 ∧
    H ph = some (.dK pkv) ∧ PartsAt K H CF pkv (twoP w1 w2 g1 g2) ∧ pkv.length ≤ 100 ∧
    valV pkv (.inr w1) = some (.ref x1) ∧ H x1 = some (.ins CF dx1 fs1) ∧ fs1.lookup ("kinds" : Str) = some (.ref e1) ∧ H e1 = some (.dK kv1) ∧
    valV pkv (.inr w2) = some (.ref x2) ∧ H x2 = some (.ins CF dx2 fs2) ∧ fs2.lookup ("kinds" : Str) = some (.ref e2) ∧ H e2 = some (.dK kv2)
theorem Fx.same {K : PySem.W.Frag} {CF : Addr} {H H' : Hp} {a wl td ph : Addr} {ns : List Int} {w1 w2 w3 : Str} {kv0 : List (Key × V)} {v9 v10 : V} {kd : Kd} {g0 g1 g2 : Str → Option Kd} (e : Same H H') (h : Fx K CF H a wl td ph ns w1 w2 w3 kv0 v9 v10 kd g0 g1 g2) :
    Fx K CF H' a wl td ph ns w1 w2 w3 kv0 v9 v10 kd g0 g1 g2 := by
  obtain ⟨d0, d1, d2, x1, dx1, e1, x2, dx2, e2, tkv, kv1, kv2, pkv, fs1, fs2, hS, hwl, hk, hd, htd, t0, t1, t2, t3, h0, k0, l0, r0, h1, k1, r1, h2, k2, r2, hp, hP, lp, p1, q1, f1, c1, p2, q2, f2, c2⟩ := h
  exact ⟨d0, d1, d2, x1, dx1, e1, x2, dx2, e2, tkv, kv1, kv2, pkv, fs1, fs2, sql_same e hS, e _ _ hwl, hk.same e, hd.same e, e _ _ htd, t0, t1, t2, t3, e _ _ h0, k0.same e, l0, r0, e _ _ h1, k1.same e, r1, e _ _ h2, k2.same e, r2, e _ _ hp, hP.same e, lp, p1, e _ _ q1, f1, e _ _ c1, p2, e _ _ q2, f2, e _ _ c2⟩
/-- what holds of the kind that was drawn -/
structure Sx (w1 w2 w3 : Str) (kd due : Kd) (g0 g1 g2 : Str → Option Kd) : Prop where
  o1 : okW w1
  o2 : okW w2
  o3 : okW w3
  nd : (["", w1, w2, w3] : List Str).Nodup
  is : Kd.put (tell g0 (twoP w1 w2 g1 g2)) kd = due
  words : kd.words ≤ 900
  deep : Kd.depth kd ≤ 40
  names : ∀ n ∈ Kd.names kd, okW n.1 ∧ okW n.2
  told : ∀ n ∈ Kd.names kd, tell g0 (twoP w1 w2 g1 g2) n ≠ none
  dw : due.words ≤ 900
  dd : Kd.depth due ≤ 60
  dok : Kd.ok due
section
variable {P : Program} {w : World} {K : PySem.W.Frag} {mg : Str → Option Value} {base : Heap}
theorem scLaw : FnScope ["_law_script", "_law_turn", "_law_words", "_law_told_here", "_law_leaves", "_law_row", "_law_k", "_law_cell_here", "_law_t", "_law_kind", "_law_due", "_law_parts_here", "_law_most", "_law_sought_one", "_law_handed"] ["_law_script"] (defScope sLaw) := ⟨rfl, rfl, rfl, by decide +kernel, rfl, by decide +kernel, by decide +kernel⟩
end
end K22
namespace K22
open PySem L2 Kk
section
variable {P : Program} {w : World} {K : PySem.W.Frag} {mg : Str → Option Value} {base : Heap}
theorem wlAt {w1 w2 w3 : Str} (i : Int) : i = 0 ∨ i = 1 ∨ i = 2 ∨ i = 3 → ∃ z : Str, atI [V.str "", .str w1, .str w2, .str w3] i = some (.str z) ∧ ((i = 0 ∧ z = "") ∨ (i = 1 ∧ z = w1) ∨ (i = 2 ∧ z = w2) ∨ (i = 3 ∧ z = w3)) := by
  rintro (e | e | e | e) <;> subst e
  · exact ⟨"", rfl, .inl ⟨rfl, rfl⟩⟩
  · exact ⟨w1, rfl, .inr (.inl ⟨rfl, rfl⟩)⟩
  · exact ⟨w2, rfl, .inr (.inr (.inl ⟨rfl, rfl⟩))⟩
  · exact ⟨w3, rfl, .inr (.inr (.inr ⟨rfl, rfl⟩))⟩
/-- the law's last four statements -/
theorem law_15 {f fl fs CF : Addr} {fdl fds : FuncData} {cdv : Value} {A : Around} {outer : List Env} {s : Shared} {H : Hp} {Q : VK} {E : XK}
    (hr : Room 43 (A.deeper (PyProof.Rows.envOfC "law" (defScope sLaw) s.heap.objs.size f cdv)))
    (GL : FnOk P w K mg base CX0 43 fl fdl ["_law_script", "_law_told_here", "_law_words", "_law_parts_here"] (spLacks K CF)) (bL : Binds K fdl ["_law_script", "_law_told_here", "_law_words", "_law_parts_here"] []) (kL : PySem.W.keepIn K (.ref fl) = true) (mL : mg "_law_lacks" = some (.ref fl))
    (GS : FnOk P w K mg base CX0 42 fs fds ["_law_kind", "_law_own", "_law_parts_here", "_law_most"] (spSaid K CF)) (bS : Binds K fds ["_law_kind", "_law_own", "_law_parts_here", "_law_most"] []) (kS : PySem.W.keepIn K (.ref fs) = true) (mS : mg "_law_said" = some (.ref fs))
    (cF : Cls K CF) (nK : NoAttr K CF "kinds") (q : ∀ H', Q (.bl true) H') :
    ∃ t', PSs (cxOf CX0 P w K mg base lawN "law" (defScope sLaw) f cdv A outer s H E).nox (List.drop 15 (defBody sLaw)) t' ∧
      ∀ (H5 : Hp) (a wl td ph hd : Addr) (ns : List Int) (w1 w2 w3 : Str) (kv0 : List (Key × V)) (v9 v10 : V) (kd due : Kd) (g0 g1 g2 : Str → Option Kd) (y1 y4 y5 y6 y7 y8 y12 y13 : Option V), ns.length ≤ 63 → Sx w1 w2 w3 kd due g0 g1 g2 → Fx K CF H5 a wl td ph ns w1 w2 w3 kv0 v9 v10 kd g0 g1 g2 → H5 hd = some (.dK kv0) →
        t' { nx := fun _ H' => Q .non H', rt := Q } [some (.ref a), y1, some (.ref wl), some (.ref td), y4, y5, y6, y7, y8, some v9, some v10, some (.ref ph), y12, y13, some (.ref hd)] H5 := by
  have hu := hu_of hr
  have hu64 := hr.units
  have hr42 : Room 42 _ := hr.mono (by decide)
  refine ⟨_, pss_cons (ps_if (pt_not (pt_val (pe_call GL hr (by rfl) mL kL bL .nil pass0 (pa_cons (pv 0) (pa_cons (pv 3) (pa_cons (pv 2) (pa_cons (pv 11) pa_nil))))))) (pss_one (ps_ret pe_bl)) pss_nil)
    (pss_cons (ps_if (PW.pt (pw_or (pt_cmpR (op_neSame hu) (pe_fld (pe_dget hu (pv 11) (pe_ix ix_list (pv 2) pe_int (fun _ _ => rfl)) (fun _ _ => rfl)) rfl) (pe_dget hu (pv 3) (pe_ix ix_list (pv 2) pe_int (fun _ _ => rfl)) (fun _ _ => rfl)) (nomark _))
      (pw_or1 (pt_cmpR (op_neSame hu) (pe_fld (pe_dget hu (pv 11) (pe_ix ix_list (pv 2) pe_int (fun _ _ => rfl)) (fun _ _ => rfl)) rfl) (pe_dget hu (pv 3) (pe_ix ix_list (pv 2) pe_int (fun _ _ => rfl)) (fun _ _ => rfl)) (nomark _))))) (pss_one (ps_ret pe_bl)) pss_nil)
    (pss_one (ps_ret (pe_cmpR (op_eqD hu64) (pe_call GS hr42 (by rfl) mS kS bS .nil pass0 (pa_cons (pv 9) (pa_cons (pv 14) (pa_cons (pv 11) (pa_cons pe_int pa_nil))))) (pe_tup (pa_cons pe_str (pa_cons (pv 10) pa_nil))) (nomark _))))), ?_⟩
  intro H5 a wl td ph hd ns w1 w2 w3 kv0 v9 v10 kd due g0 g1 g2 y1 y4 y5 y6 y7 y8 y12 y13 h63 S hx hhd
  have hx0 := hx
  obtain ⟨d0, d1, d2, x1, dx1, e1, x2, dx2, e2, tkv, kv1, kv2, pkv, fs1, fs2, hS, hwl, hk, hd10, htd, t0, t1, t2, t3, h0, k0, l0, r0, h1, k1, r1, h2, k2, r2, hp, hP, lp, p1, q1, f1, c1, p2, q2, f2, c2⟩ := hx
  refine ⟨_, rfl, _, rfl, _, rfl, _, rfl, ?_⟩
  refine ⟨a, td, wl, ph, d0, d1, d2, ns, w1, w2, w3, tkv, kv0, kv1, kv2, pkv, g0, g1, g2, rfl, hS, h63, hwl, S.o1, S.o2, S.o3, S.nd, htd, t0, t1, t2, t3, h0, k0, l0, h1, k1, h2, k2, hp, hP, lp, fun H6 s6 => ⟨_, rfl, iteF ?_⟩⟩
  refine ⟨_, rfl, _, rfl, wl, _, _, _, rfl, rfl, SqL.of (s6 _ _ hwl), (show atI [V.str "", .str w1, .str w2, .str w3] 1 = some (.str w1) from rfl), ph, .ref x1, rfl, p1 ▸ DGet.k (k := .inr w1) (s6 _ _ hp), x1, CF, dx1, fs1, _, rfl, s6 _ _ q1, cF, nK, f1, ?_⟩
  refine ⟨_, rfl, _, rfl, wl, _, _, _, rfl, rfl, SqL.of (s6 _ _ hwl), (show atI [V.str "", .str w1, .str w2, .str w3] 1 = some (.str w1) from rfl), td, .ref d1, rfl, t1 ▸ DGet.k (k := .inr w1) (s6 _ _ htd), e1, d1, kv1, rfl, rfl, s6 _ _ c1, s6 _ _ h1, r1, _, rfl, iteF ?_⟩
  refine ⟨_, rfl, _, rfl, wl, _, _, _, rfl, rfl, SqL.of (s6 _ _ hwl), (show atI [V.str "", .str w1, .str w2, .str w3] 2 = some (.str w2) from rfl), ph, .ref x2, rfl, p2 ▸ DGet.k (k := .inr w2) (s6 _ _ hp), x2, CF, dx2, fs2, _, rfl, s6 _ _ q2, cF, nK, f2, ?_⟩
  refine ⟨_, rfl, _, rfl, wl, _, _, _, rfl, rfl, SqL.of (s6 _ _ hwl), (show atI [V.str "", .str w1, .str w2, .str w3] 2 = some (.str w2) from rfl), td, .ref d2, rfl, t2 ▸ DGet.k (k := .inr w2) (s6 _ _ htd), e2, d2, kv2, rfl, rfl, s6 _ _ c2, s6 _ _ h2, r2, _, rfl, iteF ?_⟩
  refine ⟨_, rfl, _, rfl, _, rfl, ?_⟩
  refine ⟨v9, kd, hd, ph, 8000, kv0, pkv, g0, twoP w1 w2 g1 g2, rfl, hk.same s6, S.words, S.deep, S.names, by decide, by decide, s6 _ _ hhd, k0.same s6, s6 _ _ hp, hP.same s6, fun ⟨n, hn, en⟩ => absurd en (S.told n hn), fun _ => ?_⟩
  rw [S.is] at hd10 ⊢
  have dw := S.dw
  refine ⟨dw, fun hb => absurd hb (by show ¬ ((due.words : Nat) : Int) > 8000; omega), fun _ H7 t7 v7 s7 hv7 ht7 => ?_⟩
  refine ⟨_, rfl, (by show 2 ≤ sizeLine; decide), fun p8 h8 => ?_⟩
  have e8 := same_new h8 (.tup [.str "told", v10])
  refine ⟨toldD due, toldD due, told_dat (e8 _ _ ht7) (hv7.same e8), told_dat upd_same (hd10.same (s6.trans (s7.trans e8))), told_shaped S.dok S.dd, told_shaped S.dok S.dd, ?_⟩
  have zq := q (upd H7 p8 (.tup [.str "told", v10]))
  rw [← told_eqv due] at zq
  exact zq
end
end K22
namespace K22
open PySem L2 Kk
/-- what the law awaits of said -/
def Sought (H : Hp) (sv : Addr) (v10 : V) (due : Kd) (m : Int) : Prop := ((due.words : Int) > boundOf m ∧ H sv = some (.tup [.str "big", .bl true])) ∨ (¬ (due.words : Int) > boundOf m ∧ H sv = some (.tup [.str "told", v10]))
section
variable {P : Program} {w : World} {K : PySem.W.Frag} {mg : Str → Option Value} {base : Heap}
theorem law_13 {f fl fs CF : Addr} {fdl fds : FuncData} {cdv : Value} {A : Around} {outer : List Env} {s : Shared} {H : Hp} {Q : VK} {E : XK}
    (hr : Room 43 (A.deeper (PyProof.Rows.envOfC "law" (defScope sLaw) s.heap.objs.size f cdv)))
    (GL : FnOk P w K mg base CX0 43 fl fdl ["_law_script", "_law_told_here", "_law_words", "_law_parts_here"] (spLacks K CF)) (bL : Binds K fdl ["_law_script", "_law_told_here", "_law_words", "_law_parts_here"] []) (kL : PySem.W.keepIn K (.ref fl) = true) (mL : mg "_law_lacks" = some (.ref fl))
    (GS : FnOk P w K mg base CX0 42 fs fds ["_law_kind", "_law_own", "_law_parts_here", "_law_most"] (spSaid K CF)) (bS : Binds K fds ["_law_kind", "_law_own", "_law_parts_here", "_law_most"] []) (kS : PySem.W.keepIn K (.ref fs) = true) (mS : mg "_law_said" = some (.ref fs))
    (cF : Cls K CF) (nK : NoAttr K CF "kinds") (md : mg "dict" = none) (q : ∀ H', Q (.bl true) H') :
    ∃ t', PSs (cxOf CX0 P w K mg base lawN "law" (defScope sLaw) f cdv A outer s H E).nox (List.drop 13 (defBody sLaw)) t' ∧
      ∀ (H5 : Hp) (a wl td ph sv : Addr) (ns : List Int) (m : Int) (w1 w2 w3 : Str) (kv0 : List (Key × V)) (v9 v10 : V) (kd due : Kd) (g0 g1 g2 : Str → Option Kd) (y1 y4 y5 y6 y7 y8 : Option V), ns.length ≤ 63 → 0 ≤ m → m ≤ 1000000 → Sx w1 w2 w3 kd due g0 g1 g2 → Fx K CF H5 a wl td ph ns w1 w2 w3 kv0 v9 v10 kd g0 g1 g2 → Sought H5 sv v10 due m →
        t' { nx := fun _ H' => Q .non H', rt := Q } [some (.ref a), y1, some (.ref wl), some (.ref td), y4, y5, y6, y7, y8, some v9, some v10, some (.ref ph), some (.int m), some (.ref sv), none] H5 := by
  have hu := hu_of hr
  have hu64 := hr.units
  have hr42 : Room 42 _ := hr.mono (by decide)
  obtain ⟨u15, d15, k15⟩ := law_15 (outer := outer) (H := H) (E := E) hr GL bL kL mL GS bS kS mS cF nK q
  refine ⟨_, pss_cons (ps_set (i := 14) scLaw.nd rfl (Or.inl rfl) (pe_callTy call_dict_dK (by rfl) md bootDict (pa_cons (pe_dget hu (pv 3) pe_str (fun _ _ => rfl)) pa_nil)))
    (pss_cons (ps_if (PW.pt (pw_or (pt_cmpR (op_neD hu64) (pe_call GS hr42 (by rfl) mS kS bS .nil pass0 (pa_cons (pv 9) (pa_cons (pv 14) (pa_cons (pv 11) (pa_cons (pv 12) pa_nil))))) (pv 13) (nomark _))
      (pw_or1 (pt_cmpR (op_neSame hu) (pv 14) (pe_dget hu (pv 3) pe_str (fun _ _ => rfl)) (nomark _))))) (pss_one (ps_ret pe_bl)) pss_nil) @d15), ?_⟩
  intro H5 a wl td ph sv ns m w1 w2 w3 kv0 v9 v10 kd due g0 g1 g2 y1 y4 y5 y6 y7 y8 h63 m0 m1 S hx hsv
  have hx0 := hx
  obtain ⟨d0, d1, d2, x1, dx1, e1, x2, dx2, e2, tkv, kv1, kv2, pkv, fs1, fs2, hS, hwl, hk, hd10, htd, t0, t1, t2, t3, h0, k0, l0, r0, h1, k1, r1, h2, k2, r2, hp, hP, lp, p1, q1, f1, c1, p2, q2, f2, c2⟩ := hx
  refine ⟨_, rfl, td, .ref d0, rfl, t0 ▸ DGet.k (k := .inr "") htd, d0, kv0, rfl, h0, fun hd hhd => ?_⟩
  have e5 := same_new hhd (.dK kv0)
  refine ⟨_, rfl, _, rfl, _, rfl, _, rfl, ?_⟩
  refine ⟨v9, kd, hd, ph, m, kv0, pkv, g0, twoP w1 w2 g1 g2, rfl, hk.same e5, S.words, S.deep, S.names, m0, m1, upd_same, k0.same e5, e5 _ _ hp, hP.same e5, fun ⟨n, hn, en⟩ => absurd en (S.told n hn), fun _ => ?_⟩
  rw [S.is] at hd10 ⊢
  refine ⟨S.dw, fun hb H7 t7 s7 ht7 => ?_, fun hb H7 t7 v7 s7 hv7 ht7 => ?_⟩
  · rcases hsv with ⟨_, hsv⟩ | ⟨nb, _⟩
    · refine ⟨_, rfl, flagD "big", flagD "big", flag_dat ht7, flag_dat (s7 _ _ (e5 _ _ hsv)), big_shaped, big_shaped, _, rfl, ite2 (fun z => ?_) (fun _ => ?_)⟩
      · have z' : (!PyData.eqv (flagD "big") (flagD "big")) = true := z
        rw [big_eqv] at z'
        cases z'
      · refine ⟨_, rfl, _, rfl, td, .ref d0, rfl, t0 ▸ DGet.k (k := .inr "") (s7 _ _ (e5 _ _ htd)), hd, d0, kv0, rfl, rfl, s7 _ _ upd_same, s7 _ _ (e5 _ _ h0), r0, _, rfl, iteF ?_⟩
        exact k15 H7 a wl td ph hd ns w1 w2 w3 kv0 v9 v10 kd due g0 g1 g2 y1 y4 y5 y6 y7 y8 (some (.int m)) (some (.ref sv)) h63 S (hx0.same (e5.trans s7)) (s7 _ _ upd_same)
    · exact absurd hb nb
  · rcases hsv with ⟨hb', _⟩ | ⟨_, hsv⟩
    · exact absurd hb' hb
    · refine ⟨_, rfl, toldD due, toldD due, told_dat ht7 hv7, told_dat (s7 _ _ (e5 _ _ hsv)) (hd10.same (e5.trans s7)), told_shaped S.dok S.dd, told_shaped S.dok S.dd, _, rfl, ite2 (fun z => ?_) (fun _ => ?_)⟩
      · have z' : (!PyData.eqv (toldD due) (toldD due)) = true := z
        rw [told_eqv] at z'
        cases z'
      · refine ⟨_, rfl, _, rfl, td, .ref d0, rfl, t0 ▸ DGet.k (k := .inr "") (s7 _ _ (e5 _ _ htd)), hd, d0, kv0, rfl, rfl, s7 _ _ upd_same, s7 _ _ (e5 _ _ h0), r0, _, rfl, iteF ?_⟩
        exact k15 H7 a wl td ph hd ns w1 w2 w3 kv0 v9 v10 kd due g0 g1 g2 y1 y4 y5 y6 y7 y8 (some (.int m)) (some (.ref sv)) h63 S (hx0.same (e5.trans s7)) (s7 _ _ upd_same)
end
end K22
namespace K22
open PySem L2 Kk
theorem bound_is (m : Int) : 40 * (if decide (V.int m = V.int 0) = true then (1 : Int) else 0) + m = boundOf m := by
  unfold boundOf
  by_cases h : m = 0
  · subst h
    rfl
  · rw [if_neg h, if_neg (fun e => h (V.int.inj (of_decide_eq_true e)))]
    omega
section
variable {P : Program} {w : World} {K : PySem.W.Frag} {mg : Str → Option Value} {base : Heap}
theorem bootMax : bootBuiltins "max" = some (.builtin "max") := by decide +kernel
set_option maxHeartbeats 0 in
theorem law_9 {f fc fl fs fz CF : Addr} {fdc fdl fds fdz : FuncData} {cdv : Value} {A : Around} {outer : List Env} {s : Shared} {H : Hp} {Q : VK} {E : XK}
    (hr : Room 43 (A.deeper (PyProof.Rows.envOfC "law" (defScope sLaw) s.heap.objs.size f cdv)))
    (GC : FnOk P w K mg base CX0 1 fc fdc ["_law_script", "_law_k"] (spCell K)) (bC : Binds K fdc ["_law_script", "_law_k"] []) (kC : PySem.W.keepIn K (.ref fc) = true) (mC : mg "_law_cell" = some (.ref fc))
    (GZ : FnOk P w K mg base CX0 1 fz fdz ["_law_kind"] (spSize K)) (bZ : Binds K fdz ["_law_kind"] []) (kZ : PySem.W.keepIn K (.ref fz) = true) (mZ : mg "_law_size" = some (.ref fz))
    (GL : FnOk P w K mg base CX0 43 fl fdl ["_law_script", "_law_told_here", "_law_words", "_law_parts_here"] (spLacks K CF)) (bL : Binds K fdl ["_law_script", "_law_told_here", "_law_words", "_law_parts_here"] []) (kL : PySem.W.keepIn K (.ref fl) = true) (mL : mg "_law_lacks" = some (.ref fl))
    (GS : FnOk P w K mg base CX0 42 fs fds ["_law_kind", "_law_own", "_law_parts_here", "_law_most"] (spSaid K CF)) (bS : Binds K fds ["_law_kind", "_law_own", "_law_parts_here", "_law_most"] []) (kS : PySem.W.keepIn K (.ref fs) = true) (mS : mg "_law_said" = some (.ref fs))
    (cF : Cls K CF) (nK : NoAttr K CF "kinds") (md : mg "dict" = none) (mm : mg "max" = none) (mi : mg "int" = none) (q : ∀ H', Q (.bl true) H') :
    ∃ t', PSs (cxOf CX0 P w K mg base lawN "law" (defScope sLaw) f cdv A outer s H E).nox (List.drop 9 (defBody sLaw)) t' ∧
      ∀ (H5 : Hp) (a wl td ph : Addr) (ns : List Int) (w1 w2 w3 : Str) (kv0 : List (Key × V)) (v9 v10 : V) (kd due : Kd) (g0 g1 g2 : Str → Option Kd) (y1 y4 y5 y6 y7 y8 : Option V), ns.length ≤ 63 → Sx w1 w2 w3 kd due g0 g1 g2 → Fx K CF H5 a wl td ph ns w1 w2 w3 kv0 v9 v10 kd g0 g1 g2 →
        t' { nx := fun _ H' => Q .non H', rt := Q } [some (.ref a), y1, some (.ref wl), some (.ref td), y4, y5, y6, y7, y8, some v9, some v10, some (.ref ph), none, none, none] H5 := by
  have hu := hu_of hr
  have hr1 : Room 1 _ := hr.mono (by decide)
  obtain ⟨u13, d13, k13⟩ := law_13 (outer := outer) (H := H) (E := E) hr GL bL kL mL GS bS kS mS cF nK md q
  obtain ⟨u11, d11, k11⟩ : ∃ t', PSs (cxOf CX0 P w K mg base lawN "law" (defScope sLaw) f cdv A outer s H E).nox (List.drop 11 (defBody sLaw)) t' ∧
      ∀ (H5 : Hp) (a wl td ph : Addr) (ns : List Int) (m : Int) (w1 w2 w3 : Str) (kv0 : List (Key × V)) (v9 v10 : V) (kd due : Kd) (g0 g1 g2 : Str → Option Kd) (y1 y4 y5 y6 y7 y8 : Option V), ns.length ≤ 63 → 0 ≤ m → m ≤ 1000000 → Sx w1 w2 w3 kd due g0 g1 g2 → Fx K CF H5 a wl td ph ns w1 w2 w3 kv0 v9 v10 kd g0 g1 g2 →
        t' { nx := fun _ H' => Q .non H', rt := Q } [some (.ref a), y1, some (.ref wl), some (.ref td), y4, y5, y6, y7, y8, some v9, some v10, some (.ref ph), some (.int m), none, none] H5 := by
    refine ⟨_, pss_cons (ps_set (i := 13) scLaw.nd rfl (Or.inl rfl) (pe_tup (pa_cons pe_str (pa_cons (pv 10) pa_nil))))
      (pss_cons (ps_if (pt_cmpR op_gt (pe_call GZ hr1 (by rfl) mZ kZ bZ .nil pass0 (pa_cons (pv 10) pa_nil)) (pe_op op_add (pe_op op_mul pe_int (pe_callTy call_int1 (by rfl) mi bootInt (pa_cons (pe_cmpR op_eq (pv 12) pe_int (nomark _)) pa_nil))) (pv 12)) (nomark _))
        (@pss_one _ _ _ (@ps_set _ _ 13 _ _ _ _ scLaw.nd rfl (Or.inl rfl) (@pe_tup _ _ _ _ _ (@pa_cons _ _ _ _ _ (@pe_str _ _ _ _) (@pa_cons _ _ _ _ _ (@pe_bl _ _ _ _) (@pa_nil _) se1) se1)) rfl (Or.inl rfl))) pss_nil) @d13), ?_⟩
    intro H5 a wl td ph ns m w1 w2 w3 kv0 v9 v10 kd due g0 g1 g2 y1 y4 y5 y6 y7 y8 h63 m0 m1 S hx
    refine ⟨_, rfl, (by show 2 ≤ sizeLine; decide), fun sv hsv => ?_⟩
    have e1 := same_new hsv (.tup [.str "told", v10])
    have hx1 := hx.same e1
    obtain ⟨_, _, _, _, _, _, _, _, _, _, _, _, _, _, _, _, _, _, hd10, _⟩ := hx1
    rw [S.is] at hd10
    refine ⟨_, rfl, v10, due, rfl, hd10, S.dw, fun H6 s6 => ?_⟩
    refine ⟨_, rfl, rfl, .inr ⟨_, rfl, _, _, rfl, rfl, .inl ⟨by decide, by decide⟩, _, rfl, _, _, rfl, rfl, _, _, rfl, rfl, _, rfl, ?_⟩⟩
    refine ite2 (fun c => ?_) (fun c => ?_)
    · have c' := of_decide_eq_true c
      rw [bound_is m] at c'
      refine ⟨(by show 2 ≤ sizeLine; decide), fun sv2 hsv2 => ?_⟩
      have e2 := same_new hsv2 (.tup [.str "big", .bl true])
      exact k13 _ a wl td ph sv2 ns m w1 w2 w3 kv0 v9 v10 kd due g0 g1 g2 y1 y4 y5 y6 y7 y8 h63 m0 m1 S (hx.same (e1.trans (s6.trans e2))) (.inl ⟨c', upd_same⟩)
    · have c' : ¬ (due.words : Int) > boundOf m := fun z => c (decide_eq_true (by rw [bound_is m]; exact z))
      exact k13 _ a wl td ph sv ns m w1 w2 w3 kv0 v9 v10 kd due g0 g1 g2 y1 y4 y5 y6 y7 y8 h63 m0 m1 S (hx.same (e1.trans s6)) (.inr ⟨c', s6 _ _ upd_same⟩)
  refine ⟨_, (@pss_cons _ _ _ _ _ (@ps_set _ _ 12 _ _ _ _ scLaw.nd rfl (Or.inl rfl) (@pe_int _ _ _ _) rfl (Or.inl rfl))
    (pss_cons (ps_if (pt_cmpR op_gt (pe_op op_mod (pe_call GC hr1 (by rfl) mC kC bC .nil pass0 (pa_cons (pv 0) (pa_cons pe_int pa_nil))) pe_int) pe_int (nomark _))
      (pss_one (ps_set (i := 12) scLaw.nd rfl (Or.inl rfl) (pe_callB (call_max2 rfl) (by rfl) mm bootMax (pa_cons pe_int (pa_cons (pe_op op_add (pe_op op_sub (pe_call GZ hr1 (by rfl) mZ kZ bZ .nil pass0 (pa_cons (pv 10) pa_nil)) pe_int) (pe_op op_mod (pe_op op_fdiv (pe_call GC hr1 (by rfl) mC kC bC .nil pass0 (pa_cons (pv 0) (pa_cons pe_int pa_nil))) pe_int) pe_int)) pa_nil))))) pss_nil) @d11) : PSs (cxOf CX0 P w K mg base lawN "law" (defScope sLaw) f cdv A outer s H E).nox _ _), ?_⟩
  intro H5 a wl td ph ns w1 w2 w3 kv0 v9 v10 kd due g0 g1 g2 y1 y4 y5 y6 y7 y8 h63 S hx
  have hx0 := hx
  obtain ⟨_, _, _, _, _, _, _, _, _, _, _, _, _, _, _, hS, _, _, hd10, _⟩ := hx
  rw [S.is] at hd10
  refine ⟨_, rfl, a, ns, 2, rfl, hS, h63, by decide, by decide, fun c => ?_⟩
  refine ⟨_, _, rfl, rfl, (by show (0 : Int) < 3; decide), _, _, rfl, rfl, _, rfl, ?_⟩
  refine ite2 (fun _ => ?_) (fun _ => ?_)
  · refine ⟨_, rfl, v10, due, rfl, hd10, S.dw, fun H6 s6 => ?_⟩
    refine ⟨_, _, rfl, rfl, _, rfl, a, ns, 2, rfl, sql_same s6 hS, h63, by decide, by decide, fun c2 => ?_⟩
    refine ⟨_, _, rfl, rfl, ⟨by decide, by decide⟩, _, _, rfl, rfl, (by show (0 : Int) < 5; decide), _, _, rfl, rfl, _, _, rfl, ?_⟩
    have b0 := Int.emod_nonneg (c2 / 3) (show (5 : Int) ≠ 0 by decide)
    have b1 := Int.emod_lt_of_pos (c2 / 3) (show (0 : Int) < 5 by decide)
    have dw := S.dw
    refine k11 H6 a wl td ph ns _ w1 w2 w3 kv0 v9 v10 kd due g0 g1 g2 y1 y4 y5 y6 y7 y8 h63 ?_ ?_ S (hx0.same s6)
    · split <;> omega
    · split <;> omega
  · exact k11 H5 a wl td ph ns 0 w1 w2 w3 kv0 v9 v10 kd due g0 g1 g2 y1 y4 y5 y6 y7 y8 h63 (by decide) (by decide) S hx0
end
end K22
namespace K22
open PySem L2 Kk
theorem leaf_ok : ∀ {k : Kd}, Kd.ok k → ∀ l ∈ k.leaves, Kd.ok l
  | .num n, h, l, hl => by rw [List.mem_singleton.mp hl]; exact h
  | .name q t, h, l, hl => by rw [List.mem_singleton.mp hl]; exact h
  | .pair a b, h, l, hl => by
    rcases List.mem_append.mp hl with z | z
    · exact leaf_ok h.1 l z
    · exact leaf_ok h.2 l z
theorem name_leaf : ∀ {k : Kd} {n : Str × Str}, n ∈ Kd.names k → Kd.name n.1 n.2 ∈ k.leaves
  | .num _, n, h => nomatch h
  | .name q t, n, h => by
    rw [List.mem_singleton.mp h]
    exact List.mem_singleton.mpr rfl
  | .pair a b, n, h => by
    rcases List.mem_append.mp h with z | z
    · exact List.mem_append_left _ (name_leaf z)
    · exact List.mem_append_right _ (name_leaf z)
theorem flat_most {m : Nat} : ∀ {ks : List Kd}, (∀ k ∈ ks, k.leaves.length ≤ m) → (flat ks).length ≤ m * ks.length
  | [], _ => Nat.zero_le _
  | k :: ks, h => by
    have h1 := h k List.mem_cons_self
    have h2 := flat_most (ks := ks) fun k hk => h k (List.mem_cons_of_mem _ hk)
    show (k.leaves ++ flat ks).length ≤ m * (ks.length + 1)
    rw [List.length_append, Nat.mul_add]
    omega
/-- how a leaf and what is put for it go together -/
def Goes (G : Str × Str → Option Kd) (k r : Kd) : Prop := Kd.put G k = r ∧ ∀ n ∈ Kd.names k, G n ≠ none
theorem put_grow {G G' : Str × Str → Option Kd} (g : ∀ n, G n ≠ none → G' n = G n) : ∀ {k : Kd}, (∀ n ∈ Kd.names k, G n ≠ none) → Kd.put G' k = Kd.put G k
  | .num _, _ => rfl
  | .name q t, h => by
    show (G' (q, t)).getD _ = (G (q, t)).getD _
    rw [g _ (h (q, t) (List.mem_singleton.mpr rfl))]
  | .pair a b, h => by
    show Kd.pair _ _ = Kd.pair _ _
    rw [put_grow g fun n hn => h n (List.mem_append_left _ hn), put_grow g fun n hn => h n (List.mem_append_right _ hn)]
theorem Goes.grow {G G' : Str × Str → Option Kd} (g : ∀ n, G n ≠ none → G' n = G n) {k r : Kd} (h : Goes G k r) : Goes G' k r := ⟨(put_grow g h.2).trans h.1, fun n hn => by rw [g n (h.2 n hn)]; exact h.2 n hn⟩
theorem goes_map {G : Str × Str → Option Kd} : ∀ {ks rs : List Kd}, Paired (Goes G) ks rs → ks.map (Kd.put G) = rs
  | _, _, .nil => rfl
  | _, _, .cons h t => by rw [List.map_cons, h.1, goes_map t]
theorem goes_told {G : Str × Str → Option Kd} : ∀ {ks rs : List Kd}, Paired (Goes G) ks rs → ∀ k ∈ ks, ∀ n ∈ Kd.names k, G n ≠ none
  | _, _, .nil, k, hk => nomatch hk
  | _, _, .cons h t, k, hk => by
    rcases List.mem_cons.mp hk with e | e
    · rw [e]; exact h.2
    · exact goes_told t k e
theorem PartsAt.nil {K : PySem.W.Frag} {H : Hp} {CF : Addr} : PartsAt K H CF [] (fun _ => none) := fun _ => .inl ⟨rfl, rfl⟩
theorem two_is {w1 w2 : Str} {g1 g2 : Str → Option Kd} (h : w1 ≠ w2) : putG (putG (fun _ => none) w1 g1) w2 g2 = twoP w1 w2 g1 g2 := by
  funext q
  show (if q = w2 then some g2 else if q = w1 then some g1 else none) = if q = w1 then some g1 else if q = w2 then some g2 else none
  by_cases e1 : q = w1
  · rw [if_pos e1, if_neg (fun e => h (e1.symm.trans e)), if_pos e1]
  · rw [if_neg e1, if_neg e1]
/-- the kind that the law draws, and what is due -/
theorem sx_of {w1 w2 w3 : Str} {kd due : Kd} {g0 g1 g2 : Str → Option Kd} {ks rs : List Kd} {t : Int} (o1 : okW w1) (o2 : okW w2) (o3 : okW w3) (nd : (["", w1, w2, w3] : List Str).Nodup)
    (hg : Paired (Goes (tell g0 (twoP w1 w2 g1 g2))) ks rs) (hl : ∀ k ∈ ks, LfOk k) (hrs : ∀ r ∈ rs, Kd.ok r ∧ r.leaves.length ≤ 4) (l1 : 1 ≤ ks.length) (l2 : ks.length ≤ 12) (hk : kd = treeF ks.length ks t) (hd : due = treeF rs.length rs t) (fk : kd.leaves = flat ks) (fd : due.leaves = flat rs) : Sx w1 w2 w3 kd due g0 g1 g2 := by
  have hm := goes_map hg
  have hlen : rs.length = ks.length := by rw [← hm, List.length_map]
  have fl := flat_len fun k hk => (hl k hk).1
  have kok : Kd.ok kd := ok_leaves (by rw [fk]; exact flat_ok hl)
  have wk := words_leaves kd
  have wd := words_leaves due
  have dk := depth_leaves kd
  have dd := depth_leaves due
  have fm : (flat rs).length ≤ 4 * rs.length := flat_most fun r hr => (hrs r hr).2
  rw [fk] at wk dk
  rw [fd] at wd dd
  refine ⟨o1, o2, o3, nd, ?_, by omega, by omega, names_ok kok, ?_, by omega, by omega, ok_leaves ?_⟩
  · rw [hk, hd, tree_map (f := Kd.put (tell g0 (twoP w1 w2 g1 g2))) (fun _ _ => rfl) ks.length ks t (fun e => by rw [e] at l1; cases l1), hm, hlen]
  · intro n hn
    have h1 := name_leaf hn
    rw [fk] at h1
    obtain ⟨k, hk, hkl⟩ := mem_flat h1
    have h2 : k.leaf = true := (hl k hk).1
    refine goes_told hg k hk n ?_
    cases k with
    | num m => exact absurd (List.mem_singleton.mp hkl) (by intro e; cases e)
    | name a b =>
      cases List.mem_singleton.mp hkl
      exact List.mem_singleton.mpr rfl
    | pair a b => cases h2
  · intro l hl'
    rw [fd] at hl'
    obtain ⟨r, hr, hrl⟩ := mem_flat hl'
    exact leaf_ok (hrs r hr).1 l hrl
end K22
namespace K22
open PySem L2 Kk
section
variable {P : Program} {w : World} {K : PySem.W.Frag} {mg : Str → Option Value} {base : Heap}
/-- what the law's loop has made -/
def Mx (K : PySem.W.Frag) (H : Hp) (a wl td : Addr) (ns : List Int) (w1 w2 w3 : Str) (kv0 kv1 kv2 : List (Key × V)) (g0 g1 g2 : Str → Option Kd) : Prop :=
  ∃ (d0 d1 d2 : Addr) (tkv : List (Key × V)), SqL K H a (ns.map V.int) ∧ H wl = some (.lst [.str "", .str w1, .str w2, .str w3]) ∧
    H td = some (.dK tkv) ∧ valV tkv (.inr "") = some (.ref d0) ∧ valV tkv (.inr w1) = some (.ref d1) ∧ valV tkv (.inr w2) = some (.ref d2) ∧ valV tkv (.inr w3) = none ∧
    H d0 = some (.dK kv0) ∧ KvAt K H kv0 g0 ∧ kv0.length ≤ 100 ∧ Refs kv0 ∧ H d1 = some (.dK kv1) ∧ KvAt K H kv1 g1 ∧ Refs kv1 ∧ H d2 = some (.dK kv2) ∧ KvAt K H kv2 g2 ∧ Refs kv2
theorem Mx.same {H H' : Hp} {a wl td : Addr} {ns : List Int} {w1 w2 w3 : Str} {kv0 kv1 kv2 : List (Key × V)} {g0 g1 g2 : Str → Option Kd} (e : Same H H') (h : Mx K H a wl td ns w1 w2 w3 kv0 kv1 kv2 g0 g1 g2) : Mx K H' a wl td ns w1 w2 w3 kv0 kv1 kv2 g0 g1 g2 := by
  obtain ⟨d0, d1, d2, tkv, hS, hwl, htd, t0, t1, t2, t3, h0, k0, l0, r0, h1, k1, r1, h2, k2, r2⟩ := h
  exact ⟨d0, d1, d2, tkv, sql_same e hS, e _ _ hwl, e _ _ htd, t0, t1, t2, t3, e _ _ h0, k0.same e, l0, r0, e _ _ h1, k1.same e, r1, e _ _ h2, k2.same e, r2⟩
set_option maxHeartbeats 0 in
theorem law_6 {f fc fl fs fz ft fi CF : Addr} {fdc fdl fds fdz fdt fdi : FuncData} {cdv : Value} {A : Around} {outer : List Env} {s : Shared} {H : Hp} {Q : VK} {E : XK}
    (hr : Room 43 (A.deeper (PyProof.Rows.envOfC "law" (defScope sLaw) s.heap.objs.size f cdv)))
    (GC : FnOk P w K mg base CX0 1 fc fdc ["_law_script", "_law_k"] (spCell K)) (bC : Binds K fdc ["_law_script", "_law_k"] []) (kC : PySem.W.keepIn K (.ref fc) = true) (mC : mg "_law_cell" = some (.ref fc))
    (GT : FnOk P w K mg base CX0 1 ft fdt ["_law_leaves", "_law_turn"] (spTreeF K)) (bT : Binds K fdt ["_law_leaves", "_law_turn"] []) (kT : PySem.W.keepIn K (.ref ft) = true) (mT : mg "_law_tree" = some (.ref ft))
    (GZ : FnOk P w K mg base CX0 1 fz fdz ["_law_kind"] (spSize K)) (bZ : Binds K fdz ["_law_kind"] []) (kZ : PySem.W.keepIn K (.ref fz) = true) (mZ : mg "_law_size" = some (.ref fz))
    (GL : FnOk P w K mg base CX0 43 fl fdl ["_law_script", "_law_told_here", "_law_words", "_law_parts_here"] (spLacks K CF)) (bL : Binds K fdl ["_law_script", "_law_told_here", "_law_words", "_law_parts_here"] []) (kL : PySem.W.keepIn K (.ref fl) = true) (mL : mg "_law_lacks" = some (.ref fl))
    (GS : FnOk P w K mg base CX0 42 fs fds ["_law_kind", "_law_own", "_law_parts_here", "_law_most"] (spSaid K CF)) (bS : Binds K fds ["_law_kind", "_law_own", "_law_parts_here", "_law_most"] []) (kS : PySem.W.keepIn K (.ref fs) = true) (mS : mg "_law_said" = some (.ref fs))
    (GI : FnOk P w K mg base CX0 1 fi fdi ["self", "kinds", "funs"] (spInit CF)) (bI : Binds K fdi ["self", "kinds", "funs"] []) (MF : Mk K CF fi) (mF : mg "Face" = some (.ref CF))
    (cF : Cls K CF) (nK : NoAttr K CF "kinds") (md : mg "dict" = none) (mm : mg "max" = none) (mi : mg "int" = none) (q : ∀ H', Q (.bl true) H') :
    ∃ t', PSs (cxOf CX0 P w K mg base lawN "law" (defScope sLaw) f cdv A outer s H E).nox (List.drop 6 (defBody sLaw)) t' ∧
      ∀ (H5 : Hp) (a wl td lv rw : Addr) (t : Int) (ns : List Int) (w1 w2 w3 : Str) (kv0 kv1 kv2 : List (Key × V)) (g0 g1 g2 : Str → Option Kd) (xs ys : List V) (ks rs : List Kd) (y6 y7 y8 y9 : Option V), ns.length ≤ 63 → Mx K H5 a wl td ns w1 w2 w3 kv0 kv1 kv2 g0 g1 g2 →
        H5 lv = some (.lst xs) → KdsAt K H5 xs ks → H5 rw = some (.lst ys) → KdsAt K H5 ys rs → okW w1 → okW w2 → okW w3 → (["", w1, w2, w3] : List Str).Nodup → Paired (Goes (tell g0 (twoP w1 w2 g1 g2))) ks rs → (∀ k ∈ ks, LfOk k) → (∀ r ∈ rs, Kd.ok r ∧ r.leaves.length ≤ 4) → 1 ≤ ks.length → ks.length ≤ 12 →
        t' { nx := fun _ H' => Q .non H', rt := Q } [some (.ref a), some (.int t), some (.ref wl), some (.ref td), some (.ref lv), some (.ref rw), y6, y7, y8, y9, none, none, none, none, none] H5 := by
  have hu := hu_of hr
  have hr1 : Room 1 _ := hr.mono (by decide)
  have hr2 : Room (1 + 1) _ := hr.mono (by decide)
  obtain ⟨u9, d9, k9⟩ := law_9 (outer := outer) (H := H) (E := E) hr GC bC kC mC GZ bZ kZ mZ GL bL kL mL GS bS kS mS cF nK md mm mi q
  refine ⟨_, pss_cons (ps_set (i := 9) scLaw.nd rfl (Or.inl rfl) (pe_call GT hr1 (by rfl) mT kT bT .nil pass0 (pa_cons (pv 4) (pa_cons (pv 1) pa_nil))))
    (pss_cons (ps_set (i := 10) scLaw.nd rfl (Or.inl rfl) (pe_call GT hr1 (by rfl) mT kT bT .nil pass0 (pa_cons (pv 5) (pa_cons (pv 1) pa_nil))))
    (pss_cons (ps_set (i := 11) scLaw.nd rfl (Or.inl rfl) (pe_disp (pps_cons (pe_ix ix_list (pv 2) pe_int (fun _ _ => rfl)) (pe_make MF GI hr2 (by rfl) mF bI .nil pass0 (pa_cons (pe_dget hu (pv 3) (pe_ix ix_list (pv 2) pe_int (fun _ _ => rfl)) (fun _ _ => rfl)) (pa_cons (@pe_dnewK _ _) pa_nil)))
      (pps_cons (pe_ix ix_list (pv 2) pe_int (fun _ _ => rfl)) (pe_make MF GI hr2 (by rfl) mF bI .nil pass0 (pa_cons (pe_dget hu (pv 3) (pe_ix ix_list (pv 2) pe_int (fun _ _ => rfl)) (fun _ _ => rfl)) (pa_cons (@pe_dnewK _ _) pa_nil))) pps_nil)) rfl rfl (fun e => nomatch e) (by decide))) @d9)), ?_⟩
  intro H5 a wl td lv rw t ns w1 w2 w3 kv0 kv1 kv2 g0 g1 g2 xs ys ks rs y6 y7 y8 y9 h63 hM hlv hks hrw hrs o1 o2 o3 nd hg hl hr4 l1 l2
  have hlen : rs.length = ks.length := by rw [← goes_map hg, List.length_map]
  refine ⟨_, rfl, _, rfl, lv, t, xs, ks, rfl, hlv, hks, l1, by omega, fun H6 v9 kd s6 hk9 fk ek => ?_⟩
  refine ⟨_, rfl, _, rfl, rw, t, ys, rs, rfl, s6 _ _ hrw, hrs.same s6, by omega, by omega, fun H7 v10 due s7 hk10 fd ed => ?_⟩
  have S := sx_of (t := t) o1 o2 o3 nd hg hl hr4 l1 l2 ek ed fk fd
  have s57 := s6.trans s7
  have hM7 := hM.same s57
  obtain ⟨d0, d1, d2, tkv, hS, hwl, htd, t0, t1, t2, t3, h0, k0, l0, r0, h1, k1, r1, h2, k2, r2⟩ := hM7
  have n12 : w1 ≠ w2 := fun e => by
    simp only [List.nodup_cons, List.mem_cons, List.not_mem_nil, or_false, not_or] at nd
    exact nd.2.1.1 e
  intro ph hph
  have e8 := same_new hph (.dK [])
  refine ⟨_, rfl, wl, _, _, _, rfl, rfl, SqL.of (e8 _ _ hwl), (show atI [V.str "", .str w1, .str w2, .str w3] 1 = some (.str w1) from rfl), ?_⟩
  refine ⟨_, rfl, _, rfl, wl, _, _, _, rfl, rfl, SqL.of (e8 _ _ hwl), (show atI [V.str "", .str w1, .str w2, .str w3] 1 = some (.str w1) from rfl), td, .ref d1, rfl, t1 ▸ DGet.k (k := .inr w1) (e8 _ _ htd), fun fa hfa x1 dx1 nx1 ndx1 nex1 => ?_⟩
  have e10 := same_new hfa (.dK [])
  have e11a := same_new ndx1 (.own x1)
  have nx1' : upd (upd (upd H7 ph (.dK [])) fa (.dK [])) dx1 (.own x1) x1 = none := by rw [upd_ne (Ne.symm nex1)]; exact nx1
  have e11b := same_new nx1' (.ins CF dx1 [])
  have e11 := e10.trans (e11a.trans e11b)
  refine ⟨x1, dx1, d1, fa, kv1, [], rfl, upd_same, e11 _ _ (e8 _ _ h1), e11b _ _ (e11a _ _ upd_same), fun c1 fs1 H12 hc1 hx1 hf1 hc1' keep1 => ⟨rfl, ?_⟩⟩
  have s12 : Same (upd H7 ph (.dK [])) H12 := fun b o hb => keep1 b o (e11 _ _ hb) (fun e => by rw [e] at hb; rw [e10 _ _ hb] at nx1; cases nx1)
  have hp12 := s12 _ _ (upd_same (H := H7))
  have nc1 : c1 ≠ ph := fun e => by rw [e, e11 _ _ (upd_same (H := H7))] at hc1; cases hc1
  have nx1p : x1 ≠ ph := fun e => by rw [e, e10 _ _ (upd_same (H := H7))] at nx1; cases nx1
  have s712 := e8.trans s12
  refine ⟨_, rfl, wl, _, _, _, rfl, rfl, SqL.of (s712 _ _ hwl), (show atI [V.str "", .str w1, .str w2, .str w3] 2 = some (.str w2) from rfl), ?_⟩
  refine ⟨_, rfl, _, rfl, wl, _, _, _, rfl, rfl, SqL.of (s712 _ _ hwl), (show atI [V.str "", .str w1, .str w2, .str w3] 2 = some (.str w2) from rfl), td, .ref d2, rfl, t2 ▸ DGet.k (k := .inr w2) (s712 _ _ htd), fun fb hfb x2 dx2 nx2 ndx2 nex2 => ?_⟩
  have e20 := same_new hfb (.dK [])
  have e21a := same_new ndx2 (.own x2)
  have nx2' : upd (upd H12 fb (.dK [])) dx2 (.own x2) x2 = none := by rw [upd_ne (Ne.symm nex2)]; exact nx2
  have e21b := same_new nx2' (.ins CF dx2 [])
  have e21 := e20.trans (e21a.trans e21b)
  refine ⟨x2, dx2, d2, fb, kv2, [], rfl, upd_same, e21 _ _ (s712 _ _ h2), e21b _ _ (e21a _ _ upd_same), fun c2 fs2 H22 hc2 hx2 hf2 hc2' keep2 => ⟨rfl, ?_⟩⟩
  have s22 : Same H12 H22 := fun b o hb => keep2 b o (e21 _ _ hb) (fun e => by rw [e] at hb; rw [e20 _ _ hb] at nx2; cases nx2)
  have nc2 : c2 ≠ ph := fun e => by rw [e, e21 _ _ hp12] at hc2; cases hc2
  have nx2p : x2 ≠ ph := fun e => by rw [e, e20 _ _ hp12] at nx2; cases nx2
  refine ⟨s22 _ _ hp12, [(.inr w1, .ref x1), (.inr w2, .ref x2)], rfl, (by show 2 ≤ 15; decide), ?_⟩
  show u9 _ _ (upd H22 ph (.dK (putK (putK [] (.inr w1) (.ref x1)) (.inr w2) (.ref x2))))
  have sF : Same H7 (upd H22 ph (.dK (putK (putK [] (.inr w1) (.ref x1)) (.inr w2) (.ref x2)))) := sput (s712.trans s22) hph
  have hX1 : upd H22 ph (.dK (putK (putK [] (.inr w1) (.ref x1)) (.inr w2) (.ref x2))) x1 = some (.ins CF dx1 fs1) := by rw [upd_ne nx1p]; exact s22 _ _ hx1
  have hC1 : upd H22 ph (.dK (putK (putK [] (.inr w1) (.ref x1)) (.inr w2) (.ref x2))) c1 = some (.dK kv1) := by rw [upd_ne nc1]; exact s22 _ _ hc1'
  have hX2 : upd H22 ph (.dK (putK (putK [] (.inr w1) (.ref x1)) (.inr w2) (.ref x2))) x2 = some (.ins CF dx2 fs2) := by rw [upd_ne nx2p]; exact hx2
  have hC2 : upd H22 ph (.dK (putK (putK [] (.inr w1) (.ref x1)) (.inr w2) (.ref x2))) c2 = some (.dK kv2) := by rw [upd_ne nc2]; exact hc2'
  have hPh : upd H22 ph (.dK (putK (putK [] (.inr w1) (.ref x1)) (.inr w2) (.ref x2))) ph = some (.dK (putK (putK [] (.inr w1) (.ref x1)) (.inr w2) (.ref x2))) := upd_same
  generalize hHF : upd H22 ph (.dK (putK (putK [] (.inr w1) (.ref x1)) (.inr w2) (.ref x2))) = HF at sF hX1 hC1 hX2 hC2 hPh ⊢
  have hF1 : FaceAt K HF CF (.ref x1) g1 := ⟨x1, dx1, fs1, c1, kv1, rfl, hX1, hf1, hC1, k1.same sF⟩
  have hF2 : FaceAt K HF CF (.ref x2) g2 := ⟨x2, dx2, fs2, c2, kv2, rfl, hX2, hf2, hC2, k2.same sF⟩
  have hPA : PartsAt K HF CF (putK (putK [] (.inr w1) (.ref x1)) (.inr w2) (.ref x2)) (twoP w1 w2 g1 g2) := by
    have z := (PartsAt.nil.put hF1 (q := w1)).put hF2 (q := w2)
    rw [two_is n12] at z
    exact z
  have lp : (putK (putK ([] : List (Key × V)) (.inr w1) (.ref x1)) (.inr w2) (.ref x2)).length ≤ 100 := by
    have z1 := length_putK (putK ([] : List (Key × V)) (.inr w1) (.ref x1)) (.inr w2) (.ref x2)
    have z2 := length_putK ([] : List (Key × V)) (.inr w1) (.ref x1)
    have z3 : ([] : List (Key × V)).length = 0 := rfl
    omega
  refine k9 HF a wl td ph ns w1 w2 w3 kv0 v9 v10 kd due g0 g1 g2 (some (.int t)) (some (.ref lv)) (some (.ref rw)) y6 y7 y8 h63 S ?_
  refine ⟨d0, d1, d2, x1, dx1, c1, x2, dx2, c2, tkv, kv1, kv2, _, fs1, fs2, sql_same sF hS, sF _ _ hwl, hk9.same (s7.trans sF), ?_, sF _ _ htd, t0, t1, t2, t3, sF _ _ h0, k0.same sF, l0, r0, sF _ _ h1, k1.same sF, r1, sF _ _ h2, k2.same sF, r2, hPh, hPA, lp, ?_, hX1, hf1, hC1, ?_, hX2, hf2, hC2⟩
  · rw [S.is]
    exact hk10.same sF
  · rw [valV_put, if_neg (inr_ne n12), valV_put, if_pos rfl]
  · rw [valV_put, if_pos rfl]
end
end K22
namespace K22
open PySem L2 Kk
theorem pair_app {α β : Type} {F : α → β → Prop} {a : α} {b : β} (h : F a b) : ∀ {as : List α} {bs : List β}, Paired F as bs → Paired F (as ++ [a]) (bs ++ [b])
  | _, _, .nil => .cons h .nil
  | _, _, .cons x t => .cons x (pair_app h t)
theorem at_last (xs : List V) (v : V) : atI (xs ++ [v]) (-1) = some v := by
  have h : ixN (xs ++ [v]).length (-1) = some xs.length := by
    unfold ixN
    rw [List.length_append, List.length_singleton, if_neg (by decide)]
    rw [if_pos (by omega)]
    congr 1
    omega
  unfold atI
  rw [h]
  simp
def setN {α : Type} (f : Nat → α) (j : Nat) (x : α) : Nat → α := fun i => if i = j then x else f i
theorem setN_same {α : Type} (f : Nat → α) (j : Nat) (x : α) : setN f j x j = x := if_pos rfl
theorem setN_ne {α : Type} {f : Nat → α} {i j : Nat} {x : α} (h : i ≠ j) : setN f j x i = f i := if_neg h
def Gof (w1 w2 : Str) (g : Nat → Str → Option Kd) : Str × Str → Option Kd := tell (g 0) (twoP w1 w2 (g 1) (g 2))
def Wn (w1 w2 : Str) : Nat → Str
  | 0 => ""
  | 1 => w1
  | _ => w2
theorem tell_at {w1 w2 w3 : Str} (nd : (["", w1, w2, w3] : List Str).Nodup) (g : Nat → Str → Option Kd) (t : Str) : ∀ j, j < 3 → Gof w1 w2 g (Wn w1 w2 j, t) = g j t := by
  have nd4 : "" ≠ w1 ∧ "" ≠ w2 ∧ w1 ≠ w2 := by
    simp only [List.nodup_cons, List.mem_cons, List.not_mem_nil, or_false, not_or] at nd
    exact ⟨nd.1.1, nd.1.2.1, nd.2.1.1⟩
  obtain ⟨n1, n2, n3⟩ := nd4
  intro j hj
  rcases j with _ | _ | _ | j
  · show (if ("" : Str) = "" then g 0 t else (twoP w1 w2 (g 1) (g 2) "").bind fun g => g t) = _
    rw [if_pos rfl]
  · show (if w1 = "" then _ else ((if w1 = w1 then some (g 1) else _).bind fun g => g t)) = _
    rw [if_neg (Ne.symm n1), if_pos rfl]
    rfl
  · show (if w2 = "" then _ else ((if w2 = w1 then some (g 1) else if w2 = w2 then some (g 2) else none).bind fun g => g t)) = _
    rw [if_neg (Ne.symm n2), if_neg (Ne.symm n3), if_pos rfl]
    rfl
  · omega
theorem tell_grow {w1 w2 : Str} {g g' : Nat → Str → Option Kd} (h : ∀ i s, g i s ≠ none → g' i s = g i s) (n : Str × Str) (hn : Gof w1 w2 g n ≠ none) : Gof w1 w2 g' n = Gof w1 w2 g n := by
  obtain ⟨q, s⟩ := n
  unfold Gof tell twoP at hn ⊢
  by_cases e0 : q = ""
  · simp only [if_pos e0] at hn ⊢
    exact h 0 s hn
  · simp only [if_neg e0] at hn ⊢
    by_cases e1 : q = w1
    · simp only [if_pos e1] at hn ⊢
      exact h 1 s hn
    · simp only [if_neg e1] at hn ⊢
      by_cases e2 : q = w2
      · simp only [if_pos e2] at hn ⊢
        exact h 2 s hn
      · simp only [if_neg e2] at hn
        exact absurd rfl hn
theorem kd_ref {K : PySem.W.Frag} {H : Hp} {v : V} {k : Kd} (h : KdAt K H v k) : ∃ c, v = V.ref c := by
  cases h <;> exact ⟨_, rfl⟩
theorem refs_put : ∀ {kv : List (Key × V)} {k : Key} {c : Addr}, Refs kv → Refs (putK kv k (.ref c)) := by
  intro kv k c h p hp
  unfold putK at hp
  split at hp
  · obtain ⟨r, hr, e⟩ := List.mem_map.mp hp
    split at e
    · rw [← e]; exact ⟨c, rfl⟩
    · rw [← e]; exact h r hr
  · rcases List.mem_append.mp hp with z | z
    · exact h p z
    · rw [List.mem_singleton.mp z]; exact ⟨c, rfl⟩
/-- the law's loop -/
structure Lx (K : PySem.W.Frag) (H0 H2 : Hp) (wl td lv rw : Addr) (D : Nat → Addr) (tkv : List (Key × V)) (w1 w2 w3 : Str) (i n : Nat) (xs ys : List V) (ks rs : List Kd) (kv : Nat → List (Key × V)) (g : Nat → Str → Option Kd) : Prop where
  sm : Same H0 H2
  wls : H2 wl = some (.lst [.str "", .str w1, .str w2, .str w3])
  tds : H2 td = some (.dK tkv)
  lvs : H2 lv = some (.lst xs)
  rws : H2 rw = some (.lst ys)
  hk : KdsAt K H2 xs ks
  hr : KdsAt K H2 ys rs
  dict : ∀ j, j < 3 → H2 (D j) = some (.dK (kv j))
  kvs : ∀ j, j < 3 → KvAt K H2 (kv j) (g j)
  few : ∀ j, j < 3 → (kv j).length ≤ n
  refs : ∀ j, j < 3 → Refs (kv j)
  goes : Paired (Goes (Gof w1 w2 g)) ks rs
  lf : ∀ k ∈ ks, LfOk k
  ok : ∀ r ∈ rs, Kd.ok r ∧ r.leaves.length ≤ 4
  gok : ∀ j t r, j < 3 → g j t = some r → Kd.ok r ∧ r.leaves.length ≤ 4
  len : xs.length = i
  len2 : ys.length = i
structure Nx (H0 : Hp) (wl td lv rw : Addr) (D : Nat → Addr) : Prop where
  wl_lv : wl ≠ lv
  wl_rw : wl ≠ rw
  lv_rw : lv ≠ rw
  td_D : ∀ j, j < 3 → td ≠ D j
  inj : ∀ i j, i < 3 → j < 3 → D i = D j → i = j
  nlv : H0 lv = none
  nrw : H0 rw = none
  nD : ∀ j, j < 3 → H0 (D j) = none
section
variable {K : PySem.W.Frag} {H0 H2 H3 : Hp} {wl td lv rw : Addr} {D : Nat → Addr} {tkv : List (Key × V)} {w1 w2 w3 : Str} {i n : Nat} {xs ys : List V} {ks rs : List Kd} {kv : Nat → List (Key × V)} {g : Nat → Str → Option Kd}
theorem Lx.same (e : Same H2 H3) (L : Lx K H0 H2 wl td lv rw D tkv w1 w2 w3 i n xs ys ks rs kv g) : Lx K H0 H3 wl td lv rw D tkv w1 w2 w3 i n xs ys ks rs kv g :=
  ⟨L.sm.trans e, e _ _ L.wls, e _ _ L.tds, e _ _ L.lvs, e _ _ L.rws, L.hk.same e, L.hr.same e, fun j hj => e _ _ (L.dict j hj), fun j hj => (L.kvs j hj).same e, L.few, L.refs, L.goes, L.lf, L.ok, L.gok, L.len, L.len2⟩
theorem Lx.more {m : Nat} (h : n ≤ m) (L : Lx K H0 H2 wl td lv rw D tkv w1 w2 w3 i n xs ys ks rs kv g) : Lx K H0 H2 wl td lv rw D tkv w1 w2 w3 i m xs ys ks rs kv g :=
  ⟨L.sm, L.wls, L.tds, L.lvs, L.rws, L.hk, L.hr, L.dict, L.kvs, fun j hj => Nat.le_trans (L.few j hj) h, L.refs, L.goes, L.lf, L.ok, L.gok, L.len, L.len2⟩
theorem Lx.add {j : Nat} {t : Str} {v : V} {r : Kd} (N : Nx H0 wl td lv rw D) (L : Lx K H0 H2 wl td lv rw D tkv w1 w2 w3 i n xs ys ks rs kv g) (hj : j < 3) (hn : valV (kv j) (.inr t) = none) (hv : KdAt K H2 v r) (hok : Kd.ok r) (h4 : r.leaves.length ≤ 4) :
    Lx K H0 (upd H2 (D j) (.dK (putK (kv j) (.inr t) v))) wl td lv rw D tkv w1 w2 w3 i (n + 1) xs ys ks rs (setN kv j (putK (kv j) (.inr t) v)) (setN g j (putG (g j) t r)) := by
  have hD := L.dict j hj
  have kp : ∀ a xs, SqT K H2 a xs → SqT K (upd H2 (D j) (.dK (putK (kv j) (.inr t) v))) a xs := fun _ _ h => sqt_dk hD h
  have gn : g j t = none := by
    rcases L.kvs j hj t with ⟨_, h⟩ | ⟨v', _, h, _⟩
    · exact h
    · rw [hn] at h; cases h
  have grow : ∀ i s, g i s ≠ none → setN g j (putG (g j) t r) i s = g i s := fun i s h => by
    by_cases e : i = j
    · subst e
      rw [setN_same]
      show (if s = t then _ else _) = _
      rw [if_neg (fun e => h (by rw [e]; exact gn))]
    · rw [setN_ne e]
  obtain ⟨c, hc⟩ := kd_ref hv
  refine ⟨sput L.sm (N.nD j hj), ?_, ?_, ?_, ?_, kds_keep kp L.hk, kds_keep kp L.hr, fun l hl => ?_, fun l hl => ?_, fun l hl => ?_, fun l hl => ?_, Paired.mapP L.goes fun _ _ h => h.grow (tell_grow grow), L.lf, L.ok, fun l s r' hl h => ?_, L.len, L.len2⟩
  · rw [upd_ne (fun e => by have := L.wls; rw [e, hD] at this; cases this)]; exact L.wls
  · rw [upd_ne (N.td_D j hj)]; exact L.tds
  · rw [upd_ne (fun e => by have := L.lvs; rw [e, hD] at this; cases this)]; exact L.lvs
  · rw [upd_ne (fun e => by have := L.rws; rw [e, hD] at this; cases this)]; exact L.rws
  · by_cases e : l = j
    · subst e
      rw [setN_same]
      exact upd_same
    · rw [setN_ne e, upd_ne (fun q => e (N.inj l j hl hj q))]
      exact L.dict l hl
  · by_cases e : l = j
    · subst e
      rw [setN_same, setN_same]
      exact ((L.kvs l hl).put hv).keep kp
    · rw [setN_ne e, setN_ne e]
      exact (L.kvs l hl).keep kp
  · by_cases e : l = j
    · subst e
      rw [setN_same]
      have z := length_putK (kv l) (.inr t) v
      have z2 := L.few l hl
      omega
    · rw [setN_ne e]
      exact Nat.le_succ_of_le (L.few l hl)
  · by_cases e : l = j
    · subst e
      rw [setN_same, hc]
      exact refs_put (L.refs l hl)
    · rw [setN_ne e]
      exact L.refs l hl
  · by_cases e : l = j
    · subst e
      rw [setN_same] at h
      have h' : (if s = t then some r else g l s) = some r' := h
      by_cases es : s = t
      · rw [if_pos es] at h'
        cases h'
        exact ⟨hok, h4⟩
      · rw [if_neg es] at h'
        exact L.gok l s r' hl h'
    · rw [setN_ne e] at h
      exact L.gok l s r' hl h
theorem Lx.app {v u : V} {k r : Kd} (N : Nx H0 wl td lv rw D) (L : Lx K H0 H2 wl td lv rw D tkv w1 w2 w3 i n xs ys ks rs kv g) (hv : KdAt K H2 v k) (hu : KdAt K H2 u r) (hg : Goes (Gof w1 w2 g) k r) (hl : LfOk k) (hok : Kd.ok r) (h4 : r.leaves.length ≤ 4) :
    Lx K H0 (upd (upd H2 lv (.lst (xs ++ [v]))) rw (.lst (ys ++ [u]))) wl td lv rw D tkv w1 w2 w3 (i + 1) n (xs ++ [v]) (ys ++ [u]) (ks ++ [k]) (rs ++ [r]) kv g := by
  have hR1 : upd H2 lv (.lst (xs ++ [v])) rw = some (.lst ys) := by rw [upd_ne (Ne.symm N.lv_rw)]; exact L.rws
  have kp : ∀ a zs, SqT K H2 a zs → SqT K (upd (upd H2 lv (.lst (xs ++ [v]))) rw (.lst (ys ++ [u]))) a zs := fun _ _ h => sqt_upd hR1 (sqt_upd L.lvs h)
  have len := L.len
  have len2 := L.len2
  refine ⟨sput (sput L.sm N.nlv) N.nrw, ?_, ?_, ?_, upd_same, kds_keep kp (L.hk.append (one hv)), kds_keep kp (L.hr.append (one hu)), fun j hj => ?_, fun j hj => (L.kvs j hj).keep kp, L.few, L.refs, pair_app hg L.goes, fun k' hk' => ?_, fun r' hr' => ?_, L.gok, ?_, ?_⟩
  · rw [upd_ne N.wl_rw, upd_ne N.wl_lv]; exact L.wls
  · rw [upd_ne (fun e => by have := L.tds; rw [e, L.rws] at this; cases this), upd_ne (fun e => by have := L.tds; rw [e, L.lvs] at this; cases this)]; exact L.tds
  · rw [upd_ne N.lv_rw]; exact upd_same
  · have h := L.dict j hj
    rw [upd_ne (fun e => by rw [e, L.rws] at h; cases h), upd_ne (fun e => by rw [e, L.lvs] at h; cases h)]
    exact h
  · rcases List.mem_append.mp hk' with z | z
    · exact L.lf k' z
    · rw [List.mem_singleton.mp z]; exact hl
  · rcases List.mem_append.mp hr' with z | z
    · exact L.ok r' z
    · rw [List.mem_singleton.mp z]; exact ⟨hok, h4⟩
  · rw [List.length_append, List.length_singleton]; omega
  · rw [List.length_append, List.length_singleton]; omega
end
end K22
namespace K22
open PySem L2 Kk
section
variable {P : Program} {w : World} {K : PySem.W.Frag} {mg : Str → Option Value} {base : Heap}
def Dn (d0 d1 d2 : Addr) : Nat → Addr
  | 0 => d0
  | 1 => d1
  | _ => d2
set_option maxHeartbeats 0 in
theorem ok_law {f fc fw ft fo fp fl fs fz fi CF : Addr} {fd fdc fdw fdt fdo fdp fdl fds fdz fdi : FuncData} (F : Fun K "law" "law" sLaw f fd)
    (GC : FnOk P w K mg base CX0 1 fc fdc ["_law_script", "_law_k"] (spCell K)) (bC : Binds K fdc ["_law_script", "_law_k"] []) (kC : PySem.W.keepIn K (.ref fc) = true) (mC : mg "_law_cell" = some (.ref fc))
    (GW : FnOk P w K mg base CX0 1 fw fdw ["_law_cell_here"] spWordF) (bW : Binds K fdw ["_law_cell_here"] []) (kW : PySem.W.keepIn K (.ref fw) = true) (mW : mg "_law_word" = some (.ref fw))
    (GT : FnOk P w K mg base CX0 1 ft fdt ["_law_leaves", "_law_turn"] (spTreeF K)) (bT : Binds K fdt ["_law_leaves", "_law_turn"] []) (kT : PySem.W.keepIn K (.ref ft) = true) (mT : mg "_law_tree" = some (.ref ft))
    (GO : FnOk P w K mg base CX0 2 fo fdo ["_law_cell_here", "_law_words"] (spTold K)) (bO : Binds K fdo ["_law_cell_here", "_law_words"] []) (kO : PySem.W.keepIn K (.ref fo) = true) (mO : mg "_law_told" = some (.ref fo))
    (GP : FnOk P w K mg base CX0 2 fp fdp ["_law_script"] (spParts K)) (bP : Binds K fdp ["_law_script"] []) (kP : PySem.W.keepIn K (.ref fp) = true) (mP : mg "_law_parts" = some (.ref fp))
    (GZ : FnOk P w K mg base CX0 1 fz fdz ["_law_kind"] (spSize K)) (bZ : Binds K fdz ["_law_kind"] []) (kZ : PySem.W.keepIn K (.ref fz) = true) (mZ : mg "_law_size" = some (.ref fz))
    (GS : FnOk P w K mg base CX0 42 fs fds ["_law_kind", "_law_own", "_law_parts_here", "_law_most"] (spSaid K CF)) (bS : Binds K fds ["_law_kind", "_law_own", "_law_parts_here", "_law_most"] []) (kS : PySem.W.keepIn K (.ref fs) = true) (mS : mg "_law_said" = some (.ref fs))
    (GL : FnOk P w K mg base CX0 43 fl fdl ["_law_script", "_law_told_here", "_law_words", "_law_parts_here"] (spLacks K CF)) (bL : Binds K fdl ["_law_script", "_law_told_here", "_law_words", "_law_parts_here"] []) (kL : PySem.W.keepIn K (.ref fl) = true) (mL : mg "_law_lacks" = some (.ref fl))
    (GI : FnOk P w K mg base CX0 1 fi fdi ["self", "kinds", "funs"] (spInit CF)) (bI : Binds K fdi ["self", "kinds", "funs"] []) (MF : Mk K CF fi) (mF : mg "Face" = some (.ref CF))
    (cF : Cls K CF) (nK : NoAttr K CF "kinds") (md : mg "dict" = none) (mm : mg "max" = none) (mi : mg "int" = none) (mr : mg "range" = none) :
    FnOk P w K mg base CX0 44 f fd ["_law_script"] (spLaw K) := by
  refine F.ok scLaw (fun vs H Q E h => ?_) (fun cdv A outer s H vs Q E hr h => ?_)
  · obtain ⟨a, ns, rfl, _⟩ := h
    rfl
  obtain ⟨a, ns, rfl, hS, h63, q⟩ := h
  have hu := hu_of hr
  have hr1 : Room 1 _ := hr.mono (by decide)
  have hr2 : Room 2 _ := hr.mono (by decide)
  obtain ⟨u6, d6, k6⟩ := law_6 (outer := outer) (H := H) (E := E) hr GC bC kC mC GT bT kT mT GZ bZ kZ mZ GL bL kL mL GS bS kS mS GI bI MF mF cF nK md mm mi q
  obtain ⟨u3, d3, k3⟩ : ∃ t', PSs (cxOf CX0 P w K mg base lawN "law" (defScope sLaw) f cdv A outer s H E).nox (List.drop 3 (defBody sLaw)) t' ∧
      ∀ (H5 : Hp) (wl td d0 d1 d2 : Addr) (t : Int) (w1 w2 w3 : Str) (tkv : List (Key × V)), Same H H5 → H5 wl = some (.lst [.str "", .str w1, .str w2, .str w3]) → okW w1 → okW w2 → okW w3 → (["", w1, w2, w3] : List Str).Nodup →
        H5 td = some (.dK tkv) → valV tkv (.inr "") = some (.ref d0) → valV tkv (.inr w1) = some (.ref d1) → valV tkv (.inr w2) = some (.ref d2) → valV tkv (.inr w3) = none → H5 d0 = some (.dK []) → H5 d1 = some (.dK []) → H5 d2 = some (.dK []) →
        td ≠ d0 → td ≠ d1 → td ≠ d2 → d0 ≠ d1 → d0 ≠ d2 → d1 ≠ d2 → H d0 = none → H d1 = none → H d2 = none →
        t' { nx := fun _ H' => Q .non H', rt := Q } [some (.ref a), some (.int t), some (.ref wl), some (.ref td), none, none, none, none, none, none, none, none, none, none, none] H5 := by
    refine ⟨_, (pss_cons (ps_set (i := 4) scLaw.nd rfl (Or.inl rfl) (pe_lst pa_nil))
      (pss_cons (ps_set (i := 5) scLaw.nd rfl (Or.inl rfl) (pe_lst pa_nil))
      (pss_cons (ps_for PassesOwn.never rfl (pi_range1 (by rfl) mr (pa_cons (pe_op op_add pe_int (pe_op op_mod (pe_call GC hr1 (by rfl) mC kC bC .nil pass0 (pa_cons (pv 0) (pa_cons pe_int pa_nil))) pe_int)) pa_nil)) (pg_name (i := 6) scLaw.nd rfl (Or.inl rfl))
        (pss_cons (ps_set (i := 7) scLaw.nd rfl (Or.inl rfl) (pe_call GC hr1 (by rfl) mC kC bC .nil pass0 (pa_cons (pv 0) (pa_cons (pe_op op_add pe_int (pv 6)) pa_nil))))
        (pss_one (ps_if (pt_cmpR op_eq (pe_op op_mod (pv 7) pe_int) pe_int (nomark _))
          (pss_cons (ps_expr (pe_bm PySem.F.plainAttrs_list PySem.F.slot_list_append PySem.F.type_list_append mt_append (pv 4) (pa_cons (pe_tup (pa_cons pe_str (pa_cons (pe_op op_add pe_int (pe_op op_mod (pe_op op_fdiv (pv 7) pe_int) (pe_op op_pow pe_int pe_int))) pa_nil))) pa_nil)))
          (pss_one (ps_expr (pe_bm PySem.F.plainAttrs_list PySem.F.slot_list_append PySem.F.type_list_append mt_append (pv 5) (pa_cons (pe_ix ix_list (pv 4) (pe_un un_neg pe_int) (fun _ _ => rfl)) pa_nil)))))
          (pss_cons (ps_set (i := 8) scLaw.nd rfl (Or.inl rfl) (pe_call GW hr1 (by rfl) mW kW bW .nil pass0 (pa_cons (pe_op op_fdiv (pv 7) pe_int) pa_nil)))
          (pss_cons (ps_set (i := 9) scLaw.nd rfl (Or.inl rfl) (pe_dsetd (pe_dget hu (pv 3) (pe_ix ix_list (pv 2) (pe_op op_mod (pv 7) pe_int) (fun _ _ => rfl)) (fun _ _ => rfl)) (pv 8) (pe_call GO hr2 (by rfl) mO kO bO .nil pass0 (pa_cons (pe_call GC hr1 (by rfl) mC kC bC .nil pass0 (pa_cons (pv 0) (pa_cons (pe_op op_add pe_int (pv 6)) pa_nil))) (pa_cons (pv 2) pa_nil))) ⟨rfl, rfl, rfl, rfl⟩))
          (pss_cons (ps_expr (pe_bm PySem.F.plainAttrs_list PySem.F.slot_list_append PySem.F.type_list_append mt_append (pv 4) (pa_cons (pe_tup (pa_cons pe_str (pa_cons (pe_ix ix_list (pv 2) (pe_op op_mod (pv 7) pe_int) (fun _ _ => rfl)) (pa_cons (pv 8) pa_nil)))) pa_nil)))
          (pss_one (ps_expr (pe_bm PySem.F.plainAttrs_list PySem.F.slot_list_append PySem.F.type_list_append mt_append (pv 5) (pa_cons (pv 9) pa_nil))))))))))) @d6)) : PSs (cxOf CX0 P w K mg base lawN "law" (defScope sLaw) f cdv A outer s H E).nox _ _), ?_⟩
    intro H5 wl td d0 d1 d2 t w1 w2 w3 tkv s5 hwl o1 o2 o3 nd htd t0 t1 t2 t3 h0 h1 h2 nt0 nt1 nt2 n01 n02 n12 f0 f1 f2
    refine ⟨(by show 0 ≤ sizeLine; decide), fun lv hlv => ⟨(by show 0 ≤ sizeLine; decide), fun rw hrw => ?_⟩⟩
    have e6 := same_new hlv (.lst [])
    have e7 := same_new hrw (.lst [])
    have e67 := e6.trans e7
    have hlv' : upd (upd H5 lv (.lst [])) rw (.lst []) lv = some (.lst []) := e7 _ _ upd_same
    have N : Nx H wl td lv rw (Dn d0 d1 d2) := by
      refine ⟨ne_of_none hwl hlv, ne_of_none (e6 _ _ hwl) hrw, ne_of_none (upd_same (H := H5)) hrw, fun j hj => ?_, fun i j hi hj e => ?_, s5.free hlv, s5.free (e6.free hrw), fun j hj => ?_⟩
      · rcases j with _ | _ | _ | j
        · exact nt0
        · exact nt1
        · exact nt2
        · omega
      · rcases i with _ | _ | _ | i <;> rcases j with _ | _ | _ | j <;> first | rfl | omega | exact absurd e n01 | exact absurd e n02 | exact absurd e n12 | exact absurd e (Ne.symm n01) | exact absurd e (Ne.symm n02) | exact absurd e (Ne.symm n12)
      · rcases j with _ | _ | _ | j
        · exact f0
        · exact f1
        · exact f2
        · omega
    have L0 : Lx K H (upd (upd H5 lv (.lst [])) rw (.lst [])) wl td lv rw (Dn d0 d1 d2) tkv w1 w2 w3 0 0 [] [] [] [] (fun _ => []) (fun _ _ => none) := by
      refine ⟨s5.trans e67, e67 _ _ hwl, e67 _ _ htd, hlv', upd_same, .nil, .nil, fun j hj => ?_, fun _ _ => .nil, fun _ _ => Nat.le_refl _, (fun _ _ p hp => nomatch hp), .nil, (fun k hk => nomatch hk), (fun r hr => nomatch hr), (fun _ _ _ _ e => nomatch e), rfl, rfl⟩
      rcases j with _ | _ | _ | j
      · exact e67 _ _ h0
      · exact e67 _ _ h1
      · exact e67 _ _ h2
      · omega
    have hW : ∀ j, j < 3 → okW (Wn w1 w2 j) ∧ valV tkv (.inr (Wn w1 w2 j)) = some (.ref (Dn d0 d1 d2 j)) := fun j hj => by
      rcases j with _ | _ | _ | j
      · exact ⟨⟨(by decide +kernel : PyData.strOk ("" : Str) = true), (by decide +kernel : ("" : Str).length ≤ 9000)⟩, t0⟩
      · exact ⟨o1, t1⟩
      · exact ⟨o2, t2⟩
      · omega
    refine ⟨_, rfl, a, ns, 0, rfl, sql_same (s5.trans e67) hS, h63, by decide, by decide, fun c0 => ?_⟩
    have b0 : 0 ≤ c0 % 12 := Int.emod_nonneg _ (by decide)
    have b1 : c0 % 12 < 12 := Int.emod_lt_of_pos _ (by decide)
    refine ⟨_, _, rfl, rfl, (by show (0 : Int) < 12; decide), _, _, rfl, rfl, _, rfl, by omega, by omega, for_range (fun i σ H2 => ∃ (xs ys : List V) (ks rs : List Kd) (kv : Nat → List (Key × V)) (g : Nat → Str → Option Kd) (y6 y7 y8 y9 : Option V),
      σ = [some (.ref a), some (.int t), some (.ref wl), some (.ref td), some (.ref lv), some (.ref rw), y6, y7, y8, y9, none, none, none, none, none] ∧ Lx K H H2 wl td lv rw (Dn d0 d1 d2) tkv w1 w2 w3 i i xs ys ks rs kv g)
      ⟨[], [], [], [], _, _, none, none, none, none, rfl, L0⟩ ?_ ?_⟩
    · rintro i σ H2 hi ⟨xs, ys, ks, rs, kv, g, y6, y7, y8, y9, rfl, L⟩
      have hi12 : i < 12 := by omega
      have sz : xs.length < sizeLine := Nat.lt_of_lt_of_le (Nat.lt_succ_self _) (small (by have := L.len; omega))
      have sz2 : ys.length < sizeLine := Nat.lt_of_lt_of_le (Nat.lt_succ_self _) (small (by have := L.len2; omega))
      refine ⟨_, rfl, _, rfl, _, _, rfl, rfl, a, ns, _, rfl, sql_same L.sm hS, h63, by omega, by omega, fun c => ?_⟩
      have r0 := Int.emod_nonneg c (show (4 : Int) ≠ 0 by decide)
      have r1 := Int.emod_lt_of_pos c (show (0 : Int) < 4 by decide)
      refine ⟨_, rfl, _, _, rfl, rfl, (by show (0 : Int) < 4; decide), rfl, _, rfl, ?_⟩
      refine ite2 (fun _ => ?_) (fun c3 => ?_)
      · have e9 : (0 : Int) < ((10 : Int) ^ (18 : Int).toNat) := by decide
        refine ⟨_, rfl, .inl ⟨rfl, _, SqL.of L.lvs⟩, _, rfl, _, _, rfl, rfl, ⟨by decide, by decide⟩, _, _, rfl, rfl, ⟨by decide, by decide, by decide⟩, _, _, rfl, rfl, e9, _, _, rfl, rfl, (by show 2 ≤ sizeLine; decide), fun y hy => ?_⟩
        have ey := same_new hy (.tup [.str "num", .int (1 + c / 4 % 10 ^ (18 : Int).toNat)])
        have Ly := L.same ey
        have hR : upd (upd H2 y (.tup [.str "num", .int (1 + c / 4 % 10 ^ (18 : Int).toNat)])) lv (.lst (xs ++ [.ref y])) rw = some (.lst ys) := by rw [upd_ne (Ne.symm N.lv_rw)]; exact Ly.rws
        refine ⟨lv, _, _, rfl, rfl, Ly.lvs, sz, ?_⟩
        refine ⟨_, rfl, .inl ⟨rfl, _, SqL.of hR⟩, _, rfl, _, rfl, lv, _, _, _, rfl, rfl, SqL.of upd_same, at_last _ _, rw, _, _, rfl, rfl, hR, sz2, ?_⟩
        exact ⟨_, _, _, _, kv, g, _, _, _, _, rfl, (Lx.app N Ly (.num (SqT.of upd_same)) (.num (SqT.of upd_same)) ⟨rfl, (fun n hn => nomatch hn)⟩ ⟨rfl, trivial⟩ trivial (by show 1 ≤ 4; decide)).more (Nat.le_succ _)⟩
      · refine ⟨_, rfl, _, _, rfl, rfl, ⟨by decide, by decide⟩, c / 4, rfl, fun H3 s3 => ?_⟩
        have L3 := L.same s3
        have oT := okW_word (c / 4)
        generalize wordF (c / 4) = T at oT ⊢
        obtain ⟨j, hj, hz⟩ : ∃ j, j < 3 ∧ atI [V.str "", .str w1, .str w2, .str w3] (c % 4) = some (.str (Wn w1 w2 j)) := by
          have h3 : c % 4 = 0 ∨ c % 4 = 1 ∨ c % 4 = 2 ∨ c % 4 = 3 := by omega
          rcases h3 with e | e | e | e
          · rw [e]; exact ⟨0, by decide, rfl⟩
          · rw [e]; exact ⟨1, by decide, rfl⟩
          · rw [e]; exact ⟨2, by decide, rfl⟩
          · exact absurd (decide_eq_true (by show V.int (c % 4) = V.int 3; rw [e])) c3
        obtain ⟨oZ, htz⟩ := hW j hj
        refine ⟨_, rfl, _, rfl, _, rfl, _, _, rfl, rfl, (by show (0 : Int) < 4; decide), wl, _, _, _, rfl, rfl, SqL.of L3.wls, hz, td, .ref (Dn d0 d1 d2 j), rfl, htz ▸ DGet.k (k := .inr (Wn w1 w2 j)) L3.tds, Dn d0 d1 d2 j, rfl, .inl ⟨_, .inl (L3.dict j hj)⟩, _, rfl, ?_⟩
        refine ⟨_, rfl, _, rfl, _, _, rfl, rfl, a, ns, _, rfl, sql_same L3.sm hS, h63, by omega, by omega, fun c2 => ?_⟩
        refine ⟨_, rfl, c2, wl, w1, w2, w3, rfl, L3.wls, o1, o2, o3, fun H4 v r s4 hv hok h4 => ?_⟩
        have L4 := L3.same s4
        refine ⟨kv j, .inr T, L4.dict j hj, rfl, Nat.lt_of_lt_of_le (Nat.lt_succ_self _) (small (by have := L4.few j hj; omega)), ?_⟩
        rcases L4.kvs j hj T with ⟨hn, hg⟩ | ⟨v0, r9, hn, hg, hv0⟩
        · refine .inr ⟨hn, ?_⟩
          have L5 := Lx.add N L4 hj hn hv hok h4
          have hv5 : KdAt K (upd H4 (Dn d0 d1 d2 j) (.dK (putK (kv j) (.inr T) v))) v r := kd_keep (fun _ _ h => sqt_dk (L4.dict j hj) h) hv
          refine ⟨_, rfl, .inl ⟨rfl, _, SqL.of L5.lvs⟩, _, rfl, _, rfl, _, _, rfl, rfl, (by show (0 : Int) < 4; decide), wl, _, _, _, rfl, rfl, SqL.of L5.wls, hz, _, rfl, (by show 3 ≤ sizeLine; decide), fun y hy => ?_⟩
          have ey := same_new hy (.tup [.str "name", .str (Wn w1 w2 j), .str T])
          have Ly := L5.same ey
          have hR := Ly.rws
          refine ⟨lv, _, _, rfl, rfl, Ly.lvs, sz, ?_⟩
          refine ⟨_, rfl, .inl ⟨rfl, _, SqL.of ((upd_ne (Ne.symm N.lv_rw)).trans hR)⟩, _, rfl, rw, _, _, rfl, rfl, (upd_ne (Ne.symm N.lv_rw)).trans hR, sz2, ?_⟩
          have gt : Gof w1 w2 (setN g j (putG (g j) T r)) (Wn w1 w2 j, T) = some r := by
            rw [tell_at nd _ T j hj, setN_same]
            exact if_pos rfl
          refine ⟨_, _, _, _, _, _, _, _, _, _, rfl, Lx.app (k := .name (Wn w1 w2 j) T) (r := r) N Ly (.name (SqT.of upd_same)) (hv5.same ey) ⟨?_, ?_⟩ ⟨rfl, oZ, oT⟩ hok h4⟩
          · show (Gof w1 w2 _ (Wn w1 w2 j, T)).getD _ = r
            rw [gt]
            rfl
          · intro n hn'
            rw [List.mem_singleton.mp hn', gt]
            exact fun e => nomatch e
        · refine .inl ⟨v0, hn, ?_⟩
          obtain ⟨ok0, l0⟩ := L4.gok j T r9 hj hg
          refine ⟨_, rfl, .inl ⟨rfl, _, SqL.of L4.lvs⟩, _, rfl, _, rfl, _, _, rfl, rfl, (by show (0 : Int) < 4; decide), wl, _, _, _, rfl, rfl, SqL.of L4.wls, hz, _, rfl, (by show 3 ≤ sizeLine; decide), fun y hy => ?_⟩
          have ey := same_new hy (.tup [.str "name", .str (Wn w1 w2 j), .str T])
          have Ly := L4.same ey
          have hR := Ly.rws
          refine ⟨lv, _, _, rfl, rfl, Ly.lvs, sz, ?_⟩
          refine ⟨_, rfl, .inl ⟨rfl, _, SqL.of ((upd_ne (Ne.symm N.lv_rw)).trans hR)⟩, _, rfl, rw, _, _, rfl, rfl, (upd_ne (Ne.symm N.lv_rw)).trans hR, sz2, ?_⟩
          have gt : Gof w1 w2 g (Wn w1 w2 j, T) = some r9 := by
            rw [tell_at nd _ T j hj]
            exact hg
          refine ⟨_, _, _, _, _, _, _, _, _, _, rfl, (Lx.app (k := .name (Wn w1 w2 j) T) (r := r9) N Ly (.name (SqT.of upd_same)) (hv0.same ey) ⟨?_, ?_⟩ ⟨rfl, oZ, oT⟩ ok0 l0).more (Nat.le_succ _)⟩
          · show (Gof w1 w2 _ (Wn w1 w2 j, T)).getD _ = r9
            rw [gt]
            rfl
          · intro n hn'
            rw [List.mem_singleton.mp hn', gt]
            exact fun e => nomatch e
    · rintro σ H2 ⟨xs, ys, ks, rs, kv, g, y6, y7, y8, y9, rfl, L⟩
      have hkl := L.hk.length
      have hlen := L.len
      have few := L.few 0 (by decide)
      refine k6 H2 a wl td lv rw t ns w1 w2 w3 (kv 0) (kv 1) (kv 2) (g 0) (g 1) (g 2) xs ys ks rs y6 y7 y8 y9 h63 ?_ L.lvs L.hk L.rws L.hr o1 o2 o3 nd L.goes L.lf L.ok (by omega) (by omega)
      exact ⟨d0, d1, d2, tkv, sql_same L.sm hS, L.wls, L.tds, t0, t1, t2, t3, L.dict 0 (by decide), L.kvs 0 (by decide), by omega, L.refs 0 (by decide), L.dict 1 (by decide), L.kvs 1 (by decide), L.refs 1 (by decide), L.dict 2 (by decide), L.kvs 2 (by decide), L.refs 2 (by decide)⟩
  refine ⟨_, (pss_cons (ps_set (i := 1) scLaw.nd rfl (Or.inl rfl) (pe_call GC hr1 (by rfl) mC kC bC .nil pass0 (pa_cons (pv 0) (pa_cons pe_int pa_nil))))
    (pss_cons (ps_set (i := 2) scLaw.nd rfl (Or.inl rfl) (pe_call GP hr2 (by rfl) mP kP bP .nil pass0 (pa_cons (pv 0) pa_nil)))
    (@pss_cons _ _ _ _ _ (@ps_set _ _ 3 _ _ _ _ scLaw.nd rfl (Or.inl rfl) (@pe_disp _ _ _ _ _ (@pps_cons _ _ _ _ _ _ _ _ _ (@pe_str _ _ _ _) (@pe_dnewK _ _) (@pps_cons _ _ _ _ _ _ _ _ _ (pe_ix ix_list (pv 2) pe_int (fun _ _ => rfl)) (@pe_dnewK _ _) (@pps_cons _ _ _ _ _ _ _ _ _ (pe_ix ix_list (pv 2) pe_int (fun _ _ => rfl)) (@pe_dnewK _ _) (@pps_nil _ _)))) rfl rfl (fun e => nomatch e) (by decide)) rfl (Or.inl rfl)) @d3)) : PSs (cxOf CX0 P w K mg base lawN "law" (defScope sLaw) f cdv A outer s H E).nox _ _), ?_⟩
  refine ⟨_, rfl, a, ns, 1, rfl, hS, h63, by decide, by decide, fun t => ?_⟩
  refine ⟨_, rfl, a, ns, rfl, hS, h63, fun H1 wl w1 w2 w3 s1 nwl hwl o1 o2 o3 nd => ?_⟩
  intro td htd0
  have e2 := same_new htd0 (.dK [])
  intro d0 hd0
  have e3 := same_new hd0 (.dK [])
  have s13 := e2.trans e3
  refine ⟨_, rfl, wl, _, _, _, rfl, rfl, SqL.of (s13 _ _ hwl), (show atI [V.str "", .str w1, .str w2, .str w3] 1 = some (.str w1) from rfl), fun d1 hd1 => ?_⟩
  have e4 := same_new hd1 (.dK [])
  have s14 := s13.trans e4
  refine ⟨_, rfl, wl, _, _, _, rfl, rfl, SqL.of (s14 _ _ hwl), (show atI [V.str "", .str w1, .str w2, .str w3] 2 = some (.str w2) from rfl), fun d2 hd2 => ?_⟩
  have e5 := same_new hd2 (.dK [])
  have s15 := s14.trans e5
  have htd1 : upd H1 td (.dK []) td = some (.dK []) := upd_same
  have hd0' : upd (upd H1 td (.dK [])) d0 (.dK []) d0 = some (.dK []) := upd_same
  have hd1' : upd (upd (upd H1 td (.dK [])) d0 (.dK [])) d1 (.dK []) d1 = some (.dK []) := upd_same
  have nt0 : td ≠ d0 := fun e => by rw [← e, htd1] at hd0; cases hd0
  have nt1 : td ≠ d1 := fun e => by rw [← e, e3 _ _ htd1] at hd1; cases hd1
  have nt2 : td ≠ d2 := fun e => by rw [← e, e4 _ _ (e3 _ _ htd1)] at hd2; cases hd2
  have n01 : d0 ≠ d1 := fun e => by rw [← e, hd0'] at hd1; cases hd1
  have n02 : d0 ≠ d2 := fun e => by rw [← e, e4 _ _ hd0'] at hd2; cases hd2
  have n12 : d1 ≠ d2 := fun e => by rw [← e, hd1'] at hd2; cases hd2
  have f0 : H d0 = none := s1.free (e2.free hd0)
  have f1 : H d1 = none := s1.free (e2.free (e3.free hd1))
  have f2 : H d2 = none := s1.free (e2.free (e3.free (e4.free hd2)))
  refine ⟨e5 _ _ (e4 _ _ (e3 _ _ htd1)), [(.inr "", .ref d0), (.inr w1, .ref d1), (.inr w2, .ref d2)], rfl, (by show 3 ≤ 15; decide), ?_⟩
  show u3 _ _ (upd _ td (.dK (putK (putK (putK [] (.inr "") (.ref d0)) (.inr w1) (.ref d1)) (.inr w2) (.ref d2))))
  have nd6 : "" ≠ w1 ∧ "" ≠ w2 ∧ "" ≠ w3 ∧ w1 ≠ w2 ∧ w1 ≠ w3 ∧ w2 ≠ w3 := by
    have nd' := nd
    simp only [List.nodup_cons, List.mem_cons, List.not_mem_nil, or_false, not_or] at nd'
    obtain ⟨⟨n1, n2, n3⟩, ⟨n4, n5⟩, n6, _⟩ := nd'
    exact ⟨n1, n2, n3, n4, n5, n6⟩
  obtain ⟨m1, m2, m3, m4, m5, m6⟩ := nd6
  refine k3 _ wl td d0 d1 d2 t w1 w2 w3 _ (s1.trans (sput s15 htd0)) ?_ o1 o2 o3 nd upd_same ?_ ?_ ?_ ?_ ?_ ?_ ?_ nt0 nt1 nt2 n01 n02 n12 f0 f1 f2
  · exact sput s15 htd0 _ _ hwl
  · rw [valV_put, if_neg (inr_ne m2), valV_put, if_neg (inr_ne m1), valV_put, if_pos rfl]
  · rw [valV_put, if_neg (inr_ne m4), valV_put, if_pos rfl]
  · rw [valV_put, if_pos rfl]
  · rw [valV_put, if_neg (inr_ne (Ne.symm m6)), valV_put, if_neg (inr_ne (Ne.symm m5)), valV_put, if_neg (inr_ne (Ne.symm m3))]
    rfl
  · rw [upd_ne (Ne.symm nt0)]
    exact e5 _ _ (e4 _ _ hd0')
  · rw [upd_ne (Ne.symm nt1)]
    exact e5 _ _ hd1'
  · rw [upd_ne (Ne.symm nt2)]
    exact upd_same
end
end K22
namespace K22
open PySem L2 Kk
set_option maxHeartbeats 0 in
theorem all_mk {l : PySem.W.OpenLaw} {w : World} {K : PySem.W.Frag} {h : Heap} {mg : Str → Option Value} {fa f1 f2 f3 f4 f5 f6 f7 f8 f9 f10 f11 f12 f13 f14 : Addr} (X : K.In h) (G : h.Ns mainGlobals mg) (hfa : mg "law" = some (.ref fa))
    {od1 an1 od2 an2 od3 an3 od4 an4 od5 an5 od6 an6 od7 an7 od8 an8 od9 an9 od10 an10 od11 an11 od12 an12 od13 an13 od14 an14 : Option Addr} {sl1 sl2 sl3 sl4 sl5 sl6 sl7 sl8 sl9 sl10 sl11 sl12 sl13 sl14 : Array (Option Value)} {oc1 kV1 dc1 pm1 cd1 ct1 oc2 kV2 dc2 pm2 cd2 ct2 oc3 kV3 dc3 pm3 cd3 ct3 oc4 kV4 dc4 pm4 cd4 ct4 oc5 kV5 dc5 pm5 cd5 ct5 oc6 kV6 dc6 pm6 cd6 ct6 oc7 kV7 dc7 pm7 cd7 ct7 oc8 kV8 dc8 pm8 cd8 ct8 oc9 kV9 dc9 pm9 cd9 ct9 oc10 kV10 dc10 pm10 cd10 ct10 oc11 kV11 dc11 pm11 cd11 ct11 oc12 kV12 dc12 pm12 cd12 ct12 oc13 kV13 dc13 pm13 cd13 ct13 oc14 kV14 dc14 pm14 cd14 ct14 : Value}
    {CF CN CT CR T fn fi : Addr} {odn ann odi ani dT : Option Addr} {sln sli sT : Array (Option Value)} {ocn kVn dcn pmn cdn ctn oci kVi dci pmi cdi cti oT : Value} {nT : Nat} {tk : Tok}
    (a1 : PySem.W.nsIn K mainGlobals "words_in" = some (some (.ref f1))) (l1 : K.lookup f1 = some ⟨oc1, od1, .func (PySem.W.fnOf "words_in" "words_in" (defArgs sWords) (defBody sWords) (defScope sWords) .none kV1 dc1 pm1 an1 cd1 ct1), sl1⟩) (c1 : PySem.W.codeIn K cd1 "words_in" = true) (k1 : PySem.W.keepIn K (.ref f1) = true)
    (a2 : PySem.W.nsIn K mainGlobals "names_in" = some (some (.ref f2))) (l2 : K.lookup f2 = some ⟨oc2, od2, .func (PySem.W.fnOf "names_in" "names_in" (defArgs sNames) (defBody sNames) (defScope sNames) .none kV2 dc2 pm2 an2 cd2 ct2), sl2⟩) (c2 : PySem.W.codeIn K cd2 "names_in" = true) (k2 : PySem.W.keepIn K (.ref f2) = true)
    (a3 : PySem.W.nsIn K mainGlobals "put" = some (some (.ref f3))) (l3 : K.lookup f3 = some ⟨oc3, od3, .func (PySem.W.fnOf "put" "put" (defArgs sPut) (defBody sPut) (defScope sPut) .none kV3 dc3 pm3 an3 cd3 ct3), sl3⟩) (c3 : PySem.W.codeIn K cd3 "put" = true) (k3 : PySem.W.keepIn K (.ref f3) = true)
    (a4 : PySem.W.nsIn K mainGlobals "bounded" = some (some (.ref f4))) (l4 : K.lookup f4 = some ⟨oc4, od4, .func (PySem.W.fnOf "bounded" "bounded" (defArgs sBounded) (defBody sBounded) (defScope sBounded) .none kV4 dc4 pm4 an4 cd4 ct4), sl4⟩) (c4 : PySem.W.codeIn K cd4 "bounded" = true) (k4 : PySem.W.keepIn K (.ref f4) = true)
    (a5 : PySem.W.nsIn K mainGlobals "told_kind" = some (some (.ref f5))) (l5 : K.lookup f5 = some ⟨oc5, od5, .func (PySem.W.fnOf "told_kind" "told_kind" (defArgs sToldKind) (defBody sToldKind) (defScope sToldKind) .none kV5 dc5 pm5 an5 cd5 ct5), sl5⟩) (c5 : PySem.W.codeIn K cd5 "told_kind" = true) (k5 : PySem.W.keepIn K (.ref f5) = true)
    (a6 : PySem.W.nsIn K mainGlobals "_law_cell" = some (some (.ref f6))) (l6 : K.lookup f6 = some ⟨oc6, od6, .func (PySem.W.fnOf "_law_cell" "_law_cell" (defArgs sCell) (defBody sCell) (defScope sCell) .none kV6 dc6 pm6 an6 cd6 ct6), sl6⟩) (c6 : PySem.W.codeIn K cd6 "_law_cell" = true) (k6 : PySem.W.keepIn K (.ref f6) = true)
    (a7 : PySem.W.nsIn K mainGlobals "_law_word" = some (some (.ref f7))) (l7 : K.lookup f7 = some ⟨oc7, od7, .func (PySem.W.fnOf "_law_word" "_law_word" (defArgs sWord) (defBody sWord) (defScope sWord) .none kV7 dc7 pm7 an7 cd7 ct7), sl7⟩) (c7 : PySem.W.codeIn K cd7 "_law_word" = true) (k7 : PySem.W.keepIn K (.ref f7) = true)
    (a8 : PySem.W.nsIn K mainGlobals "_law_tree" = some (some (.ref f8))) (l8 : K.lookup f8 = some ⟨oc8, od8, .func (PySem.W.fnOf "_law_tree" "_law_tree" (defArgs sTree) (defBody sTree) (defScope sTree) .none kV8 dc8 pm8 an8 cd8 ct8), sl8⟩) (c8 : PySem.W.codeIn K cd8 "_law_tree" = true) (k8 : PySem.W.keepIn K (.ref f8) = true)
    (a9 : PySem.W.nsIn K mainGlobals "_law_told" = some (some (.ref f9))) (l9 : K.lookup f9 = some ⟨oc9, od9, .func (PySem.W.fnOf "_law_told" "_law_told" (defArgs sTold) (defBody sTold) (defScope sTold) .none kV9 dc9 pm9 an9 cd9 ct9), sl9⟩) (c9 : PySem.W.codeIn K cd9 "_law_told" = true) (k9 : PySem.W.keepIn K (.ref f9) = true)
    (a10 : PySem.W.nsIn K mainGlobals "_law_parts" = some (some (.ref f10))) (l10 : K.lookup f10 = some ⟨oc10, od10, .func (PySem.W.fnOf "_law_parts" "_law_parts" (defArgs sParts) (defBody sParts) (defScope sParts) .none kV10 dc10 pm10 an10 cd10 ct10), sl10⟩) (c10 : PySem.W.codeIn K cd10 "_law_parts" = true) (k10 : PySem.W.keepIn K (.ref f10) = true)
    (a11 : PySem.W.nsIn K mainGlobals "_law_size" = some (some (.ref f11))) (l11 : K.lookup f11 = some ⟨oc11, od11, .func (PySem.W.fnOf "_law_size" "_law_size" (defArgs sSize) (defBody sSize) (defScope sSize) .none kV11 dc11 pm11 an11 cd11 ct11), sl11⟩) (c11 : PySem.W.codeIn K cd11 "_law_size" = true) (k11 : PySem.W.keepIn K (.ref f11) = true)
    (a12 : PySem.W.nsIn K mainGlobals "_law_said" = some (some (.ref f12))) (l12 : K.lookup f12 = some ⟨oc12, od12, .func (PySem.W.fnOf "_law_said" "_law_said" (defArgs sSaid) (defBody sSaid) (defScope sSaid) .none kV12 dc12 pm12 an12 cd12 ct12), sl12⟩) (c12 : PySem.W.codeIn K cd12 "_law_said" = true) (k12 : PySem.W.keepIn K (.ref f12) = true)
    (a13 : PySem.W.nsIn K mainGlobals "_law_lacks" = some (some (.ref f13))) (l13 : K.lookup f13 = some ⟨oc13, od13, .func (PySem.W.fnOf "_law_lacks" "_law_lacks" (defArgs sLacks) (defBody sLacks) (defScope sLacks) .none kV13 dc13 pm13 an13 cd13 ct13), sl13⟩) (c13 : PySem.W.codeIn K cd13 "_law_lacks" = true) (k13 : PySem.W.keepIn K (.ref f13) = true)
    (a14 : PySem.W.nsIn K mainGlobals "law" = some (some (.ref f14))) (l14 : K.lookup f14 = some ⟨oc14, od14, .func (PySem.W.fnOf "law" "law" (defArgs sLaw) (defBody sLaw) (defScope sLaw) .none kV14 dc14 pm14 an14 cd14 ct14), sl14⟩) (c14 : PySem.W.codeIn K cd14 "law" = true) (k14 : PySem.W.keepIn K (.ref f14) = true)
    (aF : PySem.W.nsIn K mainGlobals "Face" = some (some (.ref CF)))
    (aN : PySem.W.nsIn K mainGlobals "NoKind" = some (some (.ref CN)))
    (aT : PySem.W.nsIn K mainGlobals "TooBig" = some (some (.ref CT)))
    (aR : PySem.W.nsIn K mainGlobals "Refused" = some (some (.ref CR)))
    (an : PySem.W.nsIn K mainGlobals "normal" = some (some (.ref fn)))
    (ln : K.lookup fn = some ⟨ocn, odn, .func (PySem.W.fnOf "normal" "normal" (defArgs sNormal) (defBody sNormal) (defScope sNormal) (.ref T) kVn dcn pmn ann cdn ctn), sln⟩)
    (cn : PySem.W.codeIn K cdn "normal" = true)
    (kn : PySem.W.keepIn K (.ref fn) = true)
    (lT : K.lookup T = some ⟨oT, dT, .seq #[.int 40 tk] nT, sT⟩)
    (iF : PySem.W.findIn K (.ref CF) "__init__" = some (some (.ref fi)))
    (li : K.lookup fi = some ⟨oci, odi, .func (PySem.W.fnOf "__init__" "Face.__init__" (defArgs sInit) (defBody sInit) (defScope sInit) .none kVi dci pmi ani cdi cti), sli⟩)
    (ci : PySem.W.codeIn K cdi "Face.__init__" = true)
    (ki : PySem.W.keepIn K (.ref fi) = true)
    (tF : PySem.W.isFn K (.ref fi) = true)
    (mk : PySem.W.makesIn K CF = true)
    (kF : PySem.W.keepIn K (.ref CF) = true)
    (pg : PySem.W.plainGet K CF Str.empty = true)
    (hd : PySem.W.hasDictIn K CF = true)
    (po : PySem.W.plainOver K CF = true)
    (sa : PySem.W.findIn K (.ref CF) "__setattr__" = some (some (.builtin "object.__setattr__")))
    (nK : PySem.W.findIn K (.ref CF) "kinds" = some none)
    (nF : PySem.W.findIn K (.ref CF) "funs" = some none)
    (xN : PySem.W.excIn K CN bmVE "ValueError.__new__" = true)
    (xT : PySem.W.excIn K CT bmVE "ValueError.__new__" = true)
    (sp : PySem.W.specialIn K (.builtin "object.__class__") "__get__" = some (some (.builtin "getset_descriptor.__get__")))
    (tk1 : PySem.W.takesIn K (.builtin "object.__class__") = some true)
    (x1 : PySem.W.exmOne K (.ref CN) (.ref CN) = some true)
    (x2 : PySem.W.exmOne K (.ref CT) (.ref CN) = some false)
    (x3 : PySem.W.exmOne K (.ref CT) (.ref CT) = some true)
    (j1 : PySem.W.kitOne K (.ref CN) (.ref CR) = some true)
    (j2 : PySem.W.kitOne K (.ref CN) (.ref CT) = some false)
    (j3 : PySem.W.kitOne K (.ref CT) (.ref CR) = some true)
    (j4 : PySem.W.kitOne K (.ref CT) (.type "ValueError") = some true)
    (isN : (match K.lookup CN with | some ⟨_, _, .cls _, _⟩ => true | _ => false) = true)
    (gaN : PySem.W.findIn K (.ref CN) "__getattribute__" = some (some (.builtin "BaseException.__getattribute__")))
    (ghN : PySem.W.findIn K (.ref CN) "__getattr__" = some none)
    (clN : PySem.W.findIn K (.ref CN) "__class__" = some (some (.builtin "object.__class__")))
    (obN : PySem.W.mroIn K CN (.type "object") = some true)
    (beN : PySem.W.mroIn K CN (.type "BaseException") = some true)
    (isT : (match K.lookup CT with | some ⟨_, _, .cls _, _⟩ => true | _ => false) = true)
    (gaT : PySem.W.findIn K (.ref CT) "__getattribute__" = some (some (.builtin "BaseException.__getattribute__")))
    (ghT : PySem.W.findIn K (.ref CT) "__getattr__" = some none)
    (clT : PySem.W.findIn K (.ref CT) "__class__" = some (some (.builtin "object.__class__")))
    (obT : PySem.W.mroIn K CT (.type "object") = some true)
    (beT : PySem.W.mroIn K CT (.type "BaseException") = some true)
    (z1 : PySem.W.nsIn K mainGlobals "len" = some none)
    (z2 : PySem.W.nsIn K mainGlobals "list" = some none)
    (z3 : PySem.W.nsIn K mainGlobals "range" = some none)
    (z4 : PySem.W.nsIn K mainGlobals "isinstance" = some none)
    (z5 : PySem.W.nsIn K mainGlobals "int" = some none)
    (z6 : PySem.W.nsIn K mainGlobals "dict" = some none)
    (z7 : PySem.W.nsIn K mainGlobals "max" = some none)
    (z8 : PySem.W.nsIn K mainGlobals "ValueError" = some none) :
    ∃ fd : FuncData, (∀ (s : Shared) (v : Value), BindsTo s fd ⟨[v], []⟩ [("_law_script", v)]) ∧ ∀ base : Heap, K.In base → base.Ns mainGlobals mg → FnOk l.prog w K mg base CX0 44 fa fd ["_law_script"] (spLaw K) := by
  have e := hfa.symm.trans (PySem.W.mg_of X G a14)
  cases e
  have F1 := fun_mk (st := sWords) l1 c1 k1
  have F2 := fun_mk (st := sNames) l2 c2 k2
  have F3 := fun_mk (st := sPut) l3 c3 k3
  have F4 := fun_mk (st := sBounded) l4 c4 k4
  have F5 := fun_mk (st := sToldKind) l5 c5 k5
  have F6 := fun_mk (st := sCell) l6 c6 k6
  have F7 := fun_mk (st := sWord) l7 c7 k7
  have F8 := fun_mk (st := sTree) l8 c8 k8
  have F9 := fun_mk (st := sTold) l9 c9 k9
  have F10 := fun_mk (st := sParts) l10 c10 k10
  have F11 := fun_mk (st := sSize) l11 c11 k11
  have F12 := fun_mk (st := sSaid) l12 c12 k12
  have F13 := fun_mk (st := sLacks) l13 c13 k13
  have F14 := fun_mk (st := sLaw) l14 c14 k14
  have b1 := F1.binds (ps := ["kind"]) fun _ _ _ _ _ _ us hl => match us, hl with | [_], _ => rfl
  have b2 := F2.binds (ps := ["kind"]) fun _ _ _ _ _ _ us hl => match us, hl with | [_], _ => rfl
  have b3 := F3.binds (ps := ["kind", "given"]) fun _ _ _ _ _ _ us hl => match us, hl with | [_, _], _ => rfl
  have b4 := F4.binds (ps := ["kind", "most"]) fun _ _ _ _ _ _ us hl => match us, hl with | [_, _], _ => rfl
  have b5 := F5.binds (ps := ["part", "word", "own", "parts"]) fun _ _ _ _ _ _ us hl => match us, hl with | [_, _, _, _], _ => rfl
  have b6 := F6.binds (ps := ["_law_script", "_law_k"]) fun _ _ _ _ _ _ us hl => match us, hl with | [_, _], _ => rfl
  have b7 := F7.binds (ps := ["_law_cell_here"]) fun _ _ _ _ _ _ us hl => match us, hl with | [_], _ => rfl
  have b8 := F8.binds (ps := ["_law_leaves", "_law_turn"]) fun _ _ _ _ _ _ us hl => match us, hl with | [_, _], _ => rfl
  have b9 := F9.binds (ps := ["_law_cell_here", "_law_words"]) fun _ _ _ _ _ _ us hl => match us, hl with | [_, _], _ => rfl
  have b10 := F10.binds (ps := ["_law_script"]) fun _ _ _ _ _ _ us hl => match us, hl with | [_], _ => rfl
  have b11 := F11.binds (ps := ["_law_kind"]) fun _ _ _ _ _ _ us hl => match us, hl with | [_], _ => rfl
  have b12 := F12.binds (ps := ["_law_kind", "_law_own", "_law_parts_here", "_law_most"]) fun _ _ _ _ _ _ us hl => match us, hl with | [_, _, _, _], _ => rfl
  have b13 := F13.binds (ps := ["_law_script", "_law_told_here", "_law_words", "_law_parts_here"]) fun _ _ _ _ _ _ us hl => match us, hl with | [_, _, _, _], _ => rfl
  refine ⟨PySem.W.fnOf "law" "law" (defArgs sLaw) (defBody sLaw) (defScope sLaw) .none kV14 dc14 pm14 an14 cd14 ct14, fun s v => .of_eq rfl, fun base _ _ => ?_⟩
  have FN : FunD K "normal" "normal" sNormal (.ref T) fn (PySem.W.fnOf "normal" "normal" (defArgs sNormal) (defBody sNormal) (defScope sNormal) (.ref T) kVn dcn pmn ann cdn ctn) := ⟨⟨ocn, odn, kVn, dcn, pmn, ann, cdn, ctn, sln, rfl, ln, cn⟩, kn⟩
  have Fi := fun_mk (st := sInit) li ci ki
  have bI := Fi.binds (ps := ["self", "kinds", "funs"]) fun _ _ _ _ _ _ us hl => match us, hl with | [_, _, _], _ => rfl
  have MF : Mk K CF fi := ⟨mk, iF, tF, kF⟩
  have cF : Cls K CF := ⟨pg, hd, po, sa⟩
  have cN : ExcCls K CN := ⟨isN, gaN, ghN, clN, sp, tk1, obN, beN⟩
  have cT : ExcCls K CT := ⟨isT, gaT, ghT, clT, sp, tk1, obT, beT⟩
  have GWi := ok_words (P := l.prog) (w := w) (base := base) (mg := mg) F1 (PySem.W.mg_none_of X G z1)
  have GN := ok_names (P := l.prog) (w := w) (base := base) (mg := mg) F2 (PySem.W.mg_none_of X G z1) (PySem.W.mg_none_of X G z2)
  have GP := ok_put (P := l.prog) (w := w) (base := base) (mg := mg) F3 b3 k3 (PySem.W.mg_of X G a3) 40
  have GB := ok_bounded (P := l.prog) (w := w) (base := base) (mg := mg) F4 GWi b1 k1 (PySem.W.mg_of X G a1) (PySem.W.mg_of X G aT) xT
  have GK := ok_toldKind (P := l.prog) (w := w) (base := base) (mg := mg) F5 cF nK (PySem.W.mg_of X G aN) xN
  have GM := ok_normal (P := l.prog) (w := w) (base := base) (mg := mg) FN GN b2 k2 (PySem.W.mg_of X G a2) GP b3 k3 (PySem.W.mg_of X G a3) GB b4 k4 (PySem.W.mg_of X G a4) GK b5 k5 (PySem.W.mg_of X G a5)
  have GC := ok_cell (P := l.prog) (w := w) (base := base) (mg := mg) F6 (PySem.W.mg_none_of X G z1)
  have GW := ok_wordF (P := l.prog) (w := w) (base := base) (mg := mg) F7
  have GT := ok_treeF (P := l.prog) (w := w) (base := base) (mg := mg) F8 (PySem.W.mg_none_of X G z1) (PySem.W.mg_none_of X G z2)
  have GO := ok_told (P := l.prog) (w := w) (base := base) (mg := mg) F9 GW b7 k7 (PySem.W.mg_of X G a7) GT b8 k8 (PySem.W.mg_of X G a8) (PySem.W.mg_none_of X G z3)
  have GR := ok_parts (P := l.prog) (w := w) (base := base) (mg := mg) F10 GC b6 k6 (PySem.W.mg_of X G a6) GW b7 k7 (PySem.W.mg_of X G a7) (PySem.W.mg_none_of X G z3)
  have GZ := ok_size (P := l.prog) (w := w) (base := base) (mg := mg) F11 (PySem.W.mg_none_of X G z1)
  have GS := ok_said (P := l.prog) (w := w) (base := base) (mg := mg) F12 FN lT GM kn (PySem.W.mg_of X G an) (PySem.W.mg_of X G aN) (PySem.W.mg_of X G aT) (PySem.W.mg_of X G aR) (PySem.W.mg_none_of X G z4) (PySem.W.mg_none_of X G z8) cN cT x1 x2 x3 j1 j2 j3 j4
  have GI := ok_init (P := l.prog) (w := w) (base := base) (mg := mg) Fi cF nK nF (PySem.W.mg_none_of X G z6)
  have GL := ok_lacks (P := l.prog) (w := w) (base := base) (mg := mg) F13 GC b6 k6 (PySem.W.mg_of X G a6) GW b7 k7 (PySem.W.mg_of X G a7) GS b12 k12 (PySem.W.mg_of X G a12) GI bI MF (PySem.W.mg_of X G aF) (PySem.W.mg_none_of X G z6)
  exact ok_law F14 GC b6 k6 (PySem.W.mg_of X G a6) GW b7 k7 (PySem.W.mg_of X G a7) GT b8 k8 (PySem.W.mg_of X G a8) GO b9 k9 (PySem.W.mg_of X G a9) GR b10 k10 (PySem.W.mg_of X G a10) GZ b11 k11 (PySem.W.mg_of X G a11) GS b12 k12 (PySem.W.mg_of X G a12) GL b13 k13 (PySem.W.mg_of X G a13) GI bI MF (PySem.W.mg_of X G aF) cF nK (PySem.W.mg_none_of X G z6) (PySem.W.mg_none_of X G z7) (PySem.W.mg_none_of X G z5) (PySem.W.mg_none_of X G z3)
theorem walk {l : PySem.W.OpenLaw} {q : Program} {loose : List Str} {XP : (Str → Option Value) → Heap → Prop} {YP : World → Heap → Prop} {d : DefRec} {K : Params → PySem.W.Frag} (hn : l.most = some 63) (hdf : d.params.defaults = [])
    (hY : ∀ (w : World) (h : Heap), YP w h → (K w.params).In h)
    (F : ∀ (w : World) (mg : Str → Option Value) (fa : Addr) (h : Heap), (K w.params).In h → h.Ns mainGlobals mg → mg d.name = some (.ref fa) →
      ∃ fd : FuncData, (∀ (s : Shared) (u : Value), BindsTo s fd ⟨[u], []⟩ [("_law_script", u)]) ∧ ∀ base : Heap, (K w.params).In base → base.Ns mainGlobals mg → FnOk l.prog w (K w.params) mg base CX0 44 fa fd ["_law_script"] (spLaw (K w.params))) :
    PySem.W.WalkO q loose XP YP l.row.toRowW d [] (fun f vs => PySem.call f vs) :=
  L2.walk_of (n := 63) (k := 44) (x := "_law_script") (CX := fun _ => CX0) (sp := fun w => spLaw (K w.params)) hn (by decide) hdf ⟨rfl, by decide, by decide⟩ hY F (fun _ _ a ns hl _ hS => ⟨a, ns, rfl, hS, hl, fun _ => rfl⟩) fun _ _ _ _ _ z => z
end K22
open PySem PySem.W PyProof.Rows
set_option maxRecDepth 100000 in
set_option maxHeartbeats 0 in
theorem PySem.Challenge.cw_sealhouse_k22_normal_kinds_holds : PySem.Challenge.rw_sealhouse_k22_normal_kinds.Holds := by
  w_on; o_law; k_head; (case hw => w_witness2)
  k_fill
  refine K22.walk (l := PySem.Challenge.rw_sealhouse_k22_normal_kinds) rfl rfl (fun w h Y => PySem.W.kIn_of Y) ?F
  case F =>
    intro w mg fa h KX G hmg
    refine' K22.all_mk KX G hmg ?a1 ?l1 ?c1 ?k1 ?a2 ?l2 ?c2 ?k2 ?a3 ?l3 ?c3 ?k3 ?a4 ?l4 ?c4 ?k4 ?a5 ?l5 ?c5 ?k5 ?a6 ?l6 ?c6 ?k6 ?a7 ?l7 ?c7 ?k7 ?a8 ?l8 ?c8 ?k8 ?a9 ?l9 ?c9 ?k9 ?a10 ?l10 ?c10 ?k10 ?a11 ?l11 ?c11 ?k11 ?a12 ?l12 ?c12 ?k12 ?a13 ?l13 ?c13 ?k13 ?a14 ?l14 ?c14 ?k14 ?aF ?aN ?aT ?aR ?an ?ln ?cn ?kn ?lT ?iF ?li ?ci ?ki ?tF ?mk ?kF ?pg ?hd ?po ?sa ?nK ?nF ?xN ?xT ?sp ?tk1 ?x1 ?x2 ?x3 ?j1 ?j2 ?j3 ?j4 ?isN ?gaN ?ghN ?clN ?obN ?beN ?isT ?gaT ?ghT ?clT ?obT ?beT ?z1 ?z2 ?z3 ?z4 ?z5 ?z6 ?z7 ?z8
    (case a1 => k_is)
    (case l1 => k_is)
    (case c1 => k_is)
    (case k1 => k_is)
    (case a2 => k_is)
    (case l2 => k_is)
    (case c2 => k_is)
    (case k2 => k_is)
    (case a3 => k_is)
    (case l3 => k_is)
    (case c3 => k_is)
    (case k3 => k_is)
    (case a4 => k_is)
    (case l4 => k_is)
    (case c4 => k_is)
    (case k4 => k_is)
    (case a5 => k_is)
    (case l5 => k_is)
    (case c5 => k_is)
    (case k5 => k_is)
    (case a6 => k_is)
    (case l6 => k_is)
    (case c6 => k_is)
    (case k6 => k_is)
    (case a7 => k_is)
    (case l7 => k_is)
    (case c7 => k_is)
    (case k7 => k_is)
    (case a8 => k_is)
    (case l8 => k_is)
    (case c8 => k_is)
    (case k8 => k_is)
    (case a9 => k_is)
    (case l9 => k_is)
    (case c9 => k_is)
    (case k9 => k_is)
    (case a10 => k_is)
    (case l10 => k_is)
    (case c10 => k_is)
    (case k10 => k_is)
    (case a11 => k_is)
    (case l11 => k_is)
    (case c11 => k_is)
    (case k11 => k_is)
    (case a12 => k_is)
    (case l12 => k_is)
    (case c12 => k_is)
    (case k12 => k_is)
    (case a13 => k_is)
    (case l13 => k_is)
    (case c13 => k_is)
    (case k13 => k_is)
    (case a14 => k_is)
    (case l14 => k_is)
    (case c14 => k_is)
    (case k14 => k_is)
    (case aF => k_is)
    (case aN => k_is)
    (case aT => k_is)
    (case aR => k_is)
    (case an => k_is)
    (case ln => k_is)
    (case cn => k_is)
    (case kn => k_is)
    (case lT => k_is)
    (case iF => k_is)
    (case li => k_is)
    (case ci => k_is)
    (case ki => k_is)
    (case tF => k_is)
    (case mk => k_is)
    (case kF => k_is)
    (case pg => k_is)
    (case hd => k_is)
    (case po => k_is)
    (case sa => k_is)
    (case nK => k_is)
    (case nF => k_is)
    (case xN => with_unfolding_all exact rfl)
    (case xT => with_unfolding_all exact rfl)
    (case sp => k_is)
    (case tk1 => k_is)
    (case x1 => exact rfl)
    (case x2 => exact rfl)
    (case x3 => exact rfl)
    (case j1 => exact rfl)
    (case j2 => exact rfl)
    (case j3 => exact rfl)
    (case j4 => exact rfl)
    (case isN => exact rfl)
    (case gaN => k_is)
    (case ghN => k_is)
    (case clN => k_is)
    (case obN => k_is)
    (case beN => k_is)
    (case isT => exact rfl)
    (case gaT => k_is)
    (case ghT => k_is)
    (case clT => k_is)
    (case obT => k_is)
    (case beT => k_is)
    (case z1 => k_is)
    (case z2 => k_is)
    (case z3 => k_is)
    (case z4 => k_is)
    (case z5 => k_is)
    (case z6 => k_is)
    (case z7 => k_is)
    (case z8 => k_is)
#print axioms PySem.Challenge.cw_sealhouse_k22_normal_kinds_holds
