import PyProof.Rows.All
import Wide.All
import OpenK.AllK
import Wide.FinOn
import Lean
import PyProof.EqAt
import PyProof.EqKinds
import PyProof.TupleCall
import PySem.Challenge.RW_sealhouse_k25_faces_refined
set_option Elab.async false
set_option linter.all false
set_option maxRecDepth 100000
/-! THE HAND LAYER, for ints, bools, texts, own classes, LISTS and tuples (index, slices, in, append, pop ..), calls, loops. Paste it whole ahead of your own text; what your proof does not reach may be deleted. -/
namespace L2
open PySem PySem.Spec PyProof.Rows

/-- a key: an int or a str -/
abbrev Key := Sum Int Str
def keyIs : Key → Value → Bool
  | .inl k, v => Value.isInt k v
  | .inr x, v => Value.isStrOf x v
def keyH (w : World) : Key → Int
  | .inl k => hashInt k
  | .inr x => hashStr w x
theorem keyIs_shape : ∀ {k : Key} {v : Value}, keyIs k v = true → (∃ i t, k = Sum.inl i ∧ v = Value.int i t) ∨ (∃ x t, k = Sum.inr x ∧ v = Value.str x t)
  | .inl i, v, h => by
    obtain ⟨t, e⟩ := Value.isInt_shape (k := i) (v := v) h
    exact .inl ⟨i, t, rfl, e⟩
  | .inr x, v, h => by
    obtain ⟨t, e⟩ := Value.isStrOf_shape (x := x) (v := v) h
    exact .inr ⟨x, t, rfl, e⟩
theorem keyIs_int (i : Int) (t : Tok) : keyIs (.inl i) (.int i t) = true := by simp [keyIs, Value.isInt]
theorem keyIs_str (x : Str) (t : Tok) : keyIs (.inr x) (.str x t) = true := by simp [keyIs, Value.isStrOf]
theorem key_ll (a b : Int) : decide ((Sum.inl a : Key) = Sum.inl b) = (a == b) := by
  by_cases e : a = b
  · subst e; simp
  · have h : ¬ (Sum.inl a : Key) = Sum.inl b := fun q => e (Sum.inl.inj q)
    rw [decide_eq_false h]
    exact (beq_eq_false_iff_ne.mpr e).symm
theorem key_rr (a b : Str) : decide ((Sum.inr a : Key) = Sum.inr b) = decide (a = b) := by
  by_cases e : a = b
  · subst e; simp
  · have h : ¬ (Sum.inr a : Key) = Sum.inr b := fun q => e (Sum.inr.inj q)
    rw [decide_eq_false h, decide_eq_false e]
theorem key_lr (a : Int) (b : Str) : decide ((Sum.inl a : Key) = Sum.inr b) = false := decide_eq_false (fun q => nomatch q)
theorem key_rl (a : Str) (b : Int) : decide ((Sum.inr a : Key) = Sum.inl b) = false := decide_eq_false (fun q => nomatch q)

def mixKind (prog : Program) (w : World) : PySem.KeyKind prog w Key where
  is := keyIs
  hash := keyH w
  inj := fun v a b ha hb => by
    rcases keyIs_shape ha with ⟨i, t, rfl, rfl⟩ | ⟨x, t, rfl, rfl⟩
    · rcases keyIs_shape hb with ⟨j, u, rfl, e⟩ | ⟨y, u, rfl, e⟩
      · injection e with e1 _; rw [e1]
      · exact nomatch e
    · rcases keyIs_shape hb with ⟨j, u, rfl, e⟩ | ⟨y, u, rfl, e⟩
      · exact nomatch e
      · injection e with e1 _; rw [e1]
  byValue := fun k v h => by
    rcases keyIs_shape h with ⟨i, t, rfl, rfl⟩ | ⟨x, t, rfl, rfl⟩ <;> rfl
  pyHash := fun hv h => by
    rcases keyIs_shape hv with ⟨i, t, rfl, rfl⟩ | ⟨x, t, rfl, rfl⟩
    · exact wpAny_pyHash_int h
    · exact wpAny_pyHash_str h
  eqBool := fun hu hv h => by
    rcases keyIs_shape hu with ⟨i, t, rfl, rfl⟩ | ⟨x, t, rfl, rfl⟩
    · rcases keyIs_shape hv with ⟨j, u, rfl, rfl⟩ | ⟨y, u, rfl, rfl⟩
      · rw [key_ll] at h; exact wpAny_eqBool_int h
      · rw [key_lr] at h; exact SeqAt.EqAt.int_str i t y u _ _ _ _ h
    · rcases keyIs_shape hv with ⟨j, u, rfl, rfl⟩ | ⟨y, u, rfl, rfl⟩
      · rw [key_rl] at h; exact SeqAt.EqAt.str_int x t j u _ _ _ _ h
      · rw [key_rr] at h; exact wpAny_eqBool_str h
  «strs» := fun k x t v h => by
    rcases keyIs_shape h with ⟨i, u, rfl, e⟩ | ⟨y, u, rfl, e⟩
    · exact nomatch e
    · injection e with e1 _
      subst e1
      cases v <;> rfl

theorem mixKind_is (prog : Program) (w : World) (k : Key) (v : Value) : (mixKind prog w).is k v = keyIs k v := rfl
theorem mixKind_int (prog : Program) (w : World) (i : Int) (t : Tok) : (mixKind prog w).is (.inl i) (.int i t) = true := keyIs_int i t
theorem mixKind_str (prog : Program) (w : World) (x : Str) (t : Tok) : (mixKind prog w).is (.inr x) (.str x t) = true := keyIs_str x t
end L2

namespace L2
open PySem PySem.Spec PyProof.Rows

/-- a value, without the heap -/
inductive V where
  | non | bl (b : Bool) | int (i : Int) | str (x : Str) | byt (b : Array UInt8) | flt (b : UInt64) | ref (a : Addr) | ty (n : String)
  deriving DecidableEq

def RelV : V → Value → Prop
  | .non, u => u = Value.none
  | .bl b, u => u = Value.bool b
  | .int i, u => ∃ t, u = Value.int i t
  | .str x, u => ∃ t, u = Value.str x t
  | .byt b, u => ∃ t, u = Value.bytes b t
  | .flt b, u => ∃ t, u = Value.float b t
  | .ref a, u => u = Value.ref a
  | .ty n, u => u = Value.type n

abbrev Vals : List V → List Value → Prop := Paired RelV
theorem Vals.length {xs : List V} {us : List Value} (r : Vals xs us) : xs.length = us.length := Paired.length r
theorem Vals.get : ∀ {xs : List V} {us : List Value} {i : Nat} {x : V}, Vals xs us → xs[i]? = some x → ∃ u, us[i]? = some u ∧ RelV x u
  | _, _, _, _, .nil, e => by simp at e
  | _, _, 0, _, .cons r _, e => by simp at e; subst e; exact ⟨_, rfl, r⟩
  | _, _, i + 1, x, .cons _ t, e => by
    obtain ⟨u, h1, h2⟩ := Vals.get (i := i) (x := x) t (by simpa using e)
    exact ⟨u, by simpa using h1, h2⟩
theorem Vals.append : ∀ {xs ys : List V} {us ws : List Value}, Vals xs us → Vals ys ws → Vals (xs ++ ys) (us ++ ws)
  | _, _, _, _, .nil, s => s
  | _, _, _, _, .cons r t, s => .cons r (Vals.append t s)
theorem Vals.take : ∀ {xs : List V} {us : List Value} (n : Nat), Vals xs us → Vals (xs.take n) (us.take n)
  | _, _, 0, _ => .nil
  | _, _, _ + 1, .nil => .nil
  | _, _, n + 1, .cons r t => .cons r (Vals.take n t)
theorem Vals.drop : ∀ {xs : List V} {us : List Value} (n : Nat), Vals xs us → Vals (xs.drop n) (us.drop n)
  | _, _, 0, r => r
  | _, _, _ + 1, .nil => .nil
  | _, _, n + 1, .cons _ t => Vals.drop n t

def RelO : Option V → Option Value → Prop
  | some v, some u => RelV v u
  | none, none => True
  | _, _ => False
def KV {κ : Type} : List (κ × V) → List (κ × Value) → Prop := Paired fun (p : κ × V) (q : κ × Value) => p.1 = q.1 ∧ RelV p.2 q.2

/-- a key of a dict (00_mix): an int or a text -/
def kV : Key → V
  | .inl i => .int i
  | .inr x => .str x

/-- what stands at a tracked address -/
inductive HO where
  /-- a list -/
  | lst (xs : List V)
  /-- a tuple (never changes) -/
  | tup (xs : List V)
  /-- a dict whose keys are ints and texts; one whose keys are tuples of ints and texts (the empty one is both) -/
  | dK (kvs : List (Key × V)) | dT (kvs : List (List Key × V))
  /-- a set of ints: its members, its size -/
  | set (S : Int → Bool) (n : Nat)
  /-- an instance of the class at C, its dict at dx, its attributes -/
  | ins (C dx : Addr) (fs : List (Str × V))
  /-- the dict of the instance at x -/
  | own (x : Addr)
  /-- the dict of an exception -/
  | xd (fs : List (Str × V))
  /-- a bound method, f of x -/
  | met (f x : Addr)
  /-- a range object lo, lo + 1, .. below hi -/
  | rng (lo hi : Int)
  /-- a thing that is known to the object (the script; a dict while a loop walks it): read, never written while it is so -/
  | frz (o : Obj) (u : HO)
  /-- a code object's table -/
  | tbl (ps : Array Value)
  /-- any other thing, by what is true of its one object (a def of one's own: SetO a S n := HO.ext fun h => ..) -/
  | ext (φ : Heap → Prop)

abbrev Hp := Addr → Option HO
def upd (H : Hp) (a : Addr) (o : HO) : Hp := fun b => if b = a then some o else H b
theorem upd_same {H : Hp} {a : Addr} {o : HO} : upd H a o a = some o := by unfold upd; rw [if_pos rfl]
theorem upd_ne {H : Hp} {a b : Addr} {o : HO} (h : b ≠ a) : upd H a o b = H b := by unfold upd; rw [if_neg h]
theorem upd_upd {H : Hp} {a : Addr} {o u : HO} : upd (upd H a o) a u = upd H a u := by
  funext b; unfold upd; split <;> rfl
/-- two objects of different content stand apart -/
theorem ne_of {H : Hp} {a b : Addr} {o u : HO} (h : H a = some o) (h' : H b = some u) (d : o ≠ u) : a ≠ b := by
  intro e; subst e; rw [h] at h'; exact d (Option.some.inj h')
theorem ne_of_none {H : Hp} {a b : Addr} {o : HO} (h : H a = some o) (h' : H b = none) : a ≠ b := by
  intro e; subst e; rw [h] at h'; cases h'

section
variable (P : Program) (w : World)
def ObjOk (H : Hp) (h : Heap) (a : Addr) : HO → Prop
  | .lst xs => xs.length ≤ sizeLine ∧ ∃ (its : List Value) (n : Nat), Vals xs its ∧ h.get? a = some { cls := .type "list", data := .seq its.toArray n }
  | .tup xs => xs.length ≤ sizeLine ∧ ∃ its : List Value, Vals xs its ∧ IsTup h a its.toArray
  | .dK kvs => kvs.length ≤ sizeLine ∧ (a == sysModules) = false ∧ ∃ vs, KV kvs vs ∧ h.DictOf (mixKind P w) a vs
  | .dT kvs => kvs.length ≤ sizeLine ∧ (a == sysModules) = false ∧ ∃ xs : List (List Key × Addr × Value),
      Paired (fun (p : List Key × V) (q : List Key × Addr × Value) => p.1 = q.1 ∧ H q.2.1 = some (.tup (p.1.map kV)) ∧ RelV p.2 q.2.2) kvs xs ∧
      ∃ o es ep, h.get? a = some o ∧ o.ExactDict ∧ o.data = .dict es ep ∧ es.toList = xs.map (entryOfKey (tupleKind (mixKind P w))) ∧ (xs.map (·.1)).Nodup
  | .set S n => h.SetOf (intKind P w) a S n
  | .ins C dx fs => H dx = some (.own a) ∧ fs.length ≤ 1000 ∧ dx ≠ a ∧ h.get? a = some (PySem.W.instObj C dx) ∧
      ∃ mA, h.Ns1 dx mA ∧ (∀ f, RelO (fs.lookup f) (mA f)) ∧ PySem.Within mA (fs.map (·.1))
  | .own _ => ∃ o, h.get? a = some o
  | .xd fs => ∃ mA, h.Ns1 a mA ∧ ∀ f, RelO (fs.lookup f) (mA f)
  | .rng lo hi => ∃ t u v, h.get? a = some { cls := .type "range", data := .fields #[.int lo t, .int hi u, .int 1 v] }
  | .frz o u => h.get? a = some o ∧ ObjOk H h a u
  | .tbl ps => h.get? a = some { cls := .none, data := .fields ps }
  | .met f x => h.get? a = some (PySem.W.methodObj (.ref f) (.ref x))
  | .ext φ => φ h ∧ (∃ o, h.get? a = some o) ∧ ∀ h1 h2 : Heap, φ h1 → (∀ o, h1.get? a = some o → h2.get? a = some o) → φ h2
/-- the abstract heap is held -/
def HOk (H : Hp) (h : Heap) : Prop := ∀ a o, H a = some o → ObjOk P w H h a o
end

section
variable {P : Program} {w : World} {H H' : Hp} {h h' : Heap} {a : Addr} {o : HO}
theorem ObjOk.lt (x : ObjOk P w H h a o) : a < h.objs.size := by
  cases o with
  | lst xs => obtain ⟨_, _, _, _, e⟩ := x; exact Heap.lt_size e
  | tup xs => obtain ⟨_, _, _, p⟩ := x; exact p.lt
  | dK kvs => obtain ⟨_, _, _, _, o, _, _, e, _⟩ := x; exact Heap.lt_size e
  | dT kvs => obtain ⟨_, _, _, _, o, _, _, e, _⟩ := x; exact Heap.lt_size e
  | set S n => obtain ⟨o, _, _, _, e, _⟩ := x; exact Heap.lt_size e
  | ins C dx fs => obtain ⟨_, _, _, e, _⟩ := x; exact Heap.lt_size e
  | own y => obtain ⟨_, e⟩ := x; exact Heap.lt_size e
  | xd fs => obtain ⟨_, ⟨_, _, _, e, _⟩, _⟩ := x; exact Heap.lt_size e
  | rng lo hi => obtain ⟨_, _, _, e⟩ := x; exact Heap.lt_size e
  | frz ob u => obtain ⟨e, _⟩ := x; exact Heap.lt_size e
  | tbl ps => exact Heap.lt_size (show h.get? a = some _ from x)
  | met f y => exact Heap.lt_size (show h.get? a = some _ from x)
  | ext φ => obtain ⟨_, ⟨_, e⟩, _⟩ := x; exact Heap.lt_size e
theorem Paired.mapP {α β : Type} {F G : α → β → Prop} : ∀ {l₁ : List α} {l₂ : List β}, Paired F l₁ l₂ → (∀ a b, F a b → G a b) → Paired G l₁ l₂
  | _, _, .nil, _ => .nil
  | _, _, .cons r t, f => .cons (f _ _ r) (Paired.mapP t f)
/-- what an object's description leans on: its own object, its own dict, the tuples -/
theorem ObjOk.stay (x : ObjOk P w H h a o) (k : ∀ b u, (b = a ∨ H b = some (.own a)) → h.get? b = some u → h'.get? b = some u)
    (ho : ∀ b, H b = some (.own a) → H' b = some (.own a)) (ht : ∀ b xs, H b = some (.tup xs) → H' b = some (.tup xs)) : ObjOk P w H' h' a o := by
  induction o with
  | lst xs => obtain ⟨z, its, n, r, e⟩ := x; exact ⟨z, its, n, r, k _ _ (.inl rfl) e⟩
  | tup xs => obtain ⟨z, its, r, ob, e, c⟩ := x; exact ⟨z, its, r, ob, k _ _ (.inl rfl) e, c⟩
  | dK kvs => obtain ⟨z, y, vs, r, ob, es, ep, e, c⟩ := x; exact ⟨z, y, vs, r, ob, es, ep, k _ _ (.inl rfl) e, c⟩
  | dT kvs =>
    obtain ⟨z, y, xs, r, ob, es, ep, e, c⟩ := x
    exact ⟨z, y, xs, Paired.mapP r fun p q z => ⟨z.1, ht _ _ z.2.1, z.2.2⟩, ob, es, ep, k _ _ (.inl rfl) e, c⟩
  | set S n => obtain ⟨ob, es, ep, t, e, c⟩ := x; exact ⟨ob, es, ep, t, k _ _ (.inl rfl) e, c⟩
  | ins C dx fs =>
    obtain ⟨d, z, ne, e, mA, ⟨od, es, ep, e2, c⟩, r⟩ := x
    exact ⟨ho _ d, z, ne, k _ _ (.inl rfl) e, mA, ⟨od, es, ep, k _ _ (.inr d) e2, c⟩, r⟩
  | own y => obtain ⟨ob, e⟩ := x; exact ⟨ob, k _ _ (.inl rfl) e⟩
  | xd fs => obtain ⟨mA, ⟨od, es, ep, e, c⟩, r⟩ := x; exact ⟨mA, ⟨od, es, ep, k _ _ (.inl rfl) e, c⟩, r⟩
  | rng lo hi => obtain ⟨t, u, v, e⟩ := x; exact ⟨t, u, v, k _ _ (.inl rfl) e⟩
  | frz ob u ih => obtain ⟨e, q⟩ := x; exact ⟨k _ _ (.inl rfl) e, ih q⟩
  | tbl ps =>
    have e : h.get? a = some { cls := .none, data := .fields ps } := x
    show h'.get? a = some { cls := .none, data := .fields ps }
    exact k a _ (.inl rfl) e
  | met f y =>
    have e : h.get? a = some (PySem.W.methodObj (.ref f) (.ref y)) := x
    show h'.get? a = some (PySem.W.methodObj (.ref f) (.ref y))
    exact k a _ (.inl rfl) e
  | ext φ => obtain ⟨p, ⟨o, e⟩, st⟩ := x; exact ⟨st _ _ p fun o q => k _ _ (.inl rfl) q, ⟨o, k _ _ (.inl rfl) e⟩, st⟩
theorem HOk.lt (x : HOk P w H h) (e : H a = some o) : a < h.objs.size := (x a o e).lt
theorem HOk.fresh (x : HOk P w H h) (e : h.objs.size ≤ a) : H a = none := by
  cases q : H a with
  | none => rfl
  | some u => exact absurd (Nat.lt_of_lt_of_le (x.lt q) e) (Nat.lt_irrefl _)
/-- every object of the heap is kept -/
theorem HOk.kept (x : HOk P w H h) (k : ∀ b u, h.get? b = some u → h'.get? b = some u) : HOk P w H h' := fun a o e =>
  (x a o e).stay (fun b u _ q => k b u q) (fun _ q => q) fun _ _ q => q
/-- a new object is laid and tracked -/
theorem HOk.laid (x : HOk P w H h) (k : ∀ b u, h.get? b = some u → h'.get? b = some u) (hp : h.objs.size ≤ a) (new : ObjOk P w (upd H a o) h' a o) : HOk P w (upd H a o) h' := fun b u e => by
  have hn := x.fresh hp
  by_cases hb : b = a
  · subst hb; rw [upd_same] at e; cases e; exact new
  · rw [upd_ne hb] at e
    exact (x b u e).stay (fun c v _ q => k c v q) (fun c q => by rw [upd_ne (ne_of_none q hn)]; exact q) fun c xs q => by rw [upd_ne (ne_of_none q hn)]; exact q
end

/-- what may be read as u: it is u, or a known u -/
def Rd (H : Hp) (a : Addr) (u : HO) : Prop := H a = some u ∨ ∃ o, H a = some (.frz o u)
theorem Rd.ok {P : Program} {w : World} {H : Hp} {h : Heap} {a : Addr} {u : HO} (r : Rd H a u) (x : HOk P w H h) : ObjOk P w H h a u := by
  rcases r with r | ⟨o, r⟩
  · exact x a u r
  · obtain ⟨_, q⟩ := x a _ r
    exact q
/-- what may be written -/
def Mut : Option HO → Prop
  | some (.lst _) => True
  | some (.dK _) => True
  | some (.dT _) => True
  | some (.set _ _) => True
  | some (.ins _ _ _) => True
  | some (.ext _) => True
  | _ => False
section
variable {P : Program} {w : World} {H : Hp} {h h' : Heap} {x e : Addr} {o' : HO}
/-- the object at e is changed: x itself, or the dict of the instance x -/
theorem HOk.write (ok : HOk P w H h) (mu : Mut (H x)) (he : e = x ∨ H e = some (.own x)) (k : ∀ b u, b ≠ e → h.get? b = some u → h'.get? b = some u) (heo : ∃ u, h'.get? e = some u)
    (new : ObjOk P w (upd H x o') h' x o') : HOk P w (upd H x o') h' := fun b u q => by
  have nown : ∀ c y, H c = some (.own y) → c ≠ x := fun c y r z => by subst z; rw [r] at mu; exact mu
  have ntup : ∀ c xs, H c = some (.tup xs) → c ≠ x := fun c xs r z => by subst z; rw [r] at mu; exact mu
  by_cases hb : b = x
  · subst hb; rw [upd_same] at q; cases q; exact new
  · rw [upd_ne hb] at q
    by_cases hbe : b = e
    · have q' : H b = some (.own x) := by
        rcases he with z | z
        · exact absurd (hbe.trans z) hb
        · rw [hbe]; exact z
      rw [q] at q'; cases q'
      obtain ⟨v, hv⟩ := heo
      exact ⟨v, by rw [hbe]; exact hv⟩
    · refine (ok b u q).stay (fun c v hc r => k c v ?_ r) (fun c r => by rw [upd_ne (nown c b r)]; exact r) fun c xs r => by rw [upd_ne (ntup c xs r)]; exact r
      rcases hc with rfl | hc
      · exact hbe
      · rintro rfl
        rcases he with z | z
        · exact nown c b hc z
        · rw [hc] at z; cases z; exact hb rfl
end

/-! ### kept unless tracked; of the frames at fs (the callers') the slots may change (an exception that passes writes there); of the records at ex (iterators) nothing is said -/
structure Un (fs ex : List Addr) (H H' : Hp) (h h' : Heap) : Prop where
  keep : ∀ b o, h.get? b = some o → H b = none → b ∉ fs → b ∉ ex → h'.get? b = some o
  slot : ∀ b o, h.get? b = some o → H b = none → b ∈ fs → b ∉ ex → ∃ sl, h'.get? b = some { o with slots := sl }
  free : ∀ b o, h.get? b = some o → H b = none → b ∉ ex → H' b = none
  there : ∀ b o, h.get? b = some o → b ∉ ex → ∃ o', h'.get? b = some o'
  tups : ∀ b xs, H b = some (.tup xs) → H' b = some (.tup xs)
  frzs : ∀ b o u, H b = some (.frz o u) → H' b = some (.frz o u)
  tbls : ∀ b ps, H b = some (.tbl ps) → ∃ more, H' b = some (.tbl (ps ++ more))
section
variable {fs fs' ex ex' : List Addr} {H H1 H2 : Hp} {h h1 h2 h' : Heap} {a x e : Addr} {o : HO}
theorem Un.any (u : Un fs ex H H1 h h1) {b : Addr} {ob : Obj} (q : h.get? b = some ob) (n : H b = none) (hx : b ∉ ex) : ∃ sl, h1.get? b = some { ob with slots := sl } := by
  by_cases hb : b ∈ fs
  · exact u.slot b ob q n hb hx
  · exact ⟨ob.slots, u.keep b ob q n hb hx⟩
theorem Un.kept (k : ∀ b u, h.get? b = some u → h'.get? b = some u) : Un fs ex H H h h' :=
  ⟨fun b ob q _ _ _ => k b ob q, fun b ob q _ _ _ => ⟨ob.slots, k b ob q⟩, fun _ _ _ n _ => n, fun b ob q _ => ⟨ob, k b ob q⟩, fun _ _ q => q, fun _ _ _ q => q, fun _ ps q => ⟨#[], by rw [q]; simp⟩⟩
theorem Un.refl : Un fs ex H H h h := Un.kept fun _ _ q => q
theorem Un.laid (k : ∀ b u, h.get? b = some u → h'.get? b = some u) (hp : h.objs.size ≤ a) (hn : H a = none) : Un fs ex H (upd H a o) h h' where
  keep := fun b u q _ _ _ => k b u q
  slot := fun b u q _ _ _ => ⟨u.slots, k b u q⟩
  free := fun b u q n _ => by rw [upd_ne (Nat.ne_of_lt (Nat.lt_of_lt_of_le (Heap.lt_size q) hp))]; exact n
  there := fun b u q _ => ⟨u, k b u q⟩
  tups := fun b xs q => by rw [upd_ne (ne_of_none q hn)]; exact q
  frzs := fun b u xs q => by rw [upd_ne (ne_of_none q hn)]; exact q
  tbls := fun b ps q => ⟨#[], by rw [upd_ne (ne_of_none q hn), q]; simp⟩
theorem Un.write (mu : Mut (H x)) (he : e = x ∨ H e = some (.own x)) (k : ∀ b u, b ≠ e → h.get? b = some u → h'.get? b = some u) (heo : ∃ u, h'.get? e = some u) : Un fs ex H (upd H x o) h h' := by
  have hx : ∀ b, H b = none → b ≠ x := fun b n z => by subst z; rw [n] at mu; exact mu
  have hb : ∀ b, H b = none → b ≠ e := fun b n z => by
    subst z
    rcases he with r | r
    · exact hx b n r
    · rw [n] at r; cases r
  have hm : ∀ b u, H b = some u → ¬ Mut (some u) → b ≠ x := fun b u q nm z => by subst z; rw [q] at mu; exact nm mu
  refine ⟨fun b u q n _ _ => k b u (hb b n) q, fun b u q n _ _ => ⟨u.slots, k b u (hb b n) q⟩, fun b u q n _ => by rw [upd_ne (hx b n)]; exact n, fun b u q _ => ?_,
    fun b xs q => by rw [upd_ne (hm b _ q fun z => z)]; exact q, fun b u xs q => by rw [upd_ne (hm b _ q fun z => z)]; exact q, fun b ps q => ⟨#[], by rw [upd_ne (hm b _ q fun z => z), q]; simp⟩⟩
  by_cases hbe : b = e
  · subst hbe; exact heo
  · exact ⟨u, k b u hbe q⟩
end

/-! ### the heap without what is tracked -/
def trk (h : Heap) (H : Hp) : List Addr := (List.range h.objs.size).filter fun a => (H a).isSome
def hidT (h : Heap) (H : Hp) : Heap := PySem.W.hideAll h (trk h H)
theorem hidT_size (h : Heap) (H : Hp) : (hidT h H).objs.size = h.objs.size := PySem.W.hideAll_size _ _
theorem hidT_get {h : Heap} {H : Hp} {b : Addr} {o : Obj} (e : h.get? b = some o) (n : H b = none) : (hidT h H).get? b = some o :=
  PySem.W.hideAll_get _ e fun hm => by
    have q : (H b).isSome = true := (List.mem_filter.mp hm).2
    rw [n] at q; simp at q
theorem of_hidT {h : Heap} {H : Hp} {b : Addr} {o : Obj} (e : (hidT h H).get? b = some o) : h.get? b = some o ∧ H b = none := by
  have e' : h.get? b = some o := PySem.W.of_hideAll (trk h H) e
  refine ⟨e', ?_⟩
  cases q : H b with
  | none => rfl
  | some x =>
    have hm : b ∈ trk h H := List.mem_filter.mpr ⟨List.mem_range.mpr (Heap.lt_size e'), by simp [q]⟩
    have z : (hidT h H).get? b = none := PySem.W.hideAll_none (trk h H) hm
    rw [z] at e; cases e

/-! ### OpenK's ledger, filled with every new object but one -/
def allNews (g h : Heap) (L : Addr) : List (Addr × Obj) := (List.range h.objs.size).filterMap fun a => if a = L ∨ (g.get? a).isSome = true then none else (h.get? a).map fun o => (a, o)
def rest (g h : Heap) (L d : Addr) : List (Addr × Obj) := (allNews g h L).filter fun p => decide (p.1 ≠ d)
end L2

namespace L2
open PySem PySem.Spec PyProof.Rows

/-- the module's facts, over the base: the heap at the law's entry without what is tracked there -/
structure Mod (K : PySem.W.Frag) (mg : Str → Option Value) (base : Heap) : Prop where
  kin : K.In base
  glob : base.Ns mainGlobals mg
  blt : ∃ mb, base.Ns builtinsNs mb ∧ ∀ x : Str, x ≠ "__name__" → mb x = bootBuiltins x
  nolimit : base.NoLimit

/-- the context: a def's body (or a comprehension's block) running. base: fixed through the whole law; s₀, H₀: the entry; outer: the frames whose slots others may change (a def's callers); stack: all frames that run;
   ex: iterators that were made ahead of the entry and are walked here (a comprehension's); fn: the names whose cells were made at the entry (a def: all; a comprehension's block: its own); calm: not within an except suite; pn: pins that every state bears; xe: what is wanted of an exception that leaves the code -/
structure Cx where
  prog : Program
  w : World
  K : PySem.W.Frag
  mg : Str → Option Value
  base : Heap
  A : Around
  N : List Str
  s₀ : Shared
  H₀ : Hp
  env : Env
  outer : List Env
  stack : List Env
  ex : List Addr
  fn : Str → Bool
  calm : Bool
  pn : List (Addr × Obj)
  xe : Value → Shared → Prop
/-- the callers' frames -/
def frs (l : List Env) : List Addr := l.filterMap (·.frame)
abbrev Cx.fs (X : Cx) : List Addr := frs X.outer

def Vis (sc : Scope) (x : Str) : Prop := sc.names.lookup x = some .local ∨ sc.names.lookup x = some .cell ∨ sc.names.lookup x = some .free
def Loc (sc : Scope) (x : Str) : Prop := sc.names.lookup x = some .local ∨ sc.names.lookup x = some .cell
def Look (env : Env) (h : Heap) (m : Str → Option Value) (x : Str) (u : Value) : Prop :=
  (env.kindOf x = some .local ∧ m x = some u) ∨ ((env.kindOf x = some .cell ∨ env.kindOf x = some .free) ∧ ∃ c, env.cells.lookup x = some c ∧ h.IsCell c (some u))

structure Cx.Ok (X : Cx) : Prop where
  mod : Mod X.K X.mg X.base
  kind : X.env.scope.kind = .function
  glob : X.env.globals = mainGlobals
  blt : X.env.builtins = builtinsNs
  above : X.s₀.heap.objs.size ≤ X.env.locals
  inj : ∀ x y c, X.env.cells.lookup x = some c → X.env.cells.lookup y = some c → x = y
  has : ∀ x, (X.env.kindOf x = some .cell ∨ X.env.kindOf x = some .free) → ∃ c, X.env.cells.lookup x = some c
  cab : ∀ x c, X.fn x = true → X.env.cells.lookup x = some c → X.s₀.heap.objs.size ≤ c
  hd : X.calm = true → X.A.handled = none
  frames : X.A.frames = some X.stack
  stk : X.stack = X.outer ∨ (X.stack = X.env :: X.outer ∧ X.env.frame = some X.env.locals)
  exf : ∀ b ∈ X.ex, b ≠ X.env.locals ∧ ∀ x c, X.env.cells.lookup x = some c → c ≠ b
  bs : ∀ b o, X.base.get? b = some o → X.s₀.heap.get? b = some o ∧ X.H₀ b = none
  bsz : X.base.objs.size ≤ X.s₀.heap.objs.size
  noex : ∀ b o, X.base.get? b = some o → b ∉ X.ex
  exfs : ∀ b ∈ X.ex, b ∉ X.fs
  funs : X.s₀.heap.FunFrames X.base X.outer
  frf : ∀ b ∈ X.fs, X.H₀ b = none

structure Inv (X : Cx) (pins : List (Addr × Obj)) (σ : List (Option V)) (H : Hp) (s : Shared) : Prop where
  ok : X.Ok
  os : s.os = X.s₀.os
  bare : AllBare s.gens
  base : Un X.fs X.ex X.H₀ H X.s₀.heap s.heap
  loc : ∃ m, s.heap.Ns X.env.locals m ∧ ∀ (i : Nat) (x : Str) (v : V), X.N[i]? = some x → σ[i]? = some (some v) → Vis X.env.scope x → ∃ u, RelV v u ∧ Look X.env s.heap m x u
  cell : ∀ x c, X.env.cells.lookup x = some c → ∃ v, s.heap.IsCell c v
  free : H X.env.locals = none
  freeC : ∀ x c, X.env.cells.lookup x = some c → H c = none
  pin : ∀ p ∈ X.pn ++ pins, s.heap.get? p.1 = some p.2 ∧ H p.1 = none ∧ p.1 ≠ X.env.locals ∧ p.1 ∉ X.fs ∧ ∀ v, p.2.data ≠ .cell v
  hok : HOk X.prog X.w H s.heap
  len : σ.length = X.N.length

section
variable {X : Cx} {pins : List (Addr × Obj)} {σ : List (Option V)} {H H' : Hp} {s : Shared} {h' : Heap}

theorem Cx.Ok.nofr (ok : X.Ok) {b : Addr} {o : Obj} (e : X.base.get? b = some o) : b ∉ X.fs := fun hb => by
  have := (ok.funs.mem hb).1
  rw [e] at this; cases this
theorem Inv.bs (I : Inv X pins σ H s) : ∀ b o, X.base.get? b = some o → s.heap.get? b = some o ∧ H b = none := fun b o e =>
  ⟨I.base.keep b o (I.ok.bs b o e).1 (I.ok.bs b o e).2 (I.ok.nofr e) (I.ok.noex b o e), I.base.free b o (I.ok.bs b o e).1 (I.ok.bs b o e).2 (I.ok.noex b o e)⟩
theorem Inv.bk (I : Inv X pins σ H s) : ∀ b o, X.base.get? b = some o → s.heap.get? b = some o := fun b o e => (I.bs b o e).1
theorem Inv.mod (I : Inv X pins σ H s) : Mod X.K X.mg X.base := I.ok.mod
theorem Inv.kIn (I : Inv X pins σ H s) : X.K.In s.heap := I.ok.mod.kin.keeps I.bk
theorem Inv.lt (I : Inv X pins σ H s) : X.env.locals < s.heap.objs.size := let ⟨_, hn, _⟩ := I.loc; hn.lt
theorem Inv.sz (I : Inv X pins σ H s) : X.s₀.heap.objs.size ≤ s.heap.objs.size := Nat.le_trans I.ok.above (Nat.le_of_lt I.lt)
theorem Inv.nofs (I : Inv X pins σ H s) {a : Addr} (h : s.heap.objs.size ≤ a) : a ∉ X.fs := fun hb => by
  obtain ⟨_, o, ho, _⟩ := I.ok.funs.mem hb
  exact absurd (Nat.lt_of_lt_of_le (Heap.lt_size ho) (Nat.le_trans I.sz h)) (Nat.lt_irrefl _)
theorem Inv.cne (I : Inv X pins σ H s) : ∀ x c, X.env.cells.lookup x = some c → c ≠ X.env.locals := fun x c e z => by
  obtain ⟨v, o, ho, hd⟩ := I.cell x c e
  obtain ⟨m, ⟨o', es, ep, ho', hd', _⟩, _⟩ := I.loc
  rw [z, ho'] at ho; cases ho; rw [hd'] at hd; cases hd
theorem Inv.funs (I : Inv X pins σ H s) : s.heap.FunFrames X.base X.outer := by
  have all : ∀ (l : List Env), (∀ b ∈ frs l, b ∈ X.fs) → X.s₀.heap.FunFrames X.base l → s.heap.FunFrames X.base l := by
    intro l
    induction l with
    | nil => intro _ _; trivial
    | cons env r ih =>
      intro hs hl
      obtain ⟨hk, ⟨L, o, hf, hn, ho, hd⟩, hr⟩ := hl
      have hL : L ∈ X.fs := hs L (by unfold frs; rw [List.filterMap_cons, hf]; exact List.mem_cons_self)
      obtain ⟨sl, e⟩ := I.base.slot L o ho (I.ok.frf L hL) hL fun z => I.ok.exfs L z hL
      exact ⟨hk, ⟨L, _, hf, hn, e, hd⟩, ih (fun b hb => hs b (by unfold frs; rw [List.filterMap_cons, hf]; exact List.mem_cons_of_mem _ hb)) hr⟩
  exact all X.outer (fun _ hb => hb) I.ok.funs

/-- the frames that run, for a call -/
theorem Inv.stack (I : Inv X pins σ H s) : s.heap.FunFrames X.base X.stack := by
  rcases I.ok.stk with e | ⟨e, hf⟩
  · rw [e]; exact I.funs
  · rw [e]
    obtain ⟨m, hn, _⟩ := I.loc
    refine .cons (by rw [I.ok.kind]; decide) hf hn ?_ I.funs
    exact Heap.get?_none_of_le (Nat.le_trans I.ok.bsz I.ok.above)
theorem Inv.stkSub (I : Inv X pins σ H s) : ∀ b ∈ frs X.stack, b ∈ X.env.locals :: X.fs := fun b hb => by
  rcases I.ok.stk with e | ⟨e, hf⟩
  · rw [e] at hb; exact List.mem_cons_of_mem _ hb
  · rw [e] at hb
    unfold frs at hb
    rw [List.filterMap_cons, hf] at hb
    exact hb
theorem Inv.stkFree (I : Inv X pins σ H s) : ∀ b ∈ frs X.stack, H b = none := fun b hb => by
  rcases List.mem_cons.mp (I.stkSub b hb) with e | hb
  · rw [e]; exact I.free
  · obtain ⟨_, o, ho, _⟩ := I.ok.funs.mem hb
    exact I.base.free b o ho (I.ok.frf b hb) fun z => I.ok.exfs b z hb

/-- THE STEP: the untracked objects but the frame and the records at ch are kept (the callers' frames up to slots), the frame's map is kept, the new abstract heap is held -/
theorem Inv.step {g' : Array GenState} {t' : Nat} {d' : Drawn} {ch : List Addr} (I : Inv X pins σ H s)
    (hch : ∀ b ∈ ch, (b ∈ X.ex ∨ X.s₀.heap.objs.size ≤ b) ∧ b ≠ X.env.locals ∧ (∀ x c, X.env.cells.lookup x = some c → c ≠ b) ∧ ∀ p ∈ X.pn ++ pins, p.1 ≠ b)
    (keep : ∀ b o, b ≠ X.env.locals → b ∉ X.fs → b ∉ ch → s.heap.get? b = some o → H b = none → h'.get? b = some o)
    (slot : ∀ b o, b ≠ X.env.locals → b ∈ X.fs → b ∉ ch → s.heap.get? b = some o → H b = none → ∃ sl, h'.get? b = some { o with slots := sl }) (free : ∀ b o, b ∉ ch → s.heap.get? b = some o → H b = none → H' b = none)
    (there : ∀ b o, b ∉ ch → s.heap.get? b = some o → ∃ o', h'.get? b = some o')
    (tups : ∀ b xs, H b = some (.tup xs) → H' b = some (.tup xs)) (frzs : ∀ b o u, H b = some (.frz o u) → H' b = some (.frz o u)) (tbls : ∀ b ps, H b = some (.tbl ps) → ∃ more, H' b = some (.tbl (ps ++ more)))
    (ns : ∀ m, s.heap.Ns X.env.locals m → h'.Ns X.env.locals m) (hok : HOk X.prog X.w H' h') (hg : AllBare g') :
    Inv X pins σ H' { s with heap := h', gens := g', drawn := d', toks := t' } := by
  have neL : ∀ b o, X.s₀.heap.get? b = some o → b ≠ X.env.locals := fun b o e => Nat.ne_of_lt (Nat.lt_of_lt_of_le (Heap.lt_size e) I.ok.above)
  have neC : ∀ b o, X.s₀.heap.get? b = some o → b ∉ X.ex → b ∉ ch := fun b o e hx hb => by
    rcases (hch b hb).1 with z | z
    · exact hx z
    · exact absurd (Nat.lt_of_lt_of_le (Heap.lt_size e) z) (Nat.lt_irrefl _)
  have cellK : ∀ x c, X.env.cells.lookup x = some c → ∀ v, s.heap.IsCell c v → h'.IsCell c v := fun x c e v ⟨o, ho, hd⟩ => by
    have nch : c ∉ ch := fun z => (hch c z).2.2.1 x c e rfl
    by_cases hc : c ∈ X.fs
    · obtain ⟨sl, q⟩ := slot c o (I.cne x c e) hc nch ho (I.freeC x c e)
      exact ⟨_, q, hd⟩
    · exact ⟨o, keep c o (I.cne x c e) hc nch ho (I.freeC x c e), hd⟩
  refine ⟨I.ok, I.os, hg, ⟨fun b o e n hb hx => ?_, fun b o e n hb hx => ?_, fun b o e n hx => ?_, fun b o e hx => ?_, fun b xs e => tups b xs (I.base.tups b xs e), fun b o xs e => frzs b o xs (I.base.frzs b o xs e), fun b ps e => ?_⟩, ?_, fun x c e => ?_, ?_, fun x c e => ?_, fun p hp => ?_, hok, I.len⟩
  · exact keep b o (neL b o e) hb (neC b o e hx) (I.base.keep b o e n hb hx) (I.base.free b o e n hx)
  · obtain ⟨sl, e1⟩ := I.base.slot b o e n hb hx
    obtain ⟨sl', e2⟩ := slot b _ (neL b o e) hb (neC b o e hx) e1 (I.base.free b o e n hx)
    exact ⟨sl', e2⟩
  · obtain ⟨o', e1⟩ := I.base.there b o e hx
    exact free b o' (neC b o e hx) e1 (I.base.free b o e n hx)
  · obtain ⟨o', e1⟩ := I.base.there b o e hx
    exact there b o' (neC b o e hx) e1
  · obtain ⟨m1, e1⟩ := I.base.tbls b ps e
    obtain ⟨m2, e2⟩ := tbls b _ e1
    exact ⟨m1 ++ m2, by rw [e2, Array.append_assoc]⟩
  · obtain ⟨m, hn, hl⟩ := I.loc
    refine ⟨m, ns m hn, fun i x v e1 e2 e3 => ?_⟩
    obtain ⟨u, r, l⟩ := hl i x v e1 e2 e3
    refine ⟨u, r, ?_⟩
    rcases l with l | ⟨k, c, e, z⟩
    · exact .inl l
    · exact .inr ⟨k, c, e, cellK x c e _ z⟩
  · obtain ⟨v, z⟩ := I.cell x c e
    exact ⟨v, cellK x c e v z⟩
  · obtain ⟨m, ⟨o, _, _, ho, _⟩, _⟩ := I.loc
    exact free _ o (fun z => (hch _ z).2.1 rfl) ho I.free
  · obtain ⟨v, o, ho, hd⟩ := I.cell x c e
    exact free c o (fun z => (hch c z).2.2.1 x c e rfl) ho (I.freeC x c e)
  · obtain ⟨e, n, ne, nf, d⟩ := I.pin p hp
    have nch : p.1 ∉ ch := fun z => (hch p.1 z).2.2.2 p hp rfl
    exact ⟨keep p.1 p.2 ne nf nch e n, free p.1 p.2 nch e n, ne, nf, d⟩
/-- .. where the frame's own object is kept too -/
theorem Inv.un {t' : Nat} (I : Inv X pins σ H s) (u : Un X.fs [] H H' s.heap h') (hok : HOk X.prog X.w H' h') : Inv X pins σ H' { s with heap := h', toks := t' } := by
  obtain ⟨m, ⟨o, es, ep, ho, r⟩, _⟩ := id I.loc
  obtain ⟨sl, hL⟩ := u.any ho I.free (by simp)
  exact I.step (g' := s.gens) (d' := s.drawn) (ch := []) (fun _ z => nomatch z) (fun b o _ hb _ e n => u.keep b o e n hb (by simp)) (fun b o _ hb _ e n => u.slot b o e n hb (by simp)) (fun b o _ e n => u.free b o e n (by simp)) (fun b o _ e => u.there b o e (by simp)) u.tups u.frzs u.tbls (fun m' hm => by
    obtain ⟨o', es', ep', ho', r'⟩ := hm
    rw [ho] at ho'; cases ho'
    exact ⟨_, es', ep', hL, r'⟩) hok I.bare
/-- behind a call (or a comprehension's block): the slots of this frame may have changed too, the records at ch may have turned -/
theorem Inv.call {g' : Array GenState} {t' : Nat} {d' : Drawn} {ch : List Addr} (I : Inv X pins σ H s) (u : Un (frs X.stack) ch H H' s.heap h') (hok : HOk X.prog X.w H' h') (hg : AllBare g')
    (hch : ∀ b ∈ ch, (b ∈ X.ex ∨ X.s₀.heap.objs.size ≤ b) ∧ b ≠ X.env.locals ∧ (∀ x c, X.env.cells.lookup x = some c → c ≠ b) ∧ ∀ p ∈ X.pn ++ pins, p.1 ≠ b) :
    Inv X pins σ H' { s with heap := h', gens := g', drawn := d', toks := t' } := by
  obtain ⟨m, ⟨o, es, ep, ho, r⟩, _⟩ := id I.loc
  obtain ⟨sl, hL⟩ := u.any ho I.free fun z => (hch _ z).2.1 rfl
  exact I.step (ch := ch) hch (fun b o hL hb hc e n => u.keep b o e n (fun z => (List.mem_cons.mp (I.stkSub b z)).elim hL hb) hc) (fun b o _ _ hc e n => u.any e n hc) (fun b o hc e n => u.free b o e n hc) (fun b o hc e => u.there b o e hc) u.tups u.frzs u.tbls (fun m' hm => by
    obtain ⟨o', es', ep', ho', r'⟩ := hm
    rw [ho] at ho'; cases ho'
    exact ⟨_, es', ep', hL, r'⟩) hok hg
/-- an untracked record of ours (an iterator) has turned -/
theorem Inv.turned {t' : Nat} {it : Addr} (I : Inv X pins σ H s) (k : ∀ b o, b ≠ it → s.heap.get? b = some o → h'.get? b = some o) (hn : H it = none) (hL : it ≠ X.env.locals)
    (h1 : it ∈ X.ex ∨ X.s₀.heap.objs.size ≤ it) (h2 : ∀ x c, X.env.cells.lookup x = some c → c ≠ it) (h3 : ∀ p ∈ X.pn ++ pins, p.1 ≠ it) : Inv X pins σ H { s with heap := h', toks := t' } := by
  have nit : ∀ b u, H b = some u → b ≠ it := fun b u e z => by rw [z, hn] at e; cases e
  refine I.step (g' := s.gens) (d' := s.drawn) (ch := [it]) (fun b hb => ?_) (fun b o _ _ hc e _ => k b o (fun z => hc (by simp [z])) e) (fun b o _ _ hc e _ => ⟨o.slots, k b o (fun z => hc (by simp [z])) e⟩) (fun _ _ _ _ n => n)
    (fun b o hc e => ⟨o, k b o (fun z => hc (by simp [z])) e⟩) (fun _ _ e => e) (fun _ _ _ e => e) (fun b ps e => ⟨#[], by rw [e]; simp⟩) (fun m hm => ?_) (fun b u e => ?_) I.bare
  · have e : b = it := by simpa using hb
    subst e
    exact ⟨h1, hL, h2, h3⟩
  · obtain ⟨o, es, ep, ho, r⟩ := hm
    exact ⟨o, es, ep, k _ o (Ne.symm hL) ho, r⟩
  · refine (I.hok b u e).stay (fun c v hc q => k c v ?_ q) (fun _ q => q) fun _ _ q => q
    rcases hc with z | z
    · rw [z]; exact nit b u e
    · exact nit c _ z
theorem Inv.tok (I : Inv X pins σ H s) (t : Nat) : Inv X pins σ H { s with toks := t } := I.un (h' := s.heap) (t' := t) Un.refl I.hok
/-- all objects kept -/
theorem Inv.kept {t' : Nat} (I : Inv X pins σ H s) (k : ∀ b u, s.heap.get? b = some u → h'.get? b = some u) : Inv X pins σ H { s with heap := h', toks := t' } := I.un (Un.kept k) (I.hok.kept k)
/-- a new object laid and tracked -/
theorem Inv.laid {a : Addr} {o : HO} {t' : Nat} (I : Inv X pins σ H s) (k : ∀ b u, s.heap.get? b = some u → h'.get? b = some u) (hp : s.heap.objs.size ≤ a) (new : ObjOk X.prog X.w (upd H a o) h' a o) :
    Inv X pins σ (upd H a o) { s with heap := h', toks := t' } := I.un (Un.laid k hp (I.hok.fresh hp)) (I.hok.laid k hp new)
/-- an object written -/
theorem Inv.write {x e : Addr} {o : HO} {t' : Nat} (I : Inv X pins σ H s) (mu : Mut (H x)) (he : e = x ∨ H e = some (.own x)) (k : ∀ b u, b ≠ e → s.heap.get? b = some u → h'.get? b = some u) (heo : ∃ u, h'.get? e = some u)
    (new : ObjOk X.prog X.w (upd H x o) h' x o) : Inv X pins σ (upd H x o) { s with heap := h', toks := t' } := I.un (Un.write mu he k heo) (I.hok.write mu he k heo new)
/-- forgetting slots, pins -/
theorem Inv.weak {σ' : List (Option V)} (I : Inv X pins σ H s) (hl : σ'.length = σ.length) (w : ∀ (i : Nat) v, σ'[i]? = some (some v) → σ[i]? = some (some v)) : Inv X pins σ' H s :=
  ⟨I.ok, I.os, I.bare, I.base, let ⟨m, hn, hl'⟩ := I.loc; ⟨m, hn, fun i x v e1 e2 e3 => hl' i x v e1 (w i v e2) e3⟩, I.cell, I.free, I.freeC, I.pin, I.hok, hl.trans I.len⟩
theorem Inv.pins_of {pins' : List (Addr × Obj)} (I : Inv X pins σ H s) (h : ∀ p ∈ pins', s.heap.get? p.1 = some p.2 ∧ H p.1 = none ∧ p.1 ≠ X.env.locals ∧ p.1 ∉ X.fs ∧ ∀ v, p.2.data ≠ .cell v) : Inv X pins' σ H s :=
  ⟨I.ok, I.os, I.bare, I.base, I.loc, I.cell, I.free, I.freeC, fun p hp => (List.mem_append.mp hp).elim (fun z => I.pin p (List.mem_append_left _ z)) (h p), I.hok, I.len⟩

theorem nodup_ix {N : List Str} (hN : N.Nodup) {i j : Nat} {x : Str} (a : N[i]? = some x) (b : N[j]? = some x) : i = j := by
  obtain ⟨h1, e1⟩ := List.getElem?_eq_some_iff.mp a
  obtain ⟨h2, e2⟩ := List.getElem?_eq_some_iff.mp b
  exact (List.getElem_inj hN).mp (e1.trans e2.symm)

/-- a name is stored; what changed -/
theorem store_ok2 {M : Model} {A : Around} {E : Value → Shared → Prop} {i : Nat} {x : Str} {v : V} {u : Value} {Q : Unit → Shared → Prop} (I : Inv X pins σ H s) (hN : X.N.Nodup) (hi : X.N[i]? = some x) (hx : Loc X.env.scope x) (r : RelV v u)
    (h : ∀ s', Inv X pins (σ.set i (some v)) H s' → (∃ a, Heap.SameBut a s.heap s'.heap ∧ (a = X.env.locals ∨ X.env.cells.lookup x = some a)) → Q () s') (hf : X.fn x = true ∨ X.env.scope.names.lookup x = some .local := by first | exact .inl rfl | exact .inr rfl | assumption) : wpAny M A (storeName X.env x u) Q E s := by
  obtain ⟨m, hn, hl⟩ := id I.loc
  have hcls : (X.env.scope.kind == .class || (X.env.scope.kind == .module && X.env.locals != X.env.globals)) = false := by rw [I.ok.kind]; rfl
  have hiσ : i < σ.length := by rw [I.len]; exact (List.getElem?_eq_some_iff.mp hi).1
  have cne := I.cne
  have tracked : ∀ {a : Addr} {h' : Heap}, (∃ o, s.heap.get? a = some o ∧ H a = none) → Heap.SameBut a s.heap h' → HOk X.prog X.w H h' := fun {a h'} ha hs b ob e => by
    obtain ⟨_, _, hfree⟩ := ha
    refine (I.hok b ob e).stay (fun c w' hc q => (hs.2 c ?_).trans q) (fun _ q => q) fun _ _ q => q
    rintro rfl
    rcases hc with rfl | hc
    · rw [hfree] at e; cases e
    · rw [hfree] at hc; cases hc
  rcases hx with hk | hk
  · refine wpAny_storeName_local hk hn (fun h' hn' hs => ?_) hcls
    obtain ⟨oL, _, _, hoL, _⟩ := id hn
    refine h _ ⟨I.ok, I.os, I.bare, ⟨fun b o e n hb hx => ?_, fun b o e n hb hx => ?_, I.base.free, fun b o e hx => ?_, I.base.tups, I.base.frzs, I.base.tbls⟩, ⟨_, hn', fun j y v' e1 e2 e3 => ?_⟩, fun y c e => ?_, I.free, I.freeC, fun p hp => ?_, tracked ⟨oL, hoL, I.free⟩ hs, by simpa using I.len⟩ ⟨_, hs, .inl rfl⟩
    · exact (hs.2 b (Nat.ne_of_lt (Nat.lt_of_lt_of_le (Heap.lt_size e) I.ok.above))).trans (I.base.keep b o e n hb hx)
    · obtain ⟨sl, e1⟩ := I.base.slot b o e n hb hx
      exact ⟨sl, (hs.2 b (Nat.ne_of_lt (Nat.lt_of_lt_of_le (Heap.lt_size e) I.ok.above))).trans e1⟩
    · obtain ⟨o', e1⟩ := I.base.there b o e hx
      exact ⟨o', (hs.2 b (Nat.ne_of_lt (Nat.lt_of_lt_of_le (Heap.lt_size e) I.ok.above))).trans e1⟩
    · by_cases hj : j = i
      · subst hj
        rw [hi] at e1; cases e1
        rw [List.getElem?_set_self hiσ] at e2
        cases e2
        exact ⟨u, r, .inl ⟨hk, by simp⟩⟩
      · rw [List.getElem?_set_ne (Ne.symm hj)] at e2
        obtain ⟨u', r', q⟩ := hl j y v' e1 e2 e3
        refine ⟨u', r', ?_⟩
        rcases q with ⟨k, e⟩ | ⟨k, c, e, z⟩
        · refine .inl ⟨k, ?_⟩
          have : y ≠ x := fun e => hj (nodup_ix hN e1 (e ▸ hi))
          simp [this, e]
        · exact .inr ⟨k, c, e, z.sameBut hs (cne y c e)⟩
    · obtain ⟨w', z⟩ := I.cell y c e
      exact ⟨w', z.sameBut hs (cne y c e)⟩
    · obtain ⟨e, n, ne, nf, d⟩ := I.pin p hp
      exact ⟨(hs.2 p.1 ne).trans e, n, ne, nf, d⟩
  · have hfn : X.fn x = true := by
      rcases hf with z | z
      · exact z
      · rw [z] at hk; cases hk
    obtain ⟨c, hc⟩ := I.ok.has x (.inl hk)
    obtain ⟨w', z⟩ := I.cell x c hc
    refine wpAny_storeName_cell I.ok.kind hk hc z (fun h' hc' hs => ?_)
    obtain ⟨oc, hoc, hocd⟩ := id z
    refine h { s with heap := h' } ⟨I.ok, I.os, I.bare, ⟨fun b o e n hb hx => ?_, fun b o e n hb hx => ?_, I.base.free, fun b o e hx => ?_, I.base.tups, I.base.frzs, I.base.tbls⟩, ⟨m, hn.sameBut hs (Ne.symm (cne x c hc)), fun j y v' e1 e2 e3 => ?_⟩, fun y c' e => ?_, I.free, I.freeC, fun p hp => ?_, tracked ⟨oc, hoc, I.freeC x c hc⟩ hs, by simpa using I.len⟩ ⟨c, hs, .inr hc⟩
    · exact (hs.2 b (Nat.ne_of_lt (Nat.lt_of_lt_of_le (Heap.lt_size e) (I.ok.cab x c hfn hc)))).trans (I.base.keep b o e n hb hx)
    · obtain ⟨sl, e1⟩ := I.base.slot b o e n hb hx
      exact ⟨sl, (hs.2 b (Nat.ne_of_lt (Nat.lt_of_lt_of_le (Heap.lt_size e) (I.ok.cab x c hfn hc)))).trans e1⟩
    · obtain ⟨o', e1⟩ := I.base.there b o e hx
      exact ⟨o', (hs.2 b (Nat.ne_of_lt (Nat.lt_of_lt_of_le (Heap.lt_size e) (I.ok.cab x c hfn hc)))).trans e1⟩
    · by_cases hj : j = i
      · subst hj
        rw [hi] at e1; cases e1
        rw [List.getElem?_set_self hiσ] at e2
        cases e2
        exact ⟨u, r, .inr ⟨.inl hk, c, hc, hc'⟩⟩
      · rw [List.getElem?_set_ne (Ne.symm hj)] at e2
        obtain ⟨u', r', q⟩ := hl j y v' e1 e2 e3
        refine ⟨u', r', ?_⟩
        rcases q with q | ⟨k, c', e, z'⟩
        · exact .inl q
        · refine .inr ⟨k, c', e, z'.sameBut hs ?_⟩
          rintro rfl
          exact hj (nodup_ix hN e1 (I.ok.inj _ _ _ e hc ▸ hi))
    · by_cases hcc : c' = c
      · subst hcc; exact ⟨_, hc'⟩
      · obtain ⟨w2, z2⟩ := I.cell y c' e
        exact ⟨w2, z2.sameBut hs hcc⟩
    · obtain ⟨e, n, ne, nf, d⟩ := I.pin p hp
      refine ⟨(hs.2 p.1 ?_).trans e, n, ne, nf, d⟩
      intro q
      rw [q, hoc] at e
      have q' : oc = p.2 := Option.some.inj e
      exact d w' (by rw [← q']; exact hocd)
theorem store_ok {M : Model} {A : Around} {E : Value → Shared → Prop} {i : Nat} {x : Str} {v : V} {u : Value} {Q : Unit → Shared → Prop} (I : Inv X pins σ H s) (hN : X.N.Nodup) (hi : X.N[i]? = some x) (hx : Loc X.env.scope x) (r : RelV v u)
    (h : ∀ s', Inv X pins (σ.set i (some v)) H s' → Q () s') (hf : X.fn x = true ∨ X.env.scope.names.lookup x = some .local := by first | exact .inl rfl | exact .inr rfl | assumption) : wpAny M A (storeName X.env x u) Q E s :=
  store_ok2 I hN hi hx r (fun s' I' _ => h s' I') hf
/-- behind a call or a block, the state as it is -/
theorem Inv.call' {s' : Shared} {ch : List Addr} (I : Inv X pins σ H s) (ho : s'.os = s.os) (u : Un (frs X.stack) ch H H' s.heap s'.heap) (hok : HOk X.prog X.w H' s'.heap) (hg : AllBare s'.gens)
    (hch : ∀ b ∈ ch, (b ∈ X.ex ∨ X.s₀.heap.objs.size ≤ b) ∧ b ≠ X.env.locals ∧ (∀ x c, X.env.cells.lookup x = some c → c ≠ b) ∧ ∀ p ∈ X.pn ++ pins, p.1 ≠ b) : Inv X pins σ H' s' := by
  obtain ⟨h', g', d', t', o'⟩ := s'
  have e : o' = s.os := ho
  subst e
  exact I.call (g' := g') (t' := t') (d' := d') u hok hg hch
end

/-! ### the judgements -/
/-- an exception: its class, its own dict's address (where it has one), the abstract heap behind it -/
abbrev XK := Value → Option Addr → Hp → Prop
abbrev St := List (Option V)
abbrev VK := V → Hp → Prop
/-- an expression's reading; a test's; an argument list's -/
abbrev TE := St → Hp → VK → Prop
abbrev TT := St → Hp → (Bool → Hp → Prop) → Prop
abbrev TA := St → Hp → (List V → Hp → Prop) → Prop
/-- what is wanted behind a statement -/
structure Ends where
  nx : St → Hp → Prop
  rt : VK
  bk : St → Hp → Prop := fun _ _ => False
  ct : St → Hp → Prop := fun _ _ => False
abbrev TS := Ends → St → Hp → Prop

def EP (X : Cx) (pins : List (Addr × Obj)) (σ : St) (Q : VK) (u : Value) (s' : Shared) : Prop := ∃ v H', Inv X pins σ H' s' ∧ RelV v u ∧ Q v H'
def TP (X : Cx) (pins : List (Addr × Obj)) (σ : St) (Q : Bool → Hp → Prop) (b : Bool) (s' : Shared) : Prop := ∃ H', Inv X pins σ H' s' ∧ Q b H'
def AP (X : Cx) (pins : List (Addr × Obj)) (σ : St) (Q : List V → Hp → Prop) (us : List Value) (s' : Shared) : Prop := ∃ vs H', Inv X pins σ H' s' ∧ Vals vs us ∧ Q vs H'
def SP (X : Cx) (pins : List (Addr × Obj)) (D : Ends) (f : Flow) (s' : Shared) : Prop :=
  match f with
  | .next => ∃ σ' H', Inv X pins σ' H' s' ∧ D.nx σ' H'
  | .brk => ∃ σ' H', Inv X pins σ' H' s' ∧ D.bk σ' H'
  | .cont => ∃ σ' H', Inv X pins σ' H' s' ∧ D.ct σ' H'
  | .ret u => ∃ v σ' H', Inv X pins σ' H' s' ∧ RelV v u ∧ D.rt v H'

def PE (X : Cx) (e : Expr) (t : TE) : Prop :=
  ∀ (pins : List (Addr × Obj)) (s : Shared) (σ : St) (H : Hp) (Q : VK), Inv X pins σ H s → t σ H Q → wpAny (model X.prog X.w) X.A (eval e X.env) (EP X pins σ Q) X.xe s
def PT (X : Cx) (e : Expr) (t : TT) : Prop :=
  ∀ (pins : List (Addr × Obj)) (s : Shared) (σ : St) (H : Hp) (Q : Bool → Hp → Prop), Inv X pins σ H s → t σ H Q → wpAny (model X.prog X.w) X.A (isTrue e X.env (eval e X.env)) (TP X pins σ Q) X.xe s
/-- a test whatever its 'whole' is (and, or) -/
def PW (X : Cx) (e : Expr) (t : TT) : Prop :=
  ∀ (whole : Sem Value) (pins : List (Addr × Obj)) (s : Shared) (σ : St) (H : Hp) (Q : Bool → Hp → Prop), Inv X pins σ H s → t σ H Q → wpAny (model X.prog X.w) X.A (isTrue e X.env whole) (TP X pins σ Q) X.xe s
theorem PW.pt {X : Cx} {e : Expr} {t : TT} (h : PW X e t) : PT X e t := h _
/-- an argument list (no star), from the left -/
def PA (X : Cx) (es : List Expr) (t : TA) : Prop :=
  ∀ (pos : Pos) (pins : List (Addr × Obj)) (s : Shared) (σ : St) (H : Hp) (Q : List V → Hp → Prop), Inv X pins σ H s → t σ H Q → wpAny (model X.prog X.w) X.A (spliced (backTo pos (starEach es X.env))) (AP X pins σ Q) X.xe s
def PS (X : Cx) (st : Stmt) (t : TS) : Prop :=
  ∀ (pins : List (Addr × Obj)) (s : Shared) (σ : St) (H : Hp) (D : Ends), Inv X pins σ H s → t D σ H → wpAny (model X.prog X.w) X.A (exec st X.env) (SP X pins D) X.xe s
def PSs (X : Cx) (st : List Stmt) (t : TS) : Prop :=
  ∀ (pins : List (Addr × Obj)) (s : Shared) (σ : St) (H : Hp) (D : Ends), Inv X pins σ H s → t D σ H → wpAny (model X.prog X.w) X.A (execs st X.env) (SP X pins D) X.xe s
/-- weaken the end -/
theorem thn {α : Type} {t : Sem α} {Q Q' : α → Shared → Prop} {M : Model} {A : Around} {E : Value → Shared → Prop} {s : Shared} (h : wpAny M A t Q E s) (hQ : ∀ a s, Q a s → Q' a s) : wpAny M A t Q' E s := wpAny_mono h hQ fun _ _ x => x
end L2

namespace L2
open PySem PySem.Spec PyProof.Rows
section
variable {X : Cx}


/-! ### names and constants -/
def tVar (i : Nat) : TE := fun σ H Q => ∃ v, σ[i]? = some (some v) ∧ Q v H
def tC (v : V) : TE := fun _ H Q => Q v H
theorem pe_var {i : Nat} {x : Str} {pos : Pos} (hN : X.N[i]? = some x) (hv : Vis X.env.scope x) (hd : (x == ("__debug__" : Str)) = false := by decide) (hcd : (x == ("__classdict__" : Str)) = false := by decide) : PE X (.Name x pos) (tVar i) := by
  intro pins s σ H Q I h
  obtain ⟨v, e, h⟩ := h
  obtain ⟨m, hn, hl⟩ := I.loc
  obtain ⟨u, r, l⟩ := hl i x v hN e hv
  have fin : EP X pins σ Q u s := ⟨v, H, I, r, h⟩
  rcases l with ⟨hk, hm⟩ | ⟨hk, c, hc, hcell⟩
  · exact wpAny_Name (wpAny_loadName_local I.ok.kind hk hn hm fin) hd
  · rcases hk with hk | hk
    · exact wpAny_Name (wpAny_loadName_cell I.ok.kind hk hc hcell fin) hd
    · exact wpAny_Name (wpAny_loadName_free I.ok.kind hk hc hcell fin hcd) hd
theorem pe_int {i j pos} : PE X (.Constant (.int i) j pos) (tC (.int i)) := fun _ _ _ H _ I h => wpAny_Constant_int ⟨.int i, H, I.tok _, ⟨_, rfl⟩, h⟩
theorem pe_bl {b j pos} : PE X (.Constant (.bool b) j pos) (tC (.bl b)) := fun _ _ _ H _ I h => Constant_bool ⟨.bl b, H, I, rfl, h⟩
theorem pe_str {x j pos} : PE X (.Constant (.str x) j pos) (tC (.str x)) := fun _ _ _ H _ I h => Calls.Constant_str ⟨.str x, H, I.tok _, ⟨_, rfl⟩, h⟩

/-- a global name of the def -/
def Gl (X : Cx) (x : Str) : Prop := X.env.kindOf x = some .globalImplicit
theorem ld_glob {E : Value → Shared → Prop} {pins : List (Addr × Obj)} {s : Shared} {σ : St} {H : Hp} {x : Str} {u : Value} {pos : Pos} {Q : Value → Shared → Prop} (I : Inv X pins σ H s) (hg : Gl X x) (hm : X.mg x = some u) (h : Q u s)
    (hd : (x == ("__debug__" : Str)) = false := by decide) : wpAny (model X.prog X.w) X.A (eval (.Name x pos) X.env) Q E s :=
  Calls.Name_function_global I.ok.kind hg (Calls.loadGlobal_global (by rw [I.ok.glob]; exact I.mod.glob.keeps I.bk) hm h) hd
theorem ld_blt {E : Value → Shared → Prop} {pins : List (Addr × Obj)} {s : Shared} {σ : St} {H : Hp} {x : Str} {u : Value} {pos : Pos} {Q : Value → Shared → Prop} (I : Inv X pins σ H s) (hg : Gl X x) (hm : X.mg x = none) (hv : bootBuiltins x = some u) (h : Q u s)
    (hn : x ≠ "__name__" := by decide) (hd : (x == ("__debug__" : Str)) = false := by decide) : wpAny (model X.prog X.w) X.A (eval (.Name x pos) X.env) Q E s := by
  obtain ⟨mb, h1, h2⟩ := I.mod.blt
  exact Calls.Name_function_global I.ok.kind hg (Calls.loadGlobal_builtin (by rw [I.ok.glob]; exact I.mod.glob.keeps I.bk) hm (by rw [I.ok.blt]; exact h1.keeps I.bk) ((h2 x hn).trans hv) h) hd
/-- a module's constant, a class, a function, as a value -/
theorem pe_glob {x : Str} {v : V} {u : Value} {pos : Pos} (hg : Gl X x) (hm : X.mg x = some u) (r : RelV v u) (hd : (x == ("__debug__" : Str)) = false := by decide) : PE X (.Name x pos) (tC v) :=
  fun _ _ _ H _ I h => ld_glob I hg hm ⟨v, H, I, r, h⟩ hd

/-! ### arithmetic -/
/-- two ints -/
def t2I (ta tb : TE) (k : Int → Int → Hp → Prop) : St → Hp → Prop := fun σ H => ta σ H fun x H1 => tb σ H1 fun y H2 => ∃ i j, x = .int i ∧ y = .int j ∧ k i j H2
def tAdd (ta tb : TE) : TE := fun σ H Q => t2I ta tb (fun i j H2 => Q (.int (i + j)) H2) σ H
def tSub (ta tb : TE) : TE := fun σ H Q => t2I ta tb (fun i j H2 => Q (.int (i - j)) H2) σ H
/-- the left factor below 2^64 -/
def tMul (ta tb : TE) : TE := fun σ H Q => t2I ta tb (fun i j H2 => (-(2 ^ 64) < i ∧ i < 2 ^ 64) ∧ Q (.int (i * j)) H2) σ H
variable {a b : Expr} {ta tb : TE} {pos : Pos}

/-! ### comparisons -/
def PC (X : Cx) (op : CmpOp) (a b : Expr) (t : TE) : Prop :=
  ∀ (pins : List (Addr × Obj)) (s : Shared) (σ : St) (H : Hp) (Q : VK), Inv X pins σ H s → t σ H Q →
    wpAny (model X.prog X.w) X.A (eval a X.env) (fun v s₁ => wpAny (model X.prog X.w) X.A (eval b X.env) (fun u s₂ => wpAny (model X.prog X.w) X.A (compareOp op v u) (EP X pins σ Q) X.xe s₂) X.xe s₁) X.xe s
def tCmp (p : Int → Int → Bool) (ta tb : TE) : TE := fun σ H Q => t2I ta tb (fun i j H2 => Q (.bl (p i j)) H2) σ H
abbrev tLt : TE → TE → TE := tCmp fun i j => decide (i < j)
abbrev tLe : TE → TE → TE := tCmp fun i j => decide (i ≤ j)
abbrev tGt : TE → TE → TE := tCmp fun i j => decide (j < i)
abbrev tGe : TE → TE → TE := tCmp fun i j => decide (j ≤ i)
abbrev tEqI : TE → TE → TE := tCmp fun i j => decide (i = j)
abbrev tNeI : TE → TE → TE := tCmp fun i j => !decide (i = j)
/-- is None -/
def tIsN (ta : TE) : TE := fun σ H Q => ta σ H fun x H1 => Q (.bl (decide (x = .non))) H1
def tNotN (ta : TE) : TE := fun σ H Q => ta σ H fun x H1 => Q (.bl (!decide (x = .non))) H1
/-- a comparison as a value, as a test -/
def tB (t : TE) : TT := fun σ H Q => t σ H fun x H1 => ∃ c, x = .bl c ∧ Q c H1
/-- an expression whose value is a bool, as a test -/
theorem pt_val {e : Expr} {t : TE} (h : PE X e t) (he : ∀ whole, isTrue e X.env whole = (do let v ← whole; standAt e.pos; holding [v] (truthy v)) := by intro _; rfl) : PT X e (tB t) := by
  intro pins s σ H Q I hw
  refine isTrue_plain (thn (h pins s σ H _ I hw) fun v s1 ⟨x, H1, I1, r1, q1⟩ => ?_) (he _)
  obtain ⟨d, rfl, q⟩ := q1
  cases r1
  exact wpAny_truthy_bool ⟨H1, I1, q⟩

/-! ### and, or, not -/
variable {tA tB' : TT} {rest : List Expr}
def tAnd (t u : TT) : TT := fun σ H Q => t σ H fun c H1 => if c = true then u σ H1 Q else Q false H1
def tOr (t u : TT) : TT := fun σ H Q => t σ H fun c H1 => if c = true then Q true H1 else u σ H1 Q
def tNot (t : TT) : TT := fun σ H Q => t σ H fun c H1 => Q (!c) H1
theorem pw_and1 (ha : PT X a tA) : PW X (.BoolOp .And [a] pos) tA := by
  intro wh pins s σ H Q I h
  refine isTrue_and (thn (ha pins s σ H Q I h) fun c s1 e => ?_)
  cases c with
  | true => exact isTrue_and_nil e
  | false => exact e
theorem pw_and (ha : PT X a tA) (hb : PW X (.BoolOp .And (b :: rest) pos) tB') : PW X (.BoolOp .And (a :: b :: rest) pos) (tAnd tA tB') := by
  intro wh pins s σ H Q I h
  refine isTrue_and (thn (ha pins s σ H _ I h) fun c s1 ⟨H1, I1, q1⟩ => ?_)
  cases c with
  | true => exact hb wh pins s1 σ H1 Q I1 q1
  | false => exact ⟨H1, I1, q1⟩
theorem pt_not (ha : PT X a tA) : PT X (.UnaryOp .Not a pos) (tNot tA) := by
  intro pins s σ H Q I h
  exact isTrue_not (ha pins s σ H (fun c H1 => Q (!c) H1) I h)
/-- .. as values (bools) -/
def tAndV (ta tb : TE) : TE := fun σ H Q => ta σ H fun x H1 => ∃ c, x = .bl c ∧ if c = true then tb σ H1 Q else Q (.bl false) H1
def tOrV (ta tb : TE) : TE := fun σ H Q => ta σ H fun x H1 => ∃ c, x = .bl c ∧ if c = true then Q (.bl true) H1 else tb σ H1 Q
def tNotV (ta : TE) : TE := fun σ H Q => ta σ H fun x H1 => ∃ c, x = .bl c ∧ Q (.bl (!c)) H1
theorem pe_one {op} {t : TE} (h : PE X a t) : PE X (.BoolOp op [a] pos) t := fun pins s σ H Q I hw => BoolOp_one (h pins s σ H Q I hw)
theorem pe_and (ha : PE X a ta) (hb : PE X (.BoolOp .And (b :: rest) pos) tb) : PE X (.BoolOp .And (a :: b :: rest) pos) (tAndV ta tb) := by
  intro pins s σ H Q I h
  refine BoolOp_and (thn (ha pins s σ H _ I h) fun v s1 ⟨x, H1, I1, r1, q1⟩ => ?_)
  obtain ⟨c, rfl, q1⟩ := q1
  cases r1
  refine wpAny_truthy_bool ?_
  cases c with
  | true => exact hb pins s1 σ H1 Q I1 q1
  | false => exact ⟨.bl false, H1, I1, rfl, q1⟩
/-- a if t else b -/
def tIf (t : TT) (ta tb : TE) : TE := fun σ H Q => t σ H fun c H1 => if c = true then ta σ H1 Q else tb σ H1 Q
end
end L2

namespace L2
open PySem PySem.Spec PyProof.Rows

/-! ### a list, a tuple that is read: tracked, frozen, or an object of the module -/
def SqL (K : PySem.W.Frag) (H : Hp) (a : Addr) (xs : List V) : Prop :=
  Rd H a (.lst xs) ∨
    ∃ (o : Obj) (its : Array Value) (n : Nat), K.lookup a = some o ∧ o.cls = .type "list" ∧ o.dict = none ∧ o.data = .seq its n ∧ its.size ≤ sizeLine ∧ Vals xs its.toList
def SqT (K : PySem.W.Frag) (H : Hp) (a : Addr) (xs : List V) : Prop :=
  Rd H a (.tup xs) ∨
    ∃ (o : Obj) (its : Array Value) (n : Nat), K.lookup a = some o ∧ o.cls = .type "tuple" ∧ o.data = .seq its n ∧ its.size ≤ sizeLine ∧ Vals xs its.toList
def absV : Value → Option V
  | .none => some .non
  | .bool b => some (.bl b)
  | .int i _ => some (.int i)
  | .str x _ => some (.str x)
  | .bytes b _ => some (.byt b)
  | .float b _ => some (.flt b)
  | .ref a => some (.ref a)
  | .type n => some (.ty n)
  | _ => none
theorem RelV.abs {x : V} {u : Value} (r : RelV x u) : absV u = some x := by
  cases x with
  | non => cases r; rfl
  | bl _ => cases r; rfl
  | int _ => obtain ⟨t, rfl⟩ := r; rfl
  | str _ => obtain ⟨t, rfl⟩ := r; rfl
  | byt _ => obtain ⟨t, rfl⟩ := r; rfl
  | flt _ => obtain ⟨t, rfl⟩ := r; rfl
  | ref _ => cases r; rfl
  | ty _ => cases r; rfl
theorem RelV.inj {x y : V} {u : Value} (r : RelV x u) (q : RelV y u) : x = y := Option.some.inj (r.abs.symm.trans q.abs)
theorem Vals.inj : ∀ {xs ys : List V} {us : List Value}, Vals xs us → Vals ys us → xs = ys
  | _, _, _, .nil, .nil => rfl
  | _, _, _, .cons r t, .cons r' t' => by rw [r.inj r', Vals.inj t t']
section
variable {X : Cx} {pins : List (Addr × Obj)} {σ : St} {H : Hp} {s : Shared} {a : Addr} {xs ys : List V}
theorem SqL.of {K : PySem.W.Frag} (h : H a = some (.lst xs)) : SqL K H a xs := .inl (.inl h)
theorem SqT.of {K : PySem.W.Frag} (h : H a = some (.tup xs)) : SqT K H a xs := .inl (.inl h)
theorem Inv.list (I : Inv X pins σ H s) (h : SqL X.K H a xs) : ∃ its : List Value, Vals xs its ∧ PlainL s.heap a its.toArray ∧ xs.length ≤ sizeLine := by
  rcases h with h | ⟨o, its, n, hk, hc, hd, hs, hz, r⟩
  · obtain ⟨z, its, n, r, e⟩ := h.ok I.hok
    exact ⟨its, r, ⟨_, n, e, rfl, rfl, rfl⟩, z⟩
  · refine ⟨its.toList, r, ⟨o, n, I.kIn a o hk, hc, hd, by simpa using hs⟩, ?_⟩
    have e := r.length
    simp only [Array.length_toList] at e
    omega
theorem Inv.tuple (I : Inv X pins σ H s) (h : SqT X.K H a xs) : ∃ its : List Value, Vals xs its ∧ IsTup s.heap a its.toArray ∧ xs.length ≤ sizeLine := by
  rcases h with h | ⟨o, its, n, hk, hc, hs, hz, r⟩
  · obtain ⟨z, its, r, p⟩ := h.ok I.hok
    exact ⟨its, r, p, z⟩
  · refine ⟨its.toList, r, ⟨o, I.kIn a o hk, hc, n, by simpa using hs⟩, ?_⟩
    have e := r.length
    simp only [Array.length_toList] at e
    omega
theorem Inv.list_inj (I : Inv X pins σ H s) (h : SqL X.K H a xs) (h' : SqL X.K H a ys) : xs = ys := by
  obtain ⟨its, r, ⟨o, n, e, _, _, d⟩, _⟩ := I.list h
  obtain ⟨its', r', ⟨o', n', e', _, _, d'⟩, _⟩ := I.list h'
  rw [e] at e'; cases e'
  rw [d] at d'
  injection d' with d1 _
  have : its = its' := by simpa using congrArg Array.toList d1
  subst this
  exact r.inj r'
theorem Inv.tuple_inj (I : Inv X pins σ H s) (h : SqT X.K H a xs) (h' : SqT X.K H a ys) : xs = ys := by
  obtain ⟨its, r, ⟨o, e, _, n, d⟩, _⟩ := I.tuple h
  obtain ⟨its', r', ⟨o', e', _, n', d'⟩, _⟩ := I.tuple h'
  rw [e] at e'; cases e'
  rw [d] at d'
  injection d' with d1 _
  have : its = its' := by simpa using congrArg Array.toList d1
  subst this
  exact r.inj r'
end

/-! ### another wish about exceptions -/
abbrev Cx.wish (X : Cx) (E : Value → Shared → Prop) : Cx := { X with xe := E }
/-- no exception leaves -/
abbrev Cx.nox (X : Cx) : Cx := X.wish fun _ _ => False
theorem Cx.Ok.wish {X : Cx} (ok : X.Ok) (E : Value → Shared → Prop) : (X.wish E).Ok :=
  ⟨ok.mod, ok.kind, ok.glob, ok.blt, ok.above, ok.inj, ok.has, ok.cab, ok.hd, ok.frames, ok.stk, ok.exf, ok.bs, ok.bsz, ok.noex, ok.exfs, ok.funs, ok.frf⟩
theorem Cx.Ok.unwish {X : Cx} {E : Value → Shared → Prop} (ok : (X.wish E).Ok) : X.Ok :=
  ⟨ok.mod, ok.kind, ok.glob, ok.blt, ok.above, ok.inj, ok.has, ok.cab, ok.hd, ok.frames, ok.stk, ok.exf, ok.bs, ok.bsz, ok.noex, ok.exfs, ok.funs, ok.frf⟩
section
variable {X : Cx} {pins : List (Addr × Obj)} {σ : St} {H : Hp} {s : Shared} {E : Value → Shared → Prop}
theorem Inv.wish (I : Inv X pins σ H s) (E : Value → Shared → Prop) : Inv (X.wish E) pins σ H s := ⟨I.ok.wish E, I.os, I.bare, I.base, I.loc, I.cell, I.free, I.freeC, I.pin, I.hok, I.len⟩
theorem Inv.unwish (I : Inv (X.wish E) pins σ H s) : Inv X pins σ H s := ⟨I.ok.unwish, I.os, I.bare, I.base, I.loc, I.cell, I.free, I.freeC, I.pin, I.hok, I.len⟩
theorem SP.unwish {D : Ends} {f : Flow} {s' : Shared} (h : SP (X.wish E) pins D f s') : SP X pins D f s' := by
  cases f with
  | next => obtain ⟨σ', H', I, q⟩ := h; exact ⟨σ', H', I.unwish, q⟩
  | brk => obtain ⟨σ', H', I, q⟩ := h; exact ⟨σ', H', I.unwish, q⟩
  | cont => obtain ⟨σ', H', I, q⟩ := h; exact ⟨σ', H', I.unwish, q⟩
  | ret u => obtain ⟨v, σ', H', I, r, q⟩ := h; exact ⟨v, σ', H', I.unwish, r, q⟩
theorem PSs.nox {st : List Stmt} {t : TS} (h : PSs X.nox st t) : PSs X st t := fun pins s σ H D I hw =>
  wpAny_mono (h pins s σ H D (I.wish _) hw) (fun _ _ q => q.unwish) fun _ _ z => False.elim z
end

/-! ### blocks and small statements -/
section
variable {X : Cx} {st : Stmt} {rest : List Stmt} {t u : TS} {e : Expr} {te : TE} {pos : Pos}
def tNext : TS := fun D σ H => D.nx σ H
def tSeq (t u : TS) : TS := fun D σ H => t { D with nx := u D } σ H
theorem pss_nil : PSs X [] tNext := fun _ _ σ H _ I h => wpAny_execs_nil ⟨σ, H, I, h⟩
theorem pss_cons (h1 : PS X st t) (h2 : PSs X rest u) : PSs X (st :: rest) (tSeq t u) := by
  intro pins s σ H D I h
  refine wpAny_execs_cons (thn (h1 pins s σ H { D with nx := u D } I h) fun f s1 q => ?_)
  cases f with
  | next =>
    obtain ⟨σ', H', I', q⟩ := q
    exact h2 pins s1 σ' H' D I' q
  | ret v => exact q
  | brk => exact q
  | cont => exact q
theorem pss_one (h1 : PS X st t) : PSs X [st] t := by
  intro pins s σ H D I h
  refine wpAny_execs_cons (thn (h1 pins s σ H D I h) fun f s1 q => ?_)
  cases f with
  | next => exact wpAny_execs_nil q
  | ret v => exact q
  | brk => exact q
  | cont => exact q
def tBreak : TS := fun D σ H => D.bk σ H
def tCont : TS := fun D σ H => D.ct σ H
/-- in a def's body nothing is shown -/
theorem Inv.quiet {pins : List (Addr × Obj)} {σ : St} {H : Hp} {s : Shared} (I : Inv X pins σ H s) : interactive X.env = false := by simp [interactive, I.ok.kind]
/-- an expression whose value is dropped -/
def tDrop (te : TE) : TS := fun D σ H => te σ H fun _ H1 => D.nx σ H1
theorem ps_expr (he : PE X e te) (hs : swapsWith e none pos.line X.env = pure false := by rfl) : PS X (.Expr e pos) (tDrop te) := by
  intro pins s σ H D I h
  exact wpAny_Expr_any (thn (he pins s σ H _ I h) fun v s1 ⟨x, H1, I1, r1, q1⟩ => ⟨σ, H1, I1, q1⟩) I.quiet hs
def tRet (te : TE) : TS := fun D σ H => te σ H D.rt
theorem ps_ret (he : PE X e te) : PS X (.Return (some e) pos) (tRet te) := by
  intro pins s σ H D I h
  exact wpAny_Return_some (thn (he pins s σ H _ I h) fun v s1 ⟨x, H1, I1, r1, q1⟩ => ⟨x, σ, H1, I1, r1, q1⟩)
def tRetN : TS := fun D _ H => D.rt .non H
def tIfS (c : TT) (t u : TS) : TS := fun D σ H => c σ H fun b H1 => if b = true then t D σ H1 else u D σ H1
theorem ps_if {c : Expr} {a b : List Stmt} {tc : TT} (hc : PT X c tc) (ha : PSs X a t) (hb : PSs X b u) : PS X (.If c a b pos) (tIfS tc t u) := by
  intro pins s σ H D I h
  refine wpAny_If (thn (hc pins s σ H _ I h) fun d s1 ⟨H1, I1, q1⟩ => ?_)
  cases d with
  | true => exact ha pins s1 σ H1 D I1 q1
  | false => exact hb pins s1 σ H1 D I1 q1
/-- code that the proof never comes to -/
def tNever : TS := fun _ _ _ => False
end

/-! ### targets -/
abbrev TG := V → St → Hp → (St → Hp → Prop) → Prop
abbrev TGs := List V → St → Hp → (St → Hp → Prop) → Prop
def PG (X : Cx) (target : Expr) (t : TG) : Prop :=
  ∀ (pins : List (Addr × Obj)) (s : Shared) (σ : St) (H : Hp) (v : V) (u : Value) (Q : St → Hp → Prop), Inv X pins σ H s → RelV v u → t v σ H Q →
    wpAny (model X.prog X.w) X.A (assign target X.env u) (fun _ s' => ∃ σ' H', Inv X pins σ' H' s' ∧ Q σ' H') X.xe s
/-- several targets, one after another -/
def PGs (X : Cx) (ts : List Expr) (t : TGs) : Prop :=
  ∀ (pins : List (Addr × Obj)) (s : Shared) (σ : St) (H : Hp) (vs : List V) (us : List Value) (Q : St → Hp → Prop), Inv X pins σ H s → Vals vs us → t vs σ H Q →
    wpAny (model X.prog X.w) X.A (assignInOrder ((assignEach ts X.env).map (·.2)) us) (fun _ s' => ∃ σ' H', Inv X pins σ' H' s' ∧ Q σ' H') X.xe s
/-- o[i] = v, by values -/
abbrev TSet := V → V → V → Hp → (Hp → Prop) → Prop
def PSet (X : Cx) (t : TSet) : Prop :=
  ∀ (pins : List (Addr × Obj)) (s : Shared) (σ : St) (H : Hp) (o i v : V) (ov iv u : Value) (Q : Hp → Prop), Inv X pins σ H s → RelV o ov → RelV i iv → RelV v u → t o i v H Q →
    wpAny (model X.prog X.w) X.A (setItem ov iv u) (fun _ s' => ∃ H', Inv X pins σ H' s' ∧ Q H') X.xe s
/-- a op= b, by values -/
abbrev TIp := V → V → Hp → VK → Prop
def PIp (X : Cx) (op : Operator) (t : TIp) : Prop :=
  ∀ (pins : List (Addr × Obj)) (s : Shared) (σ : St) (H : Hp) (x y : V) (v u : Value) (Q : VK), Inv X pins σ H s → RelV x v → RelV y u → t x y H Q →
    wpAny (model X.prog X.w) X.A (inplaceOp op v u) (EP X pins σ Q) X.xe s
section
variable {X : Cx} {pos : Pos}
def gName (i : Nat) : TG := fun v σ H Q => Q (σ.set i (some v)) H
theorem pg_name {i : Nat} {x : Str} (hN : X.N.Nodup) (hi : X.N[i]? = some x) (hx : Loc X.env.scope x) (hf : X.fn x = true ∨ X.env.scope.names.lookup x = some .local := by first | exact .inl rfl | exact .inr rfl | assumption) : PG X (.Name x pos) (gName i) := by
  intro pins s σ H v u Q I r h
  exact wpAny_assign_Name (store_ok I hN hi hx r (fun s' I' => ⟨_, H, I', h⟩) hf)
def gNil : TGs := fun vs σ H Q => vs = [] ∧ Q σ H
def gCons (t : TG) (u : TGs) : TGs := fun vs σ H Q => ∃ v r, vs = v :: r ∧ t v σ H fun σ' H' => u r σ' H' Q
theorem pgs_nil : PGs X [] gNil := by
  intro pins s σ H vs us Q I r h
  obtain ⟨e, h⟩ := h
  subst e
  cases r
  exact assignInOrder_nil ⟨σ, H, I, h⟩
theorem pgs_cons {e : Expr} {es : List Expr} {t : TG} {u : TGs} (h1 : PG X e t) (h2 : PGs X es u)
    (hs : (assignEach (e :: es) X.env).map (·.2) = assign e X.env :: (assignEach es X.env).map (·.2) := by rfl) : PGs X (e :: es) (gCons t u) := by
  intro pins s σ H vs us Q I r h
  obtain ⟨v, vr, e1, h⟩ := h
  subst e1
  cases r with
  | cons r rr =>
    rw [hs]
    refine assignInOrder_cons (thn (h1 pins s σ H _ _ _ I r h) fun _ s1 ⟨σ1, H1, I1, q1⟩ => ?_)
    exact h2 pins s1 σ1 H1 _ _ Q I1 rr q1
/-- (a, b, ..) = a tuple of that length -/
def gTup (K : PySem.W.Frag) (n : Nat) (t : TGs) : TG := fun v σ H Q => ∃ a xs, v = .ref a ∧ SqT K H a xs ∧ xs.length = n ∧ t xs σ H Q
theorem pg_tup {es : List Expr} {k : Nat} {t : TGs} {n : Nat} (hc : X.calm = true) (h : PGs X es t)
    (hn : (assignEach es X.env).length = n := by rfl) (hst : (assignEach es X.env).findIdx? (·.1) = none := by rfl) : PG X (.Tuple es k pos) (gTup X.K n t) := by
  intro pins s σ H v u Q I r hw
  obtain ⟨a, xs, e1, hq, hl, hw⟩ := hw
  subst e1
  cases r
  obtain ⟨its, rv, ht, hz⟩ := I.tuple hq
  refine assign_Tuple_tuple (I.ok.hd hc) ht (by simp [hn, ← hl, rv.length]) hst fun h' hx => ?_
  have I1 : Inv X pins σ H { s with heap := h' } := I.kept (t' := s.toks) fun b o e => hx b o (Nat.ne_of_lt (Heap.lt_size e)) e
  exact h pins _ σ H xs _ Q I1 (by simpa using rv) hw
/-- o[i] = .. -/
def gSub (to ti : TE) (t : TSet) : TG := fun v σ H Q => to σ H fun o H1 => ti σ H1 fun i H2 => t o i v H2 fun H3 => Q σ H3
/-- target = value -/
def tAsg (te : TE) (g : TG) : TS := fun D σ H => te σ H fun x H1 => g x σ H1 D.nx
/-- name = value -/
theorem ps_set {i : Nat} {x : Str} {e : Expr} {te : TE} {pos' : Pos} (hN : X.N.Nodup) (hi : X.N[i]? = some x) (hx : Loc X.env.scope x) (he : PE X e te) (hs : swapsWith e (some (.Name x pos')) pos.line X.env = pure false := by rfl) (hf : X.fn x = true ∨ X.env.scope.names.lookup x = some .local := by first | exact .inl rfl | exact .inr rfl | assumption) :
    PS X (.Assign [.Name x pos'] e pos) (tAsg te (gName i)) := by
  intro pins s σ H D I h
  refine wpAny_Assign_Name (thn (he pins s σ H _ I h) fun v s1 ⟨y, H1, I1, r1, q1⟩ => ?_) hs
  exact store_ok I1 hN hi hx r1 (fun s2 I2 => ⟨_, H1, I2, q1⟩) hf
/-- a, b = x, y with plain local names: stored from the right; the pair itself is not tracked (the opening rows as in PyProof/Rows/TupAssign.lean:23) -/
def tPar (i j : Nat) (ta : TA) : TS := fun D σ H => ta σ H fun vs H1 => ∃ v w, vs = [v, w] ∧ D.nx ((σ.set i (some v)).set j (some w)) H1
/-- name op= e -/
def tAug (i : Nat) (te : TE) (ti : TIp) : TS := fun D σ H => ∃ x, σ[i]? = some (some x) ∧ te σ H fun y H1 => ti x y H1 fun z H2 => D.nx (σ.set i (some z)) H2
theorem ps_aug {i : Nat} {x : Str} {e : Expr} {te : TE} {op : Operator} {ti : TIp} {pos' : Pos} (hN : X.N.Nodup) (hi : X.N[i]? = some x) (hx : Loc X.env.scope x) (he : PE X e te) (ho : PIp X op ti) (hf : X.fn x = true ∨ X.env.scope.names.lookup x = some .local := by first | exact .inl rfl | exact .inr rfl | assumption) :
    PS X (.AugAssign (.Name x pos') op e pos) (tAug i te ti) := by
  intro pins s σ H D I h
  obtain ⟨v, e1, h⟩ := h
  obtain ⟨m, hn, hl⟩ := I.loc
  have vis : Vis X.env.scope x := by rcases hx with k | k; exact .inl k; exact .inr (.inl k)
  obtain ⟨u, r, l⟩ := hl i x v hi e1 vis
  refine wpAny_AugAssign_Name ?_
  have go : wpAny (model X.prog X.w) X.A (eval e X.env) (fun w s₂ => wpAny (model X.prog X.w) X.A (inplaceOp op u w) (fun r s₃ => wpAny (model X.prog X.w) X.A (storeName X.env x r) (fun _ => SP X pins D .next) X.xe s₃) X.xe s₂) X.xe s := by
    refine thn (he pins s σ H _ I h) fun w s1 ⟨y, H1, I1, r1, q1⟩ => ?_
    refine thn (ho pins s1 σ H1 v y u w _ I1 r r1 q1) fun z s2 ⟨zv, H2, I2, r2, q2⟩ => ?_
    exact store_ok I2 hN hi hx r2 (fun s3 I3 => ⟨_, H2, I3, q2⟩) hf
  rcases l with ⟨hk, hm⟩ | ⟨hk, c, hc, hcell⟩
  · exact wpAny_loadName_local I.ok.kind hk hn hm go
  · rcases hk with hk | hk
    · exact wpAny_loadName_cell I.ok.kind hk hc hcell go
    · rcases hx with k | k
      · have : X.env.scope.names.lookup x = some .free := hk
        rw [k] at this; cases this
      · have : X.env.scope.names.lookup x = some .free := hk
        rw [k] at this; cases this
/-- o[i] op= e -/
def tAugS (to ti te : TE) (tget : V → V → Hp → VK → Prop) (tip : TIp) (tset : TSet) : TS := fun D σ H => to σ H fun o H1 => ti σ H1 fun i H2 => tget o i H2 fun x H3 => te σ H3 fun y H4 => tip x y H4 fun z H5 => tset o i z H5 fun H6 => D.nx σ H6
/-- o[i], by values -/
def PGet (X : Cx) (t : V → V → Hp → VK → Prop) : Prop :=
  ∀ (pins : List (Addr × Obj)) (s : Shared) (σ : St) (H : Hp) (o i : V) (ov iv : Value) (Q : VK), Inv X pins σ H s → RelV o ov → RelV i iv → t o i H Q →
    wpAny (model X.prog X.w) X.A (getItem ov iv) (EP X pins σ Q) X.xe s
/-- ints -/
def ipI (f : Int → Int → Int) : TIp := fun x y H Q => ∃ i j, x = .int i ∧ y = .int j ∧ Q (.int (f i j)) H
theorem ip_add : PIp X .Add (ipI fun i j => i + j) := by
  intro pins s σ H x y v u Q I r1 r2 h
  obtain ⟨i, j, e1, e2, q⟩ := h
  subst e1; subst e2
  obtain ⟨t, rfl⟩ := r1
  obtain ⟨t', rfl⟩ := r2
  exact iadd_int ⟨.int _, H, I.tok _, ⟨_, rfl⟩, q⟩
end

/-! ### while -/
section
variable {X : Cx} {pos : Pos}
/-- the invariant W with its measure -/
def tWhile (c : TT) (tb : TS) : TS := fun D σ H => ∃ W : Nat → St → Hp → Prop, (∃ m, W m σ H) ∧ ∀ m σ H, W m σ H →
  c σ H fun b H1 => if b = true then ∃ N : St → Hp → Prop, (∀ σ' H', N σ' H' → ∃ m', m' < m ∧ W m' σ' H') ∧ tb { D with nx := N, ct := N, bk := D.nx } σ H1 else D.nx σ H1
theorem ps_while {c : Expr} {body : List Stmt} {tc : TT} {tb : TS} (hp : PassesOwn (model X.prog X.w) X.A X.env X.xe) (hc : PT X c tc) (hb : PSs X body tb) : PS X (.While c body [] pos) (tWhile tc tb) := by
  intro pins s σ H D I h
  obtain ⟨W, ⟨m0, w0⟩, turn⟩ := h
  refine wpAny_While (codeAny_whileLoop (fun n s' => ∃ σ' H', Inv X pins σ' H' s' ∧ W n σ' H') ?_ m0 ⟨σ, H, I, w0⟩)
  rintro n s1 ⟨σ1, H1, I1, w1⟩
  refine wpAny_passesOwn hp (thn (hc pins s1 σ1 H1 _ I1 (turn n σ1 H1 w1)) fun b s2 ⟨H2, I2, q2⟩ => ?_)
  cases b with
  | true =>
    obtain ⟨N, hN, q2⟩ := q2
    rw [if_pos rfl]
    refine wpAny_passesOwn hp (thn (hb pins s2 σ1 H2 _ I2 q2) fun f s3 q3 => ?_)
    cases f with
    | next =>
      obtain ⟨σ3, H3, I3, n3⟩ := q3
      obtain ⟨m', hm, w3⟩ := hN σ3 H3 n3
      exact ⟨m', hm, σ3, H3, I3, w3⟩
    | cont =>
      obtain ⟨σ3, H3, I3, n3⟩ := q3
      obtain ⟨m', hm, w3⟩ := hN σ3 H3 n3
      exact ⟨m', hm, σ3, H3, I3, w3⟩
    | brk => exact q3
    | ret v => exact q3
  | false =>
    rw [if_neg Bool.false_ne_true]
    exact wpAny_execs_nil ⟨σ1, H2, I2, q2⟩
end

/-! ### what a loop or a comprehension walks -/
/-- at turn i: it yields x (the heap may grow), or it stops -/
structure It where
  go : Nat → Hp → Prop
  yld : Nat → Hp → V → Hp → Prop
  stop : Nat → Hp → Prop
/-- the iterator's own objects may turn: they are not the frame's, not pinned, younger than the entry (or a comprehension's own) -/
def FpOk (X : Cx) (pins : List (Addr × Obj)) (H : Hp) (b : Addr) : Prop :=
  H b = none ∧ b ≠ X.env.locals ∧ b ∉ X.fs ∧ (b ∈ X.ex ∨ X.s₀.heap.objs.size ≤ b) ∧ (∀ x c, X.env.cells.lookup x = some c → c ≠ b) ∧ ∀ p ∈ X.pn ++ pins, p.1 ≠ b
theorem Inv.fpOk {X : Cx} {pins : List (Addr × Obj)} {σ : St} {H H' : Hp} {s : Shared} {b : Addr} (I : Inv X pins σ H s) (hb : s.heap.objs.size ≤ b) (hn : H' b = none) : FpOk X pins H' b := by
  refine ⟨hn, Nat.ne_of_gt (Nat.lt_of_lt_of_le I.lt hb), I.nofs hb, .inr (Nat.le_trans I.sz hb), fun x c e z => ?_, fun p hp z => ?_⟩
  · obtain ⟨v, q⟩ := I.cell x c e
    exact absurd (Nat.lt_of_lt_of_le q.lt (by rw [z]; exact hb)) (Nat.lt_irrefl _)
  · exact absurd (Nat.lt_of_lt_of_le (Heap.lt_size (I.pin p hp).1) (by rw [z]; exact hb)) (Nat.lt_irrefl _)
structure Turn (P : Program) (w : World) (K : PySem.W.Frag) (tg : Expr) (J : It) (fp : List Addr) (it : Addr) (tn : Nat → Heap → Prop) : Prop where
  mem : it ∈ fp
  obj : ∀ i h, tn i h → ∀ b ∈ fp, ∃ o, h.get? b = some o ∧ ∀ v, o.data ≠ .cell v
  keep : ∀ i h h', tn i h → (∀ b ∈ fp, ∀ o, h.get? b = some o → h'.get? b = some o) → tn i h'
  item : ∀ (X : Cx), X.prog = P → X.w = w → X.K = K → X.calm = true → ∀ (i : Nat) (pins : List (Addr × Obj)) (s : Shared) (σ : St) (H : Hp) (E : Value → Shared → Prop), Inv X pins σ H s → (∀ b ∈ fp, FpOk X pins H b) → tn i s.heap → J.go i H →
    wpAny (model P w) X.A (pyNext (.ref it)) (fun r s1 => ∃ u, r = some u ∧
      wpAny (model P w) X.A (letOwnedTupleGo tg (.ref it) u) (fun _ s2 => ∃ x H', Inv X pins σ H' s2 ∧ RelV x u ∧ J.yld i H x H' ∧ tn (i + 1) s2.heap ∧ ∀ b ∈ fp, H' b = none) E s1) E s
  done : ∀ (X : Cx), X.prog = P → X.w = w → X.K = K → X.calm = true → ∀ (i : Nat) (pins : List (Addr × Obj)) (s : Shared) (σ : St) (H : Hp) (E : Value → Shared → Prop), Inv X pins σ H s → (∀ b ∈ fp, FpOk X pins H b) → tn i s.heap → J.stop i H →
    wpAny (model P w) X.A (pyNext (.ref it)) (fun r s1 => r = none ∧ Inv X pins σ H s1) E s
  self : ∀ (A : Around) (i : Nat) (s : Shared) (Q : Value → Shared → Prop) (E : Value → Shared → Prop), tn i s.heap → Q (.ref it) s → wpAny (model P w) A (pyIter (.ref it)) Q E s
abbrev TI := St → Hp → (It → Hp → Prop) → Prop
/-- an iterator has come -/
def PIE (X : Cx) (pins : List (Addr × Obj)) (σ : St) (tg : Expr) (R : It → Hp → Prop) (itv : Value) (s2 : Shared) : Prop :=
  ∃ (it : Addr) (fp : List Addr) (tn : Nat → Heap → Prop) (J : It) (H' : Hp), itv = .ref it ∧ Inv X pins σ H' s2 ∧ Turn X.prog X.w X.K tg J fp it tn ∧ tn 0 s2.heap ∧ (∀ b ∈ fp, FpOk X pins H' b) ∧ R J H'
def PI (X : Cx) (tg iter : Expr) (wi : TI) : Prop :=
  ∀ (pins : List (Addr × Obj)) (s : Shared) (σ : St) (H : Hp) (R : It → Hp → Prop), Inv X pins σ H s → wi σ H R →
    wpAny (model X.prog X.w) X.A (eval iter X.env) (fun v s1 => wpAny (model X.prog X.w) X.A (pyIter v) (PIE X pins σ tg R) X.xe s1) X.xe s

/-- the step ahead of the store is nothing for an iterator that keeps no tuple -/
theorem go_of {M : Model} {A : Around} {E : Value → Shared → Prop} {s : Shared} {tg : Expr} {it : Addr} {u : Value} {o : Obj} {n : String} {vs : Array Value} {Q : Unit → Shared → Prop} (ho : s.heap.get? it = some o) (hc : o.cls = .type n) (hd : o.data = .fields vs)
    (hn : ["enumerate", "zip", "dict_itemiterator", "dict_reverseitemiterator", "odict_iterator", "itertools.zip_longest", "itertools.pairwise"].contains n = false) (hQ : Q () s) : wpAny M A (letOwnedTupleGo tg (.ref it) u) Q E s := by
  unfold letOwnedTupleGo
  cases tg <;> first
    | exact wpAny_pure hQ
    | (cases u <;> first
        | exact wpAny_pure hQ
        | (refine wpAny_bind (wpAny_load ho ?_)
           rw [hc, hd]
           show wpAny M A (if (["enumerate", "zip", "dict_itemiterator", "dict_reverseitemiterator", "odict_iterator", "itertools.zip_longest", "itertools.pairwise"].contains n && vs[0]? == some (rawInt _)) = true then _ else _) Q E s
           rw [if_neg (by intro h; rw [hn, Bool.false_and] at h; cases h)]
           exact wpAny_pure hQ))

/-- the list at a, as it stands at each turn (a loop may append to it) -/
def Itl (K : PySem.W.Frag) (a : Addr) : It :=
  ⟨fun i H => ∃ xs x, SqL K H a xs ∧ xs[i]? = some x, fun i H x H' => H' = H ∧ ∀ xs, SqL K H a xs → xs[i]? = some x, fun i H => ∃ xs, SqL K H a xs ∧ xs.length ≤ i⟩
def Itt (K : PySem.W.Frag) (a : Addr) : It :=
  ⟨fun i H => ∃ xs x, SqT K H a xs ∧ xs[i]? = some x, fun i H x H' => H' = H ∧ ∀ xs, SqT K H a xs → xs[i]? = some x, fun i H => ∃ xs, SqT K H a xs ∧ xs.length ≤ i⟩
/-- lo, lo + 1, .. (n of them) -/
def Itr (lo : Int) (n : Nat) : It := ⟨fun i _ => i < n, fun i H x H' => H' = H ∧ x = .int (lo + i), fun i _ => n ≤ i⟩
theorem turn_list {P : Program} {w : World} {K : PySem.W.Frag} {tg : Expr} (a it : Addr) : Turn P w K tg (Itl K a) [it] it (fun i h => h.IsListIter it a i) where
  mem := by simp
  obj := fun i h st b hb => by
    have e : b = it := by simpa using hb
    subst e
    obtain ⟨o, e, c, d⟩ := st
    exact ⟨o, e, fun v z => by rw [d] at z; cases z⟩
  keep := fun i h h' st k => st.at fun o e => k it (by simp) o e
  item := by
    intro X hP hw hK hc i pins s σ H E I hf st hg
    subst hP hw hK
    obtain ⟨xs, x, hq, hx⟩ := hg
    obtain ⟨its, rv, p, hz⟩ := I.list hq
    obtain ⟨u, hu, ru⟩ := rv.get hx
    obtain ⟨f0, f1, f2, f3, f4, f5⟩ := hf it (by simp)
    refine wpAny_pyNext_list_item st p.isList (x := u) (by simpa using hu) fun h' st' sb => ?_
    have I1 : Inv X pins σ H { s with heap := h' } := I.turned (t' := s.toks) (fun b o hb e => (sb.2 b hb).trans e) f0 f1 f3 f4 f5
    obtain ⟨o, e, c, d⟩ := id st'
    exact ⟨u, rfl, go_of (s := { s with heap := h' }) e c d (by decide) ⟨x, H, I1, ru, ⟨rfl, fun ys hy => by rw [I.list_inj hy hq]; exact hx⟩, st', fun b hb => (hf b hb).1⟩⟩
  done := by
    intro X hP hw hK hc i pins s σ H E I hf st hg
    subst hP hw hK
    obtain ⟨xs, hq, hx⟩ := hg
    obtain ⟨its, rv, p, hz⟩ := I.list hq
    obtain ⟨f0, f1, f2, f3, f4, f5⟩ := hf it (by simp)
    have hl := rv.length
    exact wpAny_pyNext_list_end (I.ok.hd hc) st p.isList (by simp; omega) fun h' eb => ⟨rfl, I.turned (t' := s.toks) (fun b o hb e => eb b o hb e) f0 f1 f3 f4 f5⟩
  self := fun _ _ _ _ _ st h => wpAny_pyIter_listiter st h
theorem turn_tuple {P : Program} {w : World} {K : PySem.W.Frag} {tg : Expr} (a it : Addr) : Turn P w K tg (Itt K a) [it] it (fun i h => h.IsTupleIter it a i) where
  mem := by simp
  obj := fun i h st b hb => by
    have e : b = it := by simpa using hb
    subst e
    obtain ⟨o, e, c, d⟩ := st
    exact ⟨o, e, fun v z => by rw [d] at z; cases z⟩
  keep := fun i h h' st k => st.at fun o e => k it (by simp) o e
  item := by
    intro X hP hw hK hc i pins s σ H E I hf st hg
    subst hP hw hK
    obtain ⟨xs, x, hq, hx⟩ := hg
    obtain ⟨its, rv, p, hz⟩ := I.tuple hq
    obtain ⟨u, hu, ru⟩ := rv.get hx
    obtain ⟨f0, f1, f2, f3, f4, f5⟩ := hf it (by simp)
    refine wpAny_pyNext_tuple_item st (show s.heap.IsTuple a its.toArray from p) (x := u) (by simpa using hu) fun h' st' sb => ?_
    have I1 : Inv X pins σ H { s with heap := h' } := I.turned (t' := s.toks) (fun b o hb e => (sb.2 b hb).trans e) f0 f1 f3 f4 f5
    obtain ⟨o, e, c, d⟩ := id st'
    exact ⟨u, rfl, go_of (s := { s with heap := h' }) e c d (by decide) ⟨x, H, I1, ru, ⟨rfl, fun ys hy => by rw [I.tuple_inj hy hq]; exact hx⟩, st', fun b hb => (hf b hb).1⟩⟩
  done := by
    intro X hP hw hK hc i pins s σ H E I hf st hg
    subst hP hw hK
    obtain ⟨xs, hq, hx⟩ := hg
    obtain ⟨its, rv, p, hz⟩ := I.tuple hq
    obtain ⟨f0, f1, f2, f3, f4, f5⟩ := hf it (by simp)
    have hl := rv.length
    exact wpAny_pyNext_tuple_end (I.ok.hd hc) st (show s.heap.IsTuple a its.toArray from p) (by simp; omega) fun h' eb => ⟨rfl, I.turned (t' := s.toks) (fun b o hb e => eb b o hb e) f0 f1 f3 f4 f5⟩
  self := fun _ _ _ _ _ st h => wpAny_pyIter_tupleiter st h
theorem turn_range {P : Program} {w : World} {K : PySem.W.Frag} {tg : Expr} (it : Addr) (lo : Int) (n : Nat) : Turn P w K tg (Itr lo n) [it] it (fun i h => IsRangeIter h it (lo + (i : Nat) * 1) ((n : Int) - (i : Nat)) 1) where
  mem := by simp
  obj := fun i h st b hb => by
    have e : b = it := by simpa using hb
    subst e
    exact ⟨_, st, fun v z => by
      have z' : Data.fields _ = Data.cell v := z
      cases z'⟩
  keep := fun i h h' st k => k it (by simp) _ st
  item := by
    intro X hP hw hK hc i pins s σ H E I hf st hg
    subst hP hw hK
    obtain ⟨f0, f1, f2, f3, f4, f5⟩ := hf it (by simp)
    have W := Walks.range (prog := X.prog) (w := X.w) (I.ok.hd hc) it lo 1 n
    refine W.item i s _ _ hg st fun v h' tk hv st' kk => ?_
    obtain ⟨t, rfl⟩ := hv
    have I1 : Inv X pins σ H { s with heap := h', toks := tk } := I.turned (fun b o hb e => kk b o (by simpa using hb) e) f0 f1 f3 f4 f5
    refine ⟨_, rfl, go_of (s := { s with heap := h', toks := tk }) (n := "range_iterator") st' rfl rfl (by decide) ⟨.int (lo + i), H, I1, ⟨t, ?_⟩, ⟨rfl, rfl⟩, st', fun b hb => (hf b hb).1⟩⟩
    rw [Int.mul_one]
  done := by
    intro X hP hw hK hc i pins s σ H E I hf st hg
    subst hP hw hK
    obtain ⟨f0, f1, f2, f3, f4, f5⟩ := hf it (by simp)
    exact wpAny_pyNext_range_end (I.ok.hd hc) st (by have : n ≤ i := hg; omega) fun h' eb => ⟨rfl, I.turned (t' := s.toks) (fun b o hb e => eb b o hb e) f0 f1 f3 f4 f5⟩
  self := fun _ _ _ _ _ st h => wpAny_pyIter_rangeiter st h
end L2

namespace L2
open PySem PySem.Spec PyProof.Rows
section
variable {X : Cx} {tg : Expr}
def iList (K : PySem.W.Frag) (tl : TE) : TI := fun σ H R => tl σ H fun x H1 => ∃ a, x = .ref a ∧ (∃ xs, SqL K H1 a xs) ∧ R (Itl K a) H1
def iTup (K : PySem.W.Frag) (tl : TE) : TI := fun σ H R => tl σ H fun x H1 => ∃ a, x = .ref a ∧ (∃ xs, SqT K H1 a xs) ∧ R (Itt K a) H1
theorem pi_list {l : Expr} {tl : TE} (hl : PE X l tl) : PI X tg l (iList X.K tl) := by
  intro pins s σ H R I h
  refine thn (hl pins s σ H _ I h) fun v s1 ⟨x, H1, I1, r1, q1⟩ => ?_
  obtain ⟨a, e, ⟨xs, hq⟩, q⟩ := q1
  subst e
  cases r1
  obtain ⟨its, rv, p, hz⟩ := I1.list hq
  refine wpAny_pyIter_list p.isList ?_
  refine ⟨s1.heap.objs.size, [s1.heap.objs.size], _, _, H1, rfl, I1.kept (t' := s1.toks) fun b o e => Heap.get?_push_of_some _ e, turn_list a _, ⟨_, Heap.get?_push_size _ rfl, rfl, rfl⟩, fun b hb => ?_, q⟩
  have e : b = s1.heap.objs.size := by simpa using hb
  subst e
  exact I1.fpOk (Nat.le_refl _) (I1.hok.fresh (Nat.le_refl _))
theorem pi_tup {l : Expr} {tl : TE} (hl : PE X l tl) : PI X tg l (iTup X.K tl) := by
  intro pins s σ H R I h
  refine thn (hl pins s σ H _ I h) fun v s1 ⟨x, H1, I1, r1, q1⟩ => ?_
  obtain ⟨a, e, ⟨xs, hq⟩, q⟩ := q1
  subst e
  cases r1
  obtain ⟨its, rv, p, hz⟩ := I1.tuple hq
  refine wpAny_pyIter_tuple (show s1.heap.IsTuple a its.toArray from p) ?_
  refine ⟨s1.heap.objs.size, [s1.heap.objs.size], _, _, H1, rfl, I1.kept (t' := s1.toks) fun b o e => Heap.get?_push_of_some _ e, turn_tuple a _, ⟨_, Heap.get?_push_size _ rfl, rfl, rfl⟩, fun b hb => ?_, q⟩
  have e : b = s1.heap.objs.size := by simpa using hb
  subst e
  exact I1.fpOk (Nat.le_refl _) (I1.hok.fresh (Nat.le_refl _))
/-- a range object just made, walked -/
theorem range_it {pins : List (Addr × Obj)} {σ : St} {H : Hp} {s : Shared} {R : It → Hp → Prop} {E : Value → Shared → Prop} {lo hi : Int} {t u v : Tok} {tk : Nat} (I : Inv X pins σ H s) (h1 : -(2 ^ 62) ≤ lo) (h2 : lo < 2 ^ 62) (h3 : -(2 ^ 62) ≤ hi) (h4 : hi < 2 ^ 62)
    (q : R (Itr lo (hi - lo).toNat) H) : wpAny (model X.prog X.w) X.A (pyIter (.ref s.heap.objs.size)) (PIE X pins σ tg R) E { s with heap := s.heap.push { cls := .type "range", data := .fields #[.int lo t, .int hi u, .int 1 v] }, toks := tk } := by
  refine wpAny_pyIter_range (IsRange.new ..) (small_one h1 h2 h3 h4) ?_
  have I1 : Inv X pins σ H { s with heap := s.heap.push { cls := .type "range", data := .fields #[.int lo t, .int hi u, .int 1 v] }, toks := tk } := I.kept fun b o e => Heap.get?_push_of_some _ e
  refine ⟨(s.heap.push { cls := .type "range", data := .fields #[.int lo t, .int hi u, .int 1 v] }).objs.size, [(s.heap.push { cls := .type "range", data := .fields #[.int lo t, .int hi u, .int 1 v] }).objs.size], _, _, H, rfl,
    I1.kept (t' := tk) fun b o e => Heap.get?_push_of_some _ e, turn_range _ lo (hi - lo).toNat, ?_, fun b hb => ?_, q⟩
  · have e1 : lo + ((0 : Nat) : Int) * 1 = lo := by simp
    have e2 : (((hi - lo).toNat : Nat) : Int) - ((0 : Nat) : Int) = Builtin.Range.rangeSize lo hi 1 := by rw [rangeSize_one]; split <;> omega
    show IsRangeIter _ _ (lo + ((0 : Nat) : Int) * 1) ((((hi - lo).toNat : Nat) : Int) - ((0 : Nat) : Int)) 1
    rw [e1, e2]
    exact Heap.get?_push_size _ rfl
  · have e : b = (s.heap.push { cls := .type "range", data := .fields #[.int lo t, .int hi u, .int 1 v] }).objs.size := by simpa using hb
    subst e
    exact I1.fpOk (Nat.le_refl _) (I1.hok.fresh (Nat.le_refl _))
def iRng1 (ta : TA) : TI := fun σ H R => ta σ H fun vs H1 => ∃ j : Int, vs = [.int j] ∧ -(2 ^ 62) ≤ j ∧ j < 2 ^ 62 ∧ R (Itr 0 j.toNat) H1
def iRng2 (ta : TA) : TI := fun σ H R => ta σ H fun vs H1 => ∃ i j : Int, vs = [.int i, .int j] ∧ (-(2 ^ 62) ≤ i ∧ i < 2 ^ 62 ∧ -(2 ^ 62) ≤ j ∧ j < 2 ^ 62) ∧ R (Itr i (j - i).toNat) H1
theorem pi_range1 {a : Expr} {ta : TA} {p pos : Pos} (hg : Gl X "range") (hm : X.mg "range" = none) (ha : PA X [a] ta) (hs : starEach [a] X.env = [(false, eval a X.env)] := by rfl) : PI X tg (.Call (.Name "range" p) [a] [] pos) (iRng1 ta) := by
  intro pins s σ H R I h
  refine Call_ (ld_blt I hg hm boot_range (PyProof.Rows.callWith_type1 (thn (ha pos pins s σ H _ I h) fun us s1 ⟨vs, H1, I1, r1, q1⟩ => ?_) hs rfl))
  obtain ⟨j, e, q1, q2, q⟩ := q1
  subst e
  cases r1 with
  | cons r rr =>
    cases rr
    obtain ⟨t, rfl⟩ := r
    exact call_range_1 (range_it I1 (by omega) (by omega) q1 q2 (by simpa using q))

/-! ### for -/
/-- W: the invariant by the turn and a measure; N: what the body is to reach -/
def tFor (wi : TI) (g : TG) (tb : TS) : TS := fun D σ H => wi σ H fun J H1 => ∃ W : Nat → Nat → St → Hp → Prop, (∃ m, W 0 m σ H1) ∧ ∀ i m σ H, W i m σ H →
  (J.stop i H ∧ D.nx σ H) ∨ (J.go i H ∧ ∃ N : St → Hp → Prop, (∀ σ' H', N σ' H' → ∃ m', m' < m ∧ W (i + 1) m' σ' H') ∧ ∀ x H', J.yld i H x H' → g x σ H' fun σ2 H2 => tb { D with nx := N, ct := N, bk := D.nx } σ2 H2)
/-- the records at fp as they stand -/
def pinsAt (fp : List Addr) (h : Heap) : List (Addr × Obj) := fp.filterMap fun b => (h.get? b).map fun o => (b, o)
theorem mem_pinsAt {fp : List Addr} {h : Heap} {b : Addr} {o : Obj} (hb : b ∈ fp) (e : h.get? b = some o) : (b, o) ∈ pinsAt fp h := List.mem_filterMap.mpr ⟨b, hb, by rw [e]; rfl⟩
theorem of_pinsAt {fp : List Addr} {h : Heap} {p : Addr × Obj} (hp : p ∈ pinsAt fp h) : p.1 ∈ fp ∧ h.get? p.1 = some p.2 := by
  obtain ⟨b, hb, e⟩ := List.mem_filterMap.mp hp
  cases q : h.get? b with
  | none => rw [q] at e; cases e
  | some o =>
    rw [q] at e
    have e' : (b, o) = p := Option.some.inj e
    subst e'
    exact ⟨hb, q⟩
theorem Inv.pinned {pins : List (Addr × Obj)} {σ : St} {H : Hp} {s : Shared} {fp : List Addr} (I : Inv X pins σ H s) (hf : ∀ b ∈ fp, FpOk X pins H b) (ho : ∀ b ∈ fp, ∃ o, s.heap.get? b = some o ∧ ∀ v, o.data ≠ .cell v) : Inv X (pins ++ pinsAt fp s.heap) σ H s :=
  I.pins_of fun p hp => (List.mem_append.mp hp).elim (fun z => I.pin p (List.mem_append_right _ z)) fun z => by
    obtain ⟨hb, e⟩ := of_pinsAt z
    obtain ⟨f0, f1, f2, _⟩ := hf p.1 hb
    obtain ⟨o, e', d⟩ := ho p.1 hb
    rw [e] at e'; cases e'
    exact ⟨e, f0, f1, f2, d⟩
theorem Inv.unpinned {pins pl : List (Addr × Obj)} {σ : St} {H : Hp} {s : Shared} (I : Inv X (pins ++ pl) σ H s) : Inv X pins σ H s := I.pins_of fun p hp => I.pin p (List.mem_append_right _ (List.mem_append_left _ hp))
theorem ps_for {iter : Expr} {body : List Stmt} {wi : TI} {g : TG} {tb : TS} {pos : Pos} (hp : PassesOwn (model X.prog X.w) X.A X.env X.xe) (hc : X.calm = true) (hi : PI X tg iter wi) (hg : PG X tg g) (hb : PSs X body tb)
    (hs : ∀ x, foldedSetIterable iter X.env x = pure x := by intro _; rfl) : PS X (.For tg iter body [] pos) (tFor wi g tb) := by
  intro pins s σ H D I h
  refine wpAny_For (thn (hi pins s σ H _ I h) fun v s1 h1 => thn h1 fun itv s2 h2 => ?_) hs
  obtain ⟨it, fp, tn, J, H2, e, I2, T, st2, f2, W, ⟨m0, w0⟩, turn⟩ := h2
  subst e
  -- what stays true of the iterator's objects through the loop
  have stat : ∀ {H' : Hp}, (∀ b ∈ fp, H' b = none) → ∀ b ∈ fp, FpOk X pins H' b := fun hn b hb => ⟨hn b hb, (f2 b hb).2⟩
  refine codeAny_forLoop_any (fun n s' => ∃ i σ' H', Inv X pins σ' H' s' ∧ tn i s'.heap ∧ (∀ b ∈ fp, H' b = none) ∧ W i n σ' H') ?_ m0 ⟨0, σ, H2, I2, st2, fun b hb => (f2 b hb).1, w0⟩
  rintro n s3 ⟨i, σ3, H3, I3, st3, fr3, w3⟩
  rcases turn i n σ3 H3 w3 with ⟨stop, qn⟩ | ⟨go, N, hN, step⟩
  · refine wpAny_passesOwn hp (thn (T.done X rfl rfl rfl hc i pins s3 σ3 H3 X.xe I3 (stat fr3) st3 stop) fun r s4 ⟨hr, I4⟩ => ?_)
    subst hr
    exact wpAny_execs_nil ⟨σ3, H3, I4, qn⟩
  · refine wpAny_passesOwn hp (thn (T.item X rfl rfl rfl hc i pins s3 σ3 H3 X.xe I3 (stat fr3) st3 go) fun r s4 ⟨u, hr, h4⟩ => ?_)
    subst hr
    refine wpAny_passesOwn hp (thn h4 fun _ s5 ⟨x, H5, I5, r5, y5, st5, fr5⟩ => ?_)
    have I5' := I5.pinned (stat fr5) (T.obj _ _ st5)
    refine wpAny_passesOwn hp (thn (hg _ s5 σ3 H5 x u _ I5' r5 (step x H5 y5)) fun _ s6 ⟨σ6, H6, I6, q6⟩ => ?_)
    refine wpAny_passesOwn hp (thn (hb _ s6 σ6 H6 _ I6 q6) fun f s7 q7 => ?_)
    have again : ∀ {σ7 : St} {H7 : Hp}, Inv X (pins ++ pinsAt fp s5.heap) σ7 H7 s7 → N σ7 H7 → ∃ m, m < n ∧ ∃ i σ' H', Inv X pins σ' H' s7 ∧ tn i s7.heap ∧ (∀ b ∈ fp, H' b = none) ∧ W i m σ' H' := fun {σ7 H7} I7 n7 => by
      obtain ⟨m', hm, w7⟩ := hN σ7 H7 n7
      refine ⟨m', hm, i + 1, σ7, H7, I7.unpinned, T.keep _ _ _ st5 fun b hb o e => (I7.pin (b, o) (List.mem_append_right _ (List.mem_append_right _ (mem_pinsAt hb e)))).1, fun b hb => ?_, w7⟩
      obtain ⟨o, e, d⟩ := T.obj _ _ st5 b hb
      exact (I7.pin (b, o) (List.mem_append_right _ (List.mem_append_right _ (mem_pinsAt hb e)))).2.1
    cases f with
    | next => obtain ⟨σ7, H7, I7, n7⟩ := q7; exact again I7 n7
    | cont => obtain ⟨σ7, H7, I7, n7⟩ := q7; exact again I7 n7
    | brk => obtain ⟨σ7, H7, I7, q7⟩ := q7; exact ⟨σ7, H7, I7.unpinned, q7⟩
    | ret v => obtain ⟨x7, σ7, H7, I7, r7, q7⟩ := q7; exact ⟨x7, σ7, H7, I7.unpinned, r7, q7⟩
end

/-! ### the forms one uses -/
/-- over a list that the body leaves as it is -/
theorem for_list {K : PySem.W.Frag} {a : Addr} {xs : List V} {g : TG} {tb : TS} {D : Ends} {σ : St} {H : Hp} (Pv : Nat → St → Hp → Prop) (h0 : Pv 0 σ H) (hl : ∀ i σ H, i ≤ xs.length → Pv i σ H → SqL K H a xs)
    (hs : ∀ i x σ H, xs[i]? = some x → Pv i σ H → g x σ H fun σ2 H2 => tb { D with nx := Pv (i + 1), ct := Pv (i + 1), bk := D.nx } σ2 H2) (hd : ∀ σ H, Pv xs.length σ H → D.nx σ H) :
    ∃ W : Nat → Nat → St → Hp → Prop, (∃ m, W 0 m σ H) ∧ ∀ i m σ H, W i m σ H →
      ((Itl K a).stop i H ∧ D.nx σ H) ∨ ((Itl K a).go i H ∧ ∃ N : St → Hp → Prop, (∀ σ' H', N σ' H' → ∃ m', m' < m ∧ W (i + 1) m' σ' H') ∧ ∀ x H', (Itl K a).yld i H x H' → g x σ H' fun σ2 H2 => tb { D with nx := N, ct := N, bk := D.nx } σ2 H2) := by
  refine ⟨fun i m σ H => m = xs.length - i ∧ i ≤ xs.length ∧ Pv i σ H, ⟨xs.length, by simp, Nat.zero_le _, h0⟩, ?_⟩
  rintro i m σ H ⟨rfl, hi, p⟩
  have q := hl i σ H hi p
  by_cases hlt : i < xs.length
  · refine .inr ⟨⟨xs, xs[i], q, by simp [hlt]⟩, Pv (i + 1), fun σ' H' p' => ⟨xs.length - (i + 1), by omega, rfl, hlt, p'⟩, fun x H' y => ?_⟩
    obtain ⟨e, y⟩ := y
    subst e
    exact hs i x σ _ (y xs q) p
  · have e : i = xs.length := by omega
    subst e
    exact .inl ⟨⟨xs, q, Nat.le_refl _⟩, hd σ H p⟩
theorem for_tup {K : PySem.W.Frag} {a : Addr} {xs : List V} {g : TG} {tb : TS} {D : Ends} {σ : St} {H : Hp} (Pv : Nat → St → Hp → Prop) (h0 : Pv 0 σ H) (hl : ∀ i σ H, i ≤ xs.length → Pv i σ H → SqT K H a xs)
    (hs : ∀ i x σ H, xs[i]? = some x → Pv i σ H → g x σ H fun σ2 H2 => tb { D with nx := Pv (i + 1), ct := Pv (i + 1), bk := D.nx } σ2 H2) (hd : ∀ σ H, Pv xs.length σ H → D.nx σ H) :
    ∃ W : Nat → Nat → St → Hp → Prop, (∃ m, W 0 m σ H) ∧ ∀ i m σ H, W i m σ H →
      ((Itt K a).stop i H ∧ D.nx σ H) ∨ ((Itt K a).go i H ∧ ∃ N : St → Hp → Prop, (∀ σ' H', N σ' H' → ∃ m', m' < m ∧ W (i + 1) m' σ' H') ∧ ∀ x H', (Itt K a).yld i H x H' → g x σ H' fun σ2 H2 => tb { D with nx := N, ct := N, bk := D.nx } σ2 H2) := by
  refine ⟨fun i m σ H => m = xs.length - i ∧ i ≤ xs.length ∧ Pv i σ H, ⟨xs.length, by simp, Nat.zero_le _, h0⟩, ?_⟩
  rintro i m σ H ⟨rfl, hi, p⟩
  have q := hl i σ H hi p
  by_cases hlt : i < xs.length
  · refine .inr ⟨⟨xs, xs[i], q, by simp [hlt]⟩, Pv (i + 1), fun σ' H' p' => ⟨xs.length - (i + 1), by omega, rfl, hlt, p'⟩, fun x H' y => ?_⟩
    obtain ⟨e, y⟩ := y
    subst e
    exact hs i x σ _ (y xs q) p
  · have e : i = xs.length := by omega
    subst e
    exact .inl ⟨⟨xs, q, Nat.le_refl _⟩, hd σ H p⟩
theorem for_range {lo : Int} {n : Nat} {g : TG} {tb : TS} {D : Ends} {σ : St} {H : Hp} (Pv : Nat → St → Hp → Prop) (h0 : Pv 0 σ H)
    (hs : ∀ i σ H, i < n → Pv i σ H → g (.int (lo + i)) σ H fun σ2 H2 => tb { D with nx := Pv (i + 1), ct := Pv (i + 1), bk := D.nx } σ2 H2) (hd : ∀ σ H, Pv n σ H → D.nx σ H) :
    ∃ W : Nat → Nat → St → Hp → Prop, (∃ m, W 0 m σ H) ∧ ∀ i m σ H, W i m σ H →
      ((Itr lo n).stop i H ∧ D.nx σ H) ∨ ((Itr lo n).go i H ∧ ∃ N : St → Hp → Prop, (∀ σ' H', N σ' H' → ∃ m', m' < m ∧ W (i + 1) m' σ' H') ∧ ∀ x H', (Itr lo n).yld i H x H' → g x σ H' fun σ2 H2 => tb { D with nx := N, ct := N, bk := D.nx } σ2 H2) := by
  refine ⟨fun i m σ H => m = n - i ∧ i ≤ n ∧ Pv i σ H, ⟨n, by simp, Nat.zero_le _, h0⟩, ?_⟩
  rintro i m σ H ⟨rfl, hi, p⟩
  by_cases hlt : i < n
  · refine .inr ⟨hlt, Pv (i + 1), fun σ' H' p' => ⟨n - (i + 1), by omega, rfl, hlt, p'⟩, fun x H' y => ?_⟩
    obtain ⟨e, y⟩ := y
    subst e y
    exact hs i σ _ hlt p
  · have e : i = n := by omega
    subst e
    exact .inl ⟨Nat.le_refl _, hd σ H p⟩
/-- while, by a word and a measure of the state -/
theorem while_by {c : TT} {tb : TS} {D : Ends} {σ : St} {H : Hp} (Pv : St → Hp → Prop) (μ : St → Hp → Nat) (h0 : Pv σ H)
    (hs : ∀ σ H, Pv σ H → c σ H fun b H1 => if b = true then tb { D with nx := fun σ' H' => Pv σ' H' ∧ μ σ' H' < μ σ H, ct := fun σ' H' => Pv σ' H' ∧ μ σ' H' < μ σ H, bk := D.nx } σ H1 else D.nx σ H1)
    (mono : ∀ σ H Q Q', (∀ b H1, Q b H1 → Q' b H1) → c σ H Q → c σ H Q') : tWhile c tb D σ H := by
  refine ⟨fun m σ H => m = μ σ H ∧ Pv σ H, ⟨_, rfl, h0⟩, ?_⟩
  rintro m σ H ⟨rfl, p⟩
  refine mono σ H _ _ (fun b H1 q => ?_) (hs σ H p)
  cases b with
  | true => exact ⟨_, fun σ' H' ⟨p', l⟩ => ⟨_, l, rfl, p'⟩, q⟩
  | false => exact q
end L2

namespace L2
open PySem PySem.Spec PyProof.Rows

abbrev R2 := V → V → Hp → VK → Prop
/-- a two-place operation on values: f is binaryOp op, inplaceOp op or compareOp op -/
def OpR (X : Cx) (f : Value → Value → Sem Value) (r : R2) : Prop :=
  ∀ (pins : List (Addr × Obj)) (s : Shared) (σ : St) (H : Hp) (x y : V) (v u : Value) (Q : VK), Inv X pins σ H s → RelV x v → RelV y u → r x y H Q →
    wpAny (model X.prog X.w) X.A (f v u) (EP X pins σ Q) X.xe s
/-- a one-place operation -/
def UnR (X : Cx) (f : Value → Sem Value) (r : V → Hp → VK → Prop) : Prop :=
  ∀ (pins : List (Addr × Obj)) (s : Shared) (σ : St) (H : Hp) (x : V) (v : Value) (Q : VK), Inv X pins σ H s → RelV x v → r x H Q →
    wpAny (model X.prog X.w) X.A (f v) (EP X pins σ Q) X.xe s
/-- a call of a value that is known (a builtin, a type) with values -/
def CallR (X : Cx) (f : Value) (r : List V → Hp → VK → Prop) : Prop :=
  ∀ (pins : List (Addr × Obj)) (s : Shared) (σ : St) (H : Hp) (xs : List V) (us : List Value) (Q : VK), Inv X pins σ H s → Vals xs us → r xs H Q →
    wpAny (model X.prog X.w) X.A (call f us) (EP X pins σ Q) X.xe s
/-- a value's truth -/
def TruR (X : Cx) (r : V → Hp → (Bool → Hp → Prop) → Prop) : Prop :=
  ∀ (pins : List (Addr × Obj)) (s : Shared) (σ : St) (H : Hp) (x : V) (v : Value) (Q : Bool → Hp → Prop), Inv X pins σ H s → RelV x v → r x H Q →
    wpAny (model X.prog X.w) X.A (truthy v) (TP X pins σ Q) X.xe s

def tOp (r : R2) (ta tb : TE) : TE := fun σ H Q => ta σ H fun x H1 => tb σ H1 fun y H2 => r x y H2 Q
def tUn (r : V → Hp → VK → Prop) (ta : TE) : TE := fun σ H Q => ta σ H fun x H1 => r x H1 Q
/-- ints in, under C, and a value out -/
def rI (C : Int → Int → Prop) (g : Int → Int → V) : R2 := fun x y H Q => ∃ i j, x = .int i ∧ y = .int j ∧ C i j ∧ Q (g i j) H
def rI0 (g : Int → Int → V) : R2 := fun x y H Q => ∃ i j, x = .int i ∧ y = .int j ∧ Q (g i j) H
def rU (g : Int → V) : V → Hp → VK → Prop := fun x H Q => ∃ i, x = .int i ∧ Q (g i) H

section
variable {X : Cx} {a b c : Expr} {ta tb tc : TE} {pos : Pos}

theorem binT (ha : PE X a ta) (hb : PE X b tb) {pins : List (Addr × Obj)} {s : Shared} {σ : St} {H : Hp} {R : V → V → Hp → Prop} (I : Inv X pins σ H s)
    (h : ta σ H fun x H1 => tb σ H1 fun y H2 => R x y H2) {Q : Value → Shared → Prop} {f : Value → Value → Sem Value}
    (hf : ∀ v u s2 x y H2, Inv X pins σ H2 s2 → RelV x v → RelV y u → R x y H2 → wpAny (model X.prog X.w) X.A (f v u) Q X.xe s2) :
    wpAny (model X.prog X.w) X.A (eval a X.env) (fun v s₁ => wpAny (model X.prog X.w) X.A (eval b X.env) (fun u s₂ => wpAny (model X.prog X.w) X.A (f v u) Q X.xe s₂) X.xe s₁) X.xe s := by
  refine thn (ha pins s σ H _ I h) fun v s1 ⟨x, H1, I1, r1, q1⟩ => ?_
  refine thn (hb pins s1 σ H1 _ I1 q1) fun u s2 ⟨y, H2, I2, r2, q2⟩ => ?_
  exact hf v u s2 x y H2 I2 r1 r2 q2

theorem pe_op {op : Operator} {r : R2} (ho : OpR X (binaryOp op) r) (ha : PE X a ta) (hb : PE X b tb) : PE X (.BinOp a op b pos) (tOp r ta tb) := by
  intro pins s σ H Q I h
  exact wpAny_BinOp (binT ha hb I h fun v u s2 x y H2 I2 rx ry q => ho pins s2 σ H2 x y v u Q I2 rx ry q)

/-! ### ints -/
theorem opI {f : Value → Value → Sem Value} {C : Int → Int → Prop} {g : Int → Int → Int}
    (rule : ∀ (i j : Int) (t u : Tok) (s : Shared) (Q : Value → Shared → Prop) (E : Value → Shared → Prop), C i j → Q (.int (g i j) s.toks) { s with toks := s.toks + 1 } → wpAny (model X.prog X.w) X.A (f (.int i t) (.int j u)) Q E s) :
    OpR X f (rI C fun i j => .int (g i j)) := by
  intro pins s σ H x y v u Q I rx ry h
  obtain ⟨i, j, rfl, rfl, hc, q⟩ := h
  obtain ⟨t, rfl⟩ := rx
  obtain ⟨t', rfl⟩ := ry
  exact rule i j t t' s _ _ hc ⟨.int (g i j), H, I.tok _, ⟨_, rfl⟩, q⟩
theorem opI0 {f : Value → Value → Sem Value} {g : Int → Int → Int}
    (rule : ∀ (i j : Int) (t u : Tok) (s : Shared) (Q : Value → Shared → Prop) (E : Value → Shared → Prop), Q (.int (g i j) s.toks) { s with toks := s.toks + 1 } → wpAny (model X.prog X.w) X.A (f (.int i t) (.int j u)) Q E s) :
    OpR X f (rI0 fun i j => .int (g i j)) := by
  intro pins s σ H x y v u Q I rx ry h
  obtain ⟨i, j, rfl, rfl, q⟩ := h
  obtain ⟨t, rfl⟩ := rx
  obtain ⟨t', rfl⟩ := ry
  exact rule i j t t' s _ _ ⟨.int (g i j), H, I.tok _, ⟨_, rfl⟩, q⟩
theorem opB0 {f : Value → Value → Sem Value} {g : Int → Int → Bool}
    (rule : ∀ (i j : Int) (t u : Tok) (s : Shared) (Q : Value → Shared → Prop) (E : Value → Shared → Prop), Q (.bool (g i j)) s → wpAny (model X.prog X.w) X.A (f (.int i t) (.int j u)) Q E s) :
    OpR X f (rI0 fun i j => .bl (g i j)) := by
  intro pins s σ H x y v u Q I rx ry h
  obtain ⟨i, j, rfl, rfl, q⟩ := h
  obtain ⟨t, rfl⟩ := rx
  obtain ⟨t', rfl⟩ := ry
  exact rule i j t t' s _ _ ⟨.bl (g i j), H, I, rfl, q⟩

def CDiv (i j : Int) : Prop := 0 < j ∧ j < 1073741824
def CDivN (i j : Int) : Prop := j ≠ 0 ∧ j.natAbs < 1073741824
def CPow (i j : Int) : Prop := 0 ≤ j ∧ j ≤ 1000000 ∧ i.natAbs < 2 ^ 64
def CMul (i j : Int) : Prop := (-(2 ^ 64) < i ∧ i < 2 ^ 64) ∨ (-(2 ^ 64) < j ∧ j < 2 ^ 64)
theorem CMul.ok {i j : Int} (h : CMul i j) : IntMulOk i j := by
  rcases h with ⟨h1, h2⟩ | ⟨h1, h2⟩
  · exact .of_left (intBits_le_64 h1 h2)
  · exact .of_right (intBits_le_64 h1 h2)

theorem op_add : OpR X (binaryOp .Add) (rI0 fun i j => .int (i + j)) := opI0 fun _ _ _ _ _ _ _ q => add_int q
theorem op_sub : OpR X (binaryOp .Sub) (rI0 fun i j => .int (i - j)) := opI0 fun _ _ _ _ _ _ _ q => sub_int q
theorem op_mul : OpR X (binaryOp .Mult) (rI CMul fun i j => .int (i * j)) := opI fun _ _ _ _ _ _ _ hc q => mul_int q hc.ok
/-- // by a positive divisor -/
theorem op_fdiv : OpR X (binaryOp .FloorDiv) (rI CDiv fun i j => .int (i / j)) := opI fun i j _ _ _ _ _ hc q => by
  have h1 : (0 : Int) < j := hc.1
  have h2 : j < 1073741824 := hc.2
  exact floordiv_int (by omega) (by rw [Int.fdiv_eq_ediv_of_nonneg i (by omega)]; exact q) (.inl (PyProof.noPylong_small (by omega)))
/-- % by a positive divisor of any size -/
theorem op_mod : OpR X (binaryOp .Mod) (rI (fun _ j => 0 < j) fun i j => .int (i % j)) := opI fun i j _ _ _ _ _ hc q => by
  have h1 : (0 : Int) < j := hc
  exact mod_int' (by omega) (by rw [Int.fmod_eq_emod_of_nonneg i (by omega)]; exact q)
theorem op_pow : OpR X (binaryOp .Pow) (rI CPow fun i j => .int (i ^ j.toNat)) := opI fun _ _ _ _ _ _ _ hc q => pow_int_small hc.1 hc.2.1 hc.2.2 q



/-! ### bools among ints: n += (a < b) -/
end

/-! ### comparisons -/
/-- the scalars that == tells apart as data does -/
def scal : V → V → Bool
  | .non, .non => true | .non, .int _ => true | .int _, .non => true | .non, .bl _ => true | .bl _, .non => true | .non, .str _ => true | .str _, .non => true
  | .int _, .int _ => true | .bl _, .bl _ => true | .str _, .str _ => true | .byt _, .byt _ => true
  | .int _, .str _ => true | .str _, .int _ => true | .bl _, .str _ => true | .str _, .bl _ => true
  | _, _ => false
def rEq : R2 := fun x y H Q => scal x y = true ∧ Q (.bl (decide (x = y))) H
def rNe : R2 := fun x y H Q => scal x y = true ∧ Q (.bl (!decide (x = y))) H

theorem dec_int {i j : Int} : decide (V.int i = V.int j) = (i == j) := by
  rw [Bool.eq_iff_iff]
  simp
theorem dec_bl {i j : Bool} : decide (V.bl i = V.bl j) = (i == j) := by
  rw [Bool.eq_iff_iff]
  simp
theorem dec_str {i j : Str} : decide (V.str i = V.str j) = (i == j) := by
  rw [Bool.eq_iff_iff]
  simp
theorem dec_byt {i j : Array UInt8} : decide (V.byt i = V.byt j) = (i.toList == j.toList) := by
  rw [Bool.eq_iff_iff]
  cases i
  cases j
  simp

section
variable {X : Cx} {a b c : Expr} {ta tb tc : TE} {pos : Pos}
theorem fin_bl {pins : List (Addr × Obj)} {σ : St} {H : Hp} {s : Shared} {Q : VK} {k k' : Bool} (I : Inv X pins σ H s) (q : Q (.bl k) H) (e : k = k') : EP X pins σ Q (.bool k') s := by
  subst e
  exact ⟨.bl k, H, I, rfl, q⟩
theorem op_eq : OpR X (compareOp .Eq) rEq := by
  intro pins s σ H x y v u Q I rx ry h
  obtain ⟨hs, q⟩ := h
  cases x with
  | non =>
    cases rx
    cases y with
    | non => cases ry; exact PySem.EqNone.eq_none_none (fin_bl I q (by simp))
    | bl j => cases ry; exact PySem.EqNone.eq_none_bool (fin_bl I q (by simp))
    | int j => obtain ⟨t', rfl⟩ := ry; exact PySem.EqNone.eq_none_int (fin_bl I q (by simp))
    | str j => obtain ⟨t', rfl⟩ := ry; exact PySem.EqNone.eq_none_str (fin_bl I q (by simp))
    | _ => exact absurd (show false = true from hs) Bool.false_ne_true
  | bl i =>
    cases rx
    cases y with
    | non => cases ry; exact PySem.EqNone.eq_bool_none (fin_bl I q (by simp))
    | bl j => cases ry; exact eq_bool (fin_bl I q dec_bl)
    | str j => obtain ⟨t', rfl⟩ := ry; exact PySem.EqMixed.eq_bool_str (fin_bl I q (by simp))
    | _ => exact absurd (show false = true from hs) Bool.false_ne_true
  | int i =>
    obtain ⟨t, rfl⟩ := rx
    cases y with
    | non => cases ry; exact PySem.EqNone.eq_int_none (fin_bl I q (by simp))
    | int j => obtain ⟨t', rfl⟩ := ry; exact eq_int (fin_bl I q dec_int)
    | str j => obtain ⟨t', rfl⟩ := ry; exact PySem.EqMixed.eq_int_str (fin_bl I q (by simp))
    | _ => exact absurd (show false = true from hs) Bool.false_ne_true
  | str i =>
    obtain ⟨t, rfl⟩ := rx
    cases y with
    | non => cases ry; exact PySem.EqNone.eq_str_none (fin_bl I q (by simp))
    | bl j => cases ry; exact PySem.EqMixed.eq_str_bool (fin_bl I q (by simp))
    | int j => obtain ⟨t', rfl⟩ := ry; exact PySem.EqMixed.eq_str_int (fin_bl I q (by simp))
    | str j => obtain ⟨t', rfl⟩ := ry; exact eq_str (fin_bl I q dec_str)
    | _ => exact absurd (show false = true from hs) Bool.false_ne_true
  | byt i =>
    obtain ⟨t, rfl⟩ := rx
    cases y with
    | byt j => obtain ⟨t', rfl⟩ := ry; exact PySem.W.eq_bytes (fin_bl I q dec_byt)
    | _ => exact absurd (show false = true from hs) Bool.false_ne_true
  | _ => cases y <;> exact absurd (show false = true from hs) Bool.false_ne_true
theorem op_ne : OpR X (compareOp .NotEq) rNe := by
  intro pins s σ H x y v u Q I rx ry h
  obtain ⟨hs, q⟩ := h
  cases x with
  | non =>
    cases rx
    cases y with
    | non => cases ry; exact PySem.EqNone.ne_none_none (fin_bl I q (by simp))
    | bl j => cases ry; exact PySem.EqNone.ne_none_bool (fin_bl I q (by simp))
    | int j => obtain ⟨t', rfl⟩ := ry; exact PySem.EqNone.ne_none_int (fin_bl I q (by simp))
    | str j => obtain ⟨t', rfl⟩ := ry; exact PySem.EqNone.ne_none_str (fin_bl I q (by simp))
    | _ => exact absurd (show false = true from hs) Bool.false_ne_true
  | bl i =>
    cases rx
    cases y with
    | non => cases ry; exact PySem.EqNone.ne_bool_none (fin_bl I q (by simp))
    | bl j => cases ry; exact ne_bool (fin_bl I q (congrArg not dec_bl))
    | str j => obtain ⟨t', rfl⟩ := ry; exact PySem.EqMixed.ne_bool_str (fin_bl I q (by simp))
    | _ => exact absurd (show false = true from hs) Bool.false_ne_true
  | int i =>
    obtain ⟨t, rfl⟩ := rx
    cases y with
    | non => cases ry; exact PySem.EqNone.ne_int_none (fin_bl I q (by simp))
    | int j => obtain ⟨t', rfl⟩ := ry; exact ne_int (fin_bl I q (congrArg not dec_int))
    | str j => obtain ⟨t', rfl⟩ := ry; exact PySem.EqMixed.ne_int_str (fin_bl I q (by simp))
    | _ => exact absurd (show false = true from hs) Bool.false_ne_true
  | str i =>
    obtain ⟨t, rfl⟩ := rx
    cases y with
    | non => cases ry; exact PySem.EqNone.ne_str_none (fin_bl I q (by simp))
    | bl j => cases ry; exact PySem.EqMixed.ne_str_bool (fin_bl I q (by simp))
    | int j => obtain ⟨t', rfl⟩ := ry; exact PySem.EqMixed.ne_str_int (fin_bl I q (by simp))
    | str j => obtain ⟨t', rfl⟩ := ry; exact ne_str (fin_bl I q (congrArg not dec_str))
    | _ => exact absurd (show false = true from hs) Bool.false_ne_true
  | byt i =>
    obtain ⟨t, rfl⟩ := rx
    cases y with
    | byt j => obtain ⟨t', rfl⟩ := ry; exact PySem.W.ne_bytes (fin_bl I q (congrArg not dec_byt))
    | _ => exact absurd (show false = true from hs) Bool.false_ne_true
  | _ => cases y <;> exact absurd (show false = true from hs) Bool.false_ne_true

theorem op_lt : OpR X (compareOp .Lt) (rI0 fun i j => .bl (decide (i < j))) := opB0 fun _ _ _ _ _ _ _ q => lt_int q
theorem op_gt : OpR X (compareOp .Gt) (rI0 fun i j => .bl (decide (j < i))) := opB0 fun _ _ _ _ _ _ _ q => gt_int q


/-- is, is not of two objects that are tracked lists or instances -/
def isObj : HO → Bool
  | .lst _ => true
  | .ins _ _ _ => true
  | _ => false


theorem nomark (b : Expr) {op : CmpOp} (h : op ≠ .In := by decide) (h2 : op ≠ .NotIn := by decide) : behindInMarks op b = false := by
  have e1 : (op == CmpOp.In) = false := by cases op <;> first | rfl | exact absurd rfl h
  have e2 : (op == CmpOp.NotIn) = false := by cases op <;> first | rfl | exact absurd rfl h2
  cases b <;> simp [behindInMarks, e1, e2]
/-- a comparison as a value; hm: nomark b, or (for in, not in) by with_unfolding_all rfl -/
theorem pe_cmpR {op : CmpOp} {r : R2} (ho : OpR X (compareOp op) r) (ha : PE X a ta) (hb : PE X b tb) (hm : behindInMarks op b = false) : PE X (.Compare a [op] [b] pos) (tOp r ta tb) := by
  intro pins s σ H Q I h
  exact wpAny_Compare1 (binT ha hb I h fun v u s2 x y H2 I2 rx ry q => ho pins s2 σ H2 x y v u Q I2 rx ry q) hm
/-- a reading of a value as a test -/
def tTest (t : TE) : TT := fun σ H Q => t σ H fun x H' => ∃ k, x = .bl k ∧ Q k H'
theorem pt_cmpR {op : CmpOp} {r : R2} (ho : OpR X (compareOp op) r) (ha : PE X a ta) (hb : PE X b tb) (hm : behindInMarks op b = false) : PT X (.Compare a [op] [b] pos) (tTest (tOp r ta tb)) := by
  intro pins s σ H Q I h
  refine wpAny_isTrue_Compare1 (thn (ha pins s σ H _ I h) fun v s1 ⟨x, H1, I1, r1, q1⟩ => thn (hb pins s1 σ H1 _ I1 q1) fun u s2 ⟨y, H2, I2, r2, q2⟩ =>
    thn (ho pins s2 σ H2 x y v u _ I2 r1 r2 q2) fun c s3 ⟨z, H3, I3, r3, k, e, q3⟩ => ?_) hm
  subst e
  cases r3
  exact wpAny_truthy_bool ⟨H3, I3, q3⟩
/-- a op1 b op2 c -/
def tChain (r r' : R2) (ta tb tc : TE) : TE := fun σ H Q => ta σ H fun x H1 => tb σ H1 fun y H2 => r x y H2 fun z H3 => ∃ k, z = .bl k ∧
  (if k = true then tc σ H3 fun w' H4 => r' y w' H4 Q else Q (.bl false) H3)

/-! ### truth -/
/-- a value's truth by the abstract heap -/
def TruV (K : PySem.W.Frag) (x : V) (H : Hp) (k : Bool) : Prop :=
  match x with
  | .non => k = false
  | .bl b => k = b
  | .int i => k = (i != 0)
  | .str y => y.length ≤ sizeLine ∧ k = ((y.length : Int) != 0)
  | .byt y => y.size ≤ sizeLine ∧ k = ((y.size : Int) != 0)
  | .ref p => (∃ xs, SqL K H p xs ∧ k = !xs.isEmpty) ∨ (∃ xs, SqT K H p xs ∧ k = !xs.isEmpty) ∨ ∃ kvs, H p = some (.dK kvs) ∧ k = !kvs.isEmpty
  | _ => False
theorem line63 : (sizeLine : Nat) < 2 ^ 63 := by rw [sizeLine_eq]; decide

/-! ### strs and bytes -/
theorem op_add_str : OpR X (binaryOp .Add) (fun x y H Q => ∃ i j, x = .str i ∧ y = .str j ∧ i.length + j.length ≤ sizeLine ∧ Q (.str (i ++ j)) H) := by
  intro pins s σ H x y v u Q I rx ry h
  obtain ⟨i, j, rfl, rfl, hz, q⟩ := h
  obtain ⟨t, rfl⟩ := rx
  obtain ⟨t', rfl⟩ := ry
  exact add_str (fun t' tk => ⟨.str (i ++ j), H, I.tok _, ⟨_, rfl⟩, q⟩) hz

def PlainIxT (b : Expr) : Prop := ∀ o i, subscripted b false o i = operate [o, i] (getItem o i)

/-! ### scalar builtins, by CallR -/
theorem vals1 {x : V} {us : List Value} (r : Vals [x] us) : ∃ u, us = [u] ∧ RelV x u := by
  cases r with
  | cons r1 r2 => cases r2; exact ⟨_, rfl, r1⟩
theorem call_int1 : CallR X (.type "int") (fun xs H Q => (∃ i, xs = [.int i] ∧ Q (.int i) H) ∨ ∃ k, xs = [.bl k] ∧ Q (.int (if k then 1 else 0)) H) := by
  intro pins s σ H xs us Q I r h
  rcases h with ⟨i, rfl, q⟩ | ⟨k, rfl, q⟩
  · obtain ⟨u, rfl, t, rfl⟩ := vals1 r
    exact call_int_int ⟨.int i, H, I, ⟨_, rfl⟩, q⟩
  · obtain ⟨u, rfl, r1⟩ := vals1 r
    cases r1
    exact call_int_bool ⟨.int (if k then 1 else 0), H, I.tok _, ⟨_, rfl⟩, q⟩
/-- len of a str, a bytes, a list, a tuple -/
def LenV (K : PySem.W.Frag) (x : V) (H : Hp) (n : Nat) : Prop :=
  match x with
  | .str y => y.length ≤ sizeLine ∧ n = y.length
  | .byt y => y.size ≤ sizeLine ∧ n = y.size
  | .ref p => (∃ xs, SqL K H p xs ∧ n = xs.length) ∨ ∃ xs, SqT K H p xs ∧ n = xs.length
  | _ => False
end
end L2

namespace L2
open PySem PySem.Spec PyProof.Rows

/-! ### an instance, its attributes a map -/
structure ObjM (h : Heap) (x dx C : Addr) (mA : Str → Option Value) : Prop where
  obj : h.get? x = some (PySem.W.instObj C dx)
  ns : h.Ns1 dx mA
  ne : dx ≠ x

theorem lookIn_ns {h : Heap} {dx : Addr} {mA : Str → Option Value} (n : h.Ns1 dx mA) : ∃ od, h.get? dx = some od ∧ ∀ name, PySem.W.lookIn name od = some (mA name) := by
  obtain ⟨o, es, ep, ho, hd, hk, _, hm⟩ := n
  refine ⟨o, ho, fun name => ?_⟩
  have e := hm name
  unfold nsFind findBy at e
  rw [← Array.find?_toList] at e
  unfold PySem.W.lookIn
  rw [hd]
  dsimp only
  split
  · rename_i y q
    rw [q] at e
    exact congrArg some e
  · rename_i q
    rw [q] at e
    have a : es.toList.any (·.refKey) = false := by
      rw [List.any_eq_false]
      intro y hy
      obtain ⟨z, t, hkey⟩ := hk y (Array.mem_toList_iff.mp hy)
      simp [DictEntry.refKey, hkey]
    have a' : ¬ es.toList.any (·.refKey) = true := by rw [a]; exact Bool.false_ne_true
    rw [if_neg a']
    exact congrArg some e

theorem ObjM.look {h : Heap} {x dx C : Addr} {mA : Str → Option Value} (I : ObjM h x dx C mA) : ∃ od, PySem.W.InstAt h x (PySem.W.instObj C dx) C (some od) ∧ ∀ name, PySem.W.lookIn name od = some (mA name) :=
  let ⟨od, ho, hl⟩ := lookIn_ns I.ns
  ⟨od, ⟨I.obj, rfl, rfl, ho⟩, hl⟩

section
variable {prog : Program} {w : World} {A : Around} {E : Value → Shared → Prop} {s : Shared} {K : PySem.W.Frag} {x dx C f : Addr} {mA : Str → Option Value} {name : Str} {v : Value}

theorem get_map {expr : Bool} {Q : Value → Shared → Prop} (X : K.In s.heap) (I : ObjM s.heap x dx C mA) (hg : PySem.W.plainGet K C name = true) (hh : PySem.W.hasDictIn K C = true)
    (ha : PySem.W.findIn K (.ref C) name = some none) (hv : mA name = some v) (hv' : PySem.W.handedIn v = true) (h : Q v { s with toks := s.toks + 1 }) :
    wpAny (model prog w) A (getAttr (.ref x) name expr) Q E s := by
  obtain ⟨od, J, hl⟩ := I.look
  exact PySem.W.get_value X J (PySem.W.plainGet_of hg).1 (PySem.W.findObj_own hh ha rfl (by rw [hl, hv])) hv' h


theorem get_meth {pl : Sem Bool} {Q : Value × List Value → Shared → Prop} (X : K.In s.heap) (I : ObjM s.heap x dx C mA) (hg : PySem.W.plainGet K C name = true)
    (hf : PySem.W.findIn K (.ref C) name = some (some (.ref f))) (ht : PySem.W.isFn K (.ref f) = true) (hv : mA name = none) (h : Q (.ref f, [.ref x]) s) :
    wpAny (model prog w) A (getMethod (.ref x) name pl) Q E s := by
  obtain ⟨od, J, hl⟩ := I.look
  exact PySem.W.method_fn X J (PySem.W.plainGet_of hg).1 (PySem.W.plainGet_of hg).2 hf (beq_iff_eq.mp ht) (by show (PySem.W.lookIn name od).map (·.isSome) = some false; rw [hl, hv]; rfl) h

theorem set_map {ns : List Str} {Q : Unit → Shared → Prop} (X : K.In s.heap) (I : ObjM s.heap x dx C mA)
    (hs : PySem.W.findIn K (.ref C) "__setattr__" = some (some (.builtin "object.__setattr__"))) (hp : PySem.W.plainOver K C = true) (ht : PySem.W.takerIn K C name = some none) (hh : PySem.W.hasDictIn K C = true)
    (hw : PySem.Within mA ns) (hsz : ns.length ≤ sizeLine)
    (h : ∀ h', ObjM h' x dx C (fun y => if y = name then some v else mA y) → Heap.SameBut dx s.heap h' → Q () { s with heap := h', toks := s.toks + 2 }) :
    wpAny (model prog w) A (setAttr (.ref x) name v) Q E s := by
  obtain ⟨od, J, hl⟩ := I.look
  refine PySem.W.set_plain X J hs (PySem.W.osa_open (s := { s with toks := s.toks + 1 }) (r := none) X J hp ht fun b => ?_)
  obtain ⟨cd, hc, hd'⟩ := PySem.W.any_some hh
  have hx : s.heap.get? x = some ⟨.ref C, some dx, .plain, #[]⟩ := I.obj
  refine wpAny_bind (wpAny_pure (wpAny_bind (wpAny_bind (wpAny_loadPart hx (wpAny_bind (PySem.W.Looks.here (s := { s with toks := s.toks + 1 }) (PySem.W.looks_clsIn X hc) ?_))))))
  rw [hd']
  refine wpAny_pure (a := some dx) (wpAny_bind (wpAny_pure (wpAny_bind ?_)))
  refine wpAny_nsSet1 (s := { s with toks := s.toks + 1 }) I.ns fun h' hn2 hs2 => ?_
  obtain ⟨oD, esD, epD, hoD, hdD, hcD⟩ := hn2.count (PySem.Within.cons name v hw)
  refine wpAny_bind (wpAny_lookBehind hoD (by rw [hdD]; exact pastItsLine_dict (Nat.le_trans hcD (by rw [List.length_cons]; omega))) ?_)
  exact wpAny_pure (h _ ⟨(hs2.2 _ (Ne.symm I.ne)).trans I.obj, hn2, I.ne⟩ hs2)

/-- C(..): the dict at the heap's end, the instance behind it; then its __init__ -/
theorem make_map {R : Result → Shared → Prop} {vs : List Value} {kw : List (Str × Value)} (X : K.In s.heap) (hm : PySem.W.makesIn K C = true)
    (hi : PySem.W.findIn K (.ref C) "__init__" = some (some (.ref f))) (hf : PySem.W.typeIn K (.ref f) = some (.type "function"))
    (h : codeAny (model prog w) (A.under (.builtin "type.__call__" ⟨.ref C :: vs, kw⟩)) (.call (.ref f) ⟨.ref (s.heap.objs.size + 1) :: vs, kw⟩) (PySem.W.InitBack (s.heap.objs.size + 1) R)
      { s with heap := (s.heap.push PySem.W.emptyDict).push (PySem.W.instObj C s.heap.objs.size) }) :
    codeAny (model prog w) A (.call (.ref C) ⟨vs, kw⟩) R s := by
  obtain ⟨hh, g, d, t, os⟩ := s
  exact PySem.W.make_core (PySem.W.makes_of X hm) (PySem.W.looks_findIn X hi) (fun self => PySem.W.bind_fn X self hf) (.inl rfl) h
end

/-! ### the attributes as a list of pairs -/
def putF (f : Str) (v : V) : List (Str × V) → List (Str × V)
  | [] => [(f, v)]
  | (g, x) :: r => if g = f then (g, v) :: r else (g, x) :: putF f v r
theorem lookup_putF (f g : Str) (v : V) : ∀ fs : List (Str × V), (putF f v fs).lookup g = if g = f then some v else fs.lookup g
  | [] => by
    show List.lookup g [(f, v)] = _
    by_cases h : g = f
    · have hb : (g == f) = true := beq_iff_eq.mpr h
      simp only [List.lookup, hb, if_pos h]
    · have hb : (g == f) = false := beq_eq_false_iff_ne.mpr h
      simp only [List.lookup, hb, if_neg h]
  | (k, x) :: r => by
    have ih := lookup_putF f g v r
    rw [show putF f v ((k, x) :: r) = (if k = f then (k, v) :: r else (k, x) :: putF f v r) from rfl]
    by_cases hk : k = f
    · rw [if_pos hk]
      by_cases h : g = k
      · have hb : (g == k) = true := beq_iff_eq.mpr h
        simp only [List.lookup, hb, if_pos (h.trans hk)]
      · have hb : (g == k) = false := beq_eq_false_iff_ne.mpr h
        simp only [List.lookup, hb, if_neg (fun e : g = f => h (e.trans hk.symm))]
    · rw [if_neg hk]
      by_cases h : g = k
      · have hb : (g == k) = true := beq_iff_eq.mpr h
        simp only [List.lookup, hb, if_neg (fun e : g = f => hk (h.symm.trans e))]
      · have hb : (g == k) = false := beq_eq_false_iff_ne.mpr h
        simp only [List.lookup, hb]
        exact ih
theorem keys_putF (f : Str) (v : V) : ∀ fs : List (Str × V), f ∈ (putF f v fs).map (·.1) ∧ ∀ g, g ∈ fs.map (·.1) → g ∈ (putF f v fs).map (·.1)
  | [] => ⟨by simp [putF], fun g h => by simp at h⟩
  | (k, x) :: r => by
    obtain ⟨i1, i2⟩ := keys_putF f v r
    rw [show putF f v ((k, x) :: r) = (if k = f then (k, v) :: r else (k, x) :: putF f v r) from rfl]
    by_cases hk : k = f
    · rw [if_pos hk]
      subst hk
      exact ⟨by simp, fun g h => by simpa using h⟩
    · rw [if_neg hk]
      refine ⟨?_, fun g h => ?_⟩
      · rw [List.map_cons]
        exact List.mem_cons_of_mem _ i1
      · rw [List.map_cons] at h ⊢
        rcases List.mem_cons.mp h with e | e
        · exact List.mem_cons.mpr (.inl e)
        · exact List.mem_cons_of_mem _ (i2 g e)
theorem length_putF (f : Str) (v : V) : ∀ fs : List (Str × V), (putF f v fs).length ≤ fs.length + 1
  | [] => by simp [putF]
  | (k, x) :: r => by
    have ih := length_putF f v r
    rw [show putF f v ((k, x) :: r) = (if k = f then (k, v) :: r else (k, x) :: putF f v r) from rfl]
    by_cases hk : k = f
    · rw [if_pos hk, List.length_cons, List.length_cons]; omega
    · rw [if_neg hk, List.length_cons, List.length_cons]; omega

theorem RelO.some_of {v : V} {o : Option Value} (r : RelO (some v) o) : ∃ u, o = some u ∧ RelV v u := by
  cases o with
  | none => exact (show False from r).elim
  | some u => exact ⟨u, rfl, r⟩
theorem RelO.none_of {o : Option Value} (r : RelO none o) : o = none := by
  cases o with
  | none => rfl
  | some u => exact (show False from r).elim
theorem handed_of {v : V} {u : Value} (r : RelV v u) : PySem.W.handedIn u = true := by
  cases v with
  | non => cases (show u = Value.none from r); rfl
  | bl b => cases (show u = Value.bool b from r); rfl
  | int i => obtain ⟨t, e⟩ := (show ∃ t, u = Value.int i t from r); cases e; rfl
  | str x => obtain ⟨t, e⟩ := (show ∃ t, u = Value.str x t from r); cases e; rfl
  | byt b => obtain ⟨t, e⟩ := (show ∃ t, u = Value.bytes b t from r); cases e; rfl
  | flt b => obtain ⟨t, e⟩ := (show ∃ t, u = Value.float b t from r); cases e; rfl
  | ref a => cases (show u = Value.ref a from r); rfl
  | ty n => cases (show u = Value.type n from r); rfl

section
variable {P : Program} {w : World} {H H' : Hp} {h h' : Heap} {a C dx : Addr} {fs fs' : List (Str × V)}
theorem ins_get (hok : HOk P w H h) (e : H a = some (.ins C dx fs)) : ∃ mA, ObjM h a dx C mA ∧ (∀ f, RelO (fs.lookup f) (mA f)) ∧ PySem.Within mA (fs.map (·.1)) ∧ fs.length ≤ 1000 ∧ H dx = some (.own a) := by
  obtain ⟨d, z, ne, ob, mA, n, r, q⟩ := (show ObjOk P w H h a (.ins C dx fs) from hok a _ e)
  exact ⟨mA, ⟨ob, n, ne⟩, r, q, z, d⟩
end

/-! ### what of the text a class must have -/
structure Cls (K : PySem.W.Frag) (C : Addr) : Prop where
  pg : PySem.W.plainGet K C Str.empty = true
  hd : PySem.W.hasDictIn K C = true
  po : PySem.W.plainOver K C = true
  sa : PySem.W.findIn K (.ref C) "__setattr__" = some (some (.builtin "object.__setattr__"))
theorem Cls.get {K : PySem.W.Frag} {C : Addr} (c : Cls K C) (f : Str) : PySem.W.plainGet K C f = true := c.pg
/-- no class of it has the name -/
def NoAttr (K : PySem.W.Frag) (C : Addr) (f : Str) : Prop := PySem.W.findIn K (.ref C) f = some none
theorem NoAttr.taker {K : PySem.W.Frag} {C : Addr} {f : Str} (n : NoAttr K C f) : PySem.W.takerIn K C f = some none := by
  unfold PySem.W.takerIn
  rw [show PySem.W.findIn K (.ref C) f = some none from n]
  rfl
/-- a constant of the class -/
structure Con (K : PySem.W.Frag) (C : Addr) (f : Str) (v : V) (u : Value) : Prop where
  at_ : PySem.W.findIn K (.ref C) f = some (some u)
  rel : RelV v u
  get : PySem.W.specialIn K u "__get__" = some none
  cp : PySem.W.copiedNames.contains f = false
/-- a method: a plain def of the class or of one above it -/
structure Meth (K : PySem.W.Frag) (C : Addr) (m : Str) (f : Addr) : Prop where
  at_ : PySem.W.findIn K (.ref C) m = some (some (.ref f))
  fn : PySem.W.isFn K (.ref f) = true
  kp : PySem.W.keepIn K (.ref f) = true

section
variable {X : Cx} {pins : List (Addr × Obj)} {σ : St} {H : Hp} {s : Shared} {a C dx : Addr} {fs : List (Str × V)} {f : Str} {v : V} {A : Around} {E : Value → Shared → Prop}

theorem getattr_ok {b : Bool} {Q : Value → Shared → Prop} (I : Inv X pins σ H s) (e : H a = some (.ins C dx fs)) (c : Cls X.K C) (n : NoAttr X.K C f) (l : fs.lookup f = some v)
    (h : ∀ u s', Inv X pins σ H s' → RelV v u → Q u s') : wpAny (model X.prog X.w) A (getAttr (.ref a) f b) Q E s := by
  obtain ⟨mA, O, r, _, _, _⟩ := ins_get I.hok e
  obtain ⟨u, hu, ru⟩ := RelO.some_of (v := v) (o := mA f) (by rw [← l]; exact r f)
  exact get_map I.kIn O (c.get f) c.hd n hu (handed_of ru) (h u _ (I.tok _) ru)


theorem getmeth_ok {m : Str} {g : Addr} {pl : Sem Bool} {Q : Value × List Value → Shared → Prop} (I : Inv X pins σ H s) (e : H a = some (.ins C dx fs)) (c : Cls X.K C) (k : Meth X.K C m g) (l : fs.lookup m = none)
    (h : Q (.ref g, [.ref a]) s) : wpAny (model X.prog X.w) A (getMethod (.ref a) m pl) Q E s := by
  obtain ⟨mA, O, r, _, _, _⟩ := ins_get I.hok e
  have hn : mA m = none := RelO.none_of (by rw [← l]; exact r m)
  exact get_meth I.kIn O (c.get m) k.at_ k.fn hn h

theorem setattr_ok {y : V} {u : Value} {Q : Unit → Shared → Prop} (I : Inv X pins σ H s) (e : H a = some (.ins C dx fs)) (c : Cls X.K C) (n : NoAttr X.K C f) (hl : fs.length < 1000) (ry : RelV y u)
    (h : ∀ s', Inv X pins σ (upd H a (.ins C dx (putF f y fs))) s' → Q () s') : wpAny (model X.prog X.w) A (setAttr (.ref a) f u) Q E s := by
  obtain ⟨mA, O, r, wi, _, ho⟩ := ins_get I.hok e
  have hz : (fs.map (·.1)).length ≤ sizeLine := by rw [List.length_map, sizeLine_eq]; omega
  refine set_map I.kIn O c.sa c.po n.taker c.hd wi hz fun h' O' sb => h _ ?_
  have hd : ∃ o, h'.get? dx = some o := let ⟨o, _, _, e', _⟩ := O'.ns; ⟨o, e'⟩
  refine I.write (x := a) (e := dx) (by rw [e]; exact True.intro) (.inr ho) (fun b q hb z => (sb.2 b hb).trans z) hd ?_
  refine ⟨by rw [upd_ne O.ne]; exact ho, ?_, O.ne, O'.obj, _, O'.ns, fun g => ?_, fun g hg => ?_⟩
  · have := length_putF f y fs; omega
  · show RelO ((putF f y fs).lookup g) (if g = f then some u else mA g)
    rw [lookup_putF]
    by_cases q : g = f
    · rw [if_pos q, if_pos q]; exact ry
    · rw [if_neg q, if_neg q]; exact r g
  · by_cases q : g = f
    · rw [q]; exact (keys_putF f y fs).1
    · refine (keys_putF f y fs).2 g (wi g fun z => hg ?_)
      show (if g = f then some u else mA g) = none
      rw [if_neg q]; exact z

/-- a new instance, tracked, without attributes -/
theorem Inv.made (I : Inv X pins σ H s) : Inv X pins σ (upd (upd H s.heap.objs.size (.own (s.heap.objs.size + 1))) (s.heap.objs.size + 1) (.ins C s.heap.objs.size []))
    { s with heap := (s.heap.push PySem.W.emptyDict).push (PySem.W.instObj C s.heap.objs.size) } := by
  have e1 : (s.heap.push PySem.W.emptyDict).get? s.heap.objs.size = some PySem.W.emptyDict := Heap.get?_push_size s.heap rfl
  have e2 : ((s.heap.push PySem.W.emptyDict).push (PySem.W.instObj C s.heap.objs.size)).get? (s.heap.objs.size + 1) = some (PySem.W.instObj C s.heap.objs.size) := by
    have := Heap.get?_push_size (s.heap.push PySem.W.emptyDict) (o := PySem.W.instObj C s.heap.objs.size) rfl
    rwa [Heap.size_push] at this
  have e3 : (s.heap.push PySem.W.emptyDict).Ns s.heap.objs.size (fun _ => none) := ⟨PySem.W.emptyDict, #[], _, e1, rfl, (fun e he => absurd he (by simp)), fun _ => rfl⟩
  have I1 := I.laid (a := s.heap.objs.size) (o := .own (s.heap.objs.size + 1)) (h' := s.heap.push PySem.W.emptyDict) (t' := s.toks) (fun b u q => Heap.get?_push_of_some _ q) (Nat.le_refl _) ⟨_, e1⟩
  refine I1.laid (a := s.heap.objs.size + 1) (o := .ins C s.heap.objs.size []) (t' := s.toks) (fun b u q => Heap.get?_push_of_some _ q) (Nat.le_of_eq (Heap.size_push _ _)) ?_
  have ne : s.heap.objs.size ≠ s.heap.objs.size + 1 := Nat.ne_of_lt (Nat.lt_succ_self _)
  refine ⟨by rw [upd_ne ne, upd_same], Nat.zero_le _, ne, e2, fun _ => none, (Heap.Ns1.of_empty e3).at fun o q => Heap.get?_push_of_some _ q, fun _ => True.intro, fun y hy => absurd rfl hy⟩

/-- e.f where nothing but the object is asked: through attributeBase (super) and the last hold -/
theorem attr_of {prog : Program} {w : World} {env : Env} {e : Expr} {f : Str} {pos : Pos} {s : Shared} {Q : Value → Shared → Prop} (hb : attributeBase e f env (eval e env) = eval e env)
    (h : wpAny (model prog w) A (eval e env) (fun o s₁ => wpAny (model prog w) A (getAttr o f true) Q E s₁) E s) : wpAny (model prog w) A (eval (.Attribute e f pos) env) Q E s :=
  Attribute_any_ h (by rw [arm_eval_Attribute, hb])
end

/-! ### readings and rules -/
/-- e.f, an attribute of the instance -/
def tFld (K : PySem.W.Frag) (ta : TE) (f : Str) : TE := fun σ H Q => ta σ H fun x H1 => ∃ a C dx fs v, x = .ref a ∧ H1 a = some (.ins C dx fs) ∧ Cls K C ∧ NoAttr K C f ∧ fs.lookup f = some v ∧ Q v H1
/-- e.f, a constant of the class -/
def tCon (K : PySem.W.Frag) (ta : TE) (f : Str) : TE := fun σ H Q => ta σ H fun x H1 => ∃ a C dx fs v u, x = .ref a ∧ H1 a = some (.ins C dx fs) ∧ Cls K C ∧ Con K C f v u ∧ fs.lookup f = none ∧ Q v H1
/-- e.f = value -/
def sFld (K : PySem.W.Frag) (ta tv : TE) (f : Str) : TS := fun D σ H => tv σ H fun y H1 => ta σ H1 fun x H2 => ∃ a C dx fs, x = .ref a ∧ H2 a = some (.ins C dx fs) ∧ Cls K C ∧ NoAttr K C f ∧ fs.length < 1000 ∧
  D.nx σ (upd H2 a (.ins C dx (putF f y fs)))
/-- an augmented operator on two values -/
def InOp (X : Cx) (op : Operator) (rd : V → V → Hp → VK → Prop) : Prop :=
  ∀ (pins : List (Addr × Obj)) (s : Shared) (σ : St) (H : Hp) (x y : V) (u v : Value) (Q : VK), Inv X pins σ H s → RelV x u → RelV y v → rd x y H Q → wpAny (model X.prog X.w) X.A (inplaceOp op u v) (EP X pins σ Q) X.xe s
/-- e.f op= value -/
def sFldAug (K : PySem.W.Frag) (ta tv : TE) (rd : V → V → Hp → VK → Prop) (f : Str) : TS := fun D σ H => ta σ H fun x H1 => ∃ a C dx fs v, x = .ref a ∧ H1 a = some (.ins C dx fs) ∧ Cls K C ∧ NoAttr K C f ∧ fs.lookup f = some v ∧
  tv σ H1 fun y H2 => rd v y H2 fun z H3 => ∃ dx' fs', H3 a = some (.ins C dx' fs') ∧ fs'.length < 1000 ∧ D.nx σ (upd H3 a (.ins C dx' (putF f z fs')))

section
variable {X : Cx} {o e value : Expr} {f : Str} {pos pos' tpos : Pos} {ta tv : TE}
theorem pe_fld (he : PE X e ta) (hb : attributeBase e f X.env (eval e X.env) = eval e X.env) : PE X (.Attribute e f pos) (tFld X.K ta f) := by
  intro pins s σ H Q I h
  refine attr_of hb (thn (he pins s σ H _ I h) fun u s1 ⟨x, H1, I1, rx, a, C, dx, fs, v, ex, ea, c, n, l, q⟩ => ?_)
  subst ex
  obtain rfl : u = Value.ref a := rx
  exact getattr_ok I1 ea c n l fun u' s2 I2 ru => ⟨v, H1, I2, ru, q⟩
theorem ps_fld (ha : PE X o ta) (hv : PE X value tv) (hs : swapsWith value (some (.Attribute o f pos')) pos.line X.env = pure false) : PS X (.Assign [.Attribute o f pos'] value pos) (sFld X.K ta tv f) := by
  intro pins s σ H D I h
  refine plainObj_wpAny_Assign_Attribute (thn (hv pins s σ H _ I h) fun u s1 ⟨y, H1, I1, ry, q⟩ => thn (ha pins s1 σ H1 _ I1 q) fun ov s2 ⟨x, H2, I2, rx, a, C, dx, fs, ex, ea, c, n, l, q2⟩ => ?_) hs
  subst ex
  obtain rfl : ov = Value.ref a := rx
  exact setattr_ok I2 ea c n l ry fun s3 I3 => ⟨σ, _, I3, q2⟩
def rAdd : V → V → Hp → VK → Prop := fun x y H Q => ∃ i j, x = .int i ∧ y = .int j ∧ Q (.int (i + j)) H
def rSub : V → V → Hp → VK → Prop := fun x y H Q => ∃ i j, x = .int i ∧ y = .int j ∧ Q (.int (i - j)) H

end

/-! ### isinstance -/
section
variable {X : Cx} {pins : List (Addr × Obj)} {σ : St} {H : Hp} {s : Shared} {A : Around} {E : Value → Shared → Prop} {Q : Value → Shared → Prop} {c : Value} {b : Bool}
/-- the type of a value, as the fragment's deciders take it; for an instance its class -/
inductive TyOf (K : PySem.W.Frag) (H : Hp) : V → Value → Prop where
  | non : TyOf K H .non (.type "NoneType")
  | bl (x : Bool) : TyOf K H (.bl x) (.type "bool")
  | int (i : Int) : TyOf K H (.int i) (.type "int")
  | str (x : Str) : TyOf K H (.str x) (.type "str")
  | flt (x : UInt64) : TyOf K H (.flt x) (.type "float")
  | lst {a : Addr} {xs : List V} (e : H a = some (.lst xs)) : TyOf K H (.ref a) (.type "list")
  | frz {a : Addr} {o : Obj} {xs : List V} (e : H a = some (.frz o (.lst xs))) : TyOf K H (.ref a) (.type "list")
  | tup {a : Addr} {xs : List V} (e : H a = some (.tup xs)) : TyOf K H (.ref a) (.type "tuple")
  | dK {a : Addr} {kvs : List (Key × V)} (e : H a = some (.dK kvs)) : TyOf K H (.ref a) (.type "dict")
  | dT {a : Addr} {kvs : List (List Key × V)} (e : H a = some (.dT kvs)) : TyOf K H (.ref a) (.type "dict")
  | ins {a C dx : Addr} {fs : List (Str × V)} (e : H a = some (.ins C dx fs)) (cl : Cls K C) (ha : PySem.W.findIn K (.ref C) "__class__" = some (some (.builtin "object.__class__")))
      (hn : PySem.W.specialIn K (.builtin "object.__class__") "__get__" = some (some (.builtin "getset_descriptor.__get__"))) (htk : PySem.W.takesIn K (.builtin "object.__class__") = some true)
      (hm : PySem.W.mroIn K C (.type "object") = some true) : TyOf K H (.ref a) (.ref C)
/-- isinstance(x, c) for one class c, a built-in or an own one: kitOne's answer -/
theorem isinst_ok {x : V} {u t : Value} (I : Inv X pins σ H s) (rx : RelV x u) (ty : TyOf X.K H x t) (e : PySem.W.kitOne X.K t c = some b) (h : ∀ tk, Q (.bool b) { s with toks := tk }) :
    wpAny (model X.prog X.w) A (call (.builtin "isinstance") [u, c]) Q E s := by
  cases ty with
  | non => cases (show u = Value.none from rx); exact PySem.W.kia_one PySem.W.kitx_none I.kIn True.intro e (fun z => nomatch z) h
  | bl y => cases (show u = Value.bool y from rx); exact PySem.W.kia_one PySem.W.kitx_bool I.kIn True.intro e (fun z => nomatch z) h
  | int i => obtain ⟨t, q⟩ := (show ∃ t, u = Value.int i t from rx); cases q; exact PySem.W.kia_one PySem.W.kitx_int I.kIn True.intro e (fun z => nomatch z) h
  | str y => obtain ⟨t, q⟩ := (show ∃ t, u = Value.str y t from rx); cases q; exact PySem.W.kia_one PySem.W.kitx_str I.kIn True.intro e (fun z => nomatch z) h
  | flt y => obtain ⟨t, q⟩ := (show ∃ t, u = Value.float y t from rx); cases q; exact PySem.W.kia_one PySem.W.kitx_float I.kIn True.intro e (fun z => nomatch z) h
  | @lst a xs ea =>
    cases (show u = Value.ref a from rx)
    obtain ⟨_, _, n, _, h1⟩ := (show ObjOk X.prog X.w H s.heap a (.lst xs) from I.hok a _ ea)
    exact PySem.W.kia_one PySem.W.kitx_list I.kIn ⟨_, h1, rfl⟩ e (fun z => nomatch z) h
  | @frz a ob xs ea =>
    cases (show u = Value.ref a from rx)
    obtain ⟨_, _, _, n, _, h1⟩ := (show ObjOk X.prog X.w H s.heap a (.frz ob (.lst xs)) from I.hok a _ ea)
    exact PySem.W.kia_one PySem.W.kitx_list I.kIn ⟨_, h1, rfl⟩ e (fun z => nomatch z) h
  | @tup a xs ea =>
    cases (show u = Value.ref a from rx)
    obtain ⟨_, _, _, p⟩ := (show ObjOk X.prog X.w H s.heap a (.tup xs) from I.hok a _ ea)
    obtain ⟨o, h1, h2, _⟩ := p
    exact PySem.W.kia_one PySem.W.kitx_tuple I.kIn ⟨o, h1, h2⟩ e (fun z => nomatch z) h
  | @dK a kvs ea =>
    cases (show u = Value.ref a from rx)
    obtain ⟨_, _, vs, _, p⟩ := (show ObjOk X.prog X.w H s.heap a (.dK kvs) from I.hok a _ ea)
    obtain ⟨o, es, ep, h1, h2, _⟩ := p
    exact PySem.W.kia_one PySem.W.kitx_dict I.kIn ⟨o, h1, h2.1⟩ e (fun z => nomatch z) h
  | @dT a kvs ea =>
    cases (show u = Value.ref a from rx)
    obtain ⟨_, _, xs, _, o, es, ep, h1, h2, _⟩ := (show ObjOk X.prog X.w H s.heap a (.dT kvs) from I.hok a _ ea)
    exact PySem.W.kia_one PySem.W.kitx_dict I.kIn ⟨o, h1, h2.1⟩ e (fun z => nomatch z) h
  | @ins a C dx fs ea cl ha hn htk hm =>
    cases (show u = Value.ref a from rx)
    obtain ⟨mA, O, _⟩ := ins_get I.hok ea
    obtain ⟨od, J, _⟩ := O.look
    exact PySem.W.kia_one (PySem.W.kitx_own (cl.get _) cl.hd ha hn htk hm) I.kIn J e (fun z => nomatch z) h
end
end L2

namespace L2
open PySem PySem.Spec PyProof.Rows

/-! ### room -/
structure Room (k : Nat) (A : Around) : Prop where
  hd : A.handled = none
  dp : A.depth + 3 * k + 5 < recursionLimit
  un : A.units + 16 * k + 200 < cLine
theorem Room.mono {j k : Nat} {A : Around} (r : Room k A) (h : j ≤ k) : Room j A := ⟨r.hd, by have := r.dp; omega, by have := r.un; omega⟩
theorem Room.deeper {k : Nat} {A : Around} (r : Room (k + 1) A) (env : Env) : Room k (A.deeper env) :=
  ⟨r.hd, by have := r.dp; show A.depth + 1 + 3 * k + 5 < _; omega, by have := r.un; show A.units + 3 + 16 * k + 200 < _; omega⟩
theorem make_depth {A : Around} {C : Addr} {us : List Value} {kw : List (Str × Value)} : (A.under (.builtin "type.__call__" ⟨.ref C :: us, kw⟩)).depth = A.depth + 1 := by
  first | rfl | simp [Around.under, Code.weight, Code.isCreation, Code.isGuard, Code.isCaller, Code.frames, Code.isFrame, guardIds]
theorem make_units {A : Around} {C : Addr} {us : List Value} {kw : List (Str × Value)} : (A.under (.builtin "type.__call__" ⟨.ref C :: us, kw⟩)).units = A.units + 1 := by
  first | rfl | simp [Around.under, Code.cUnits, Code.frames, Code.isFrame]
theorem Room.make {k : Nat} {A : Around} (r : Room (k + 1) A) (C : Addr) (us : List Value) (kw : List (Str × Value)) : Room k (A.under (.builtin "type.__call__" ⟨.ref C :: us, kw⟩)) :=
  ⟨r.hd, by have := r.dp; rw [make_depth]; omega, by have := r.un; rw [make_units]; omega⟩
theorem Room.depth {k : Nat} {A : Around} (r : Room k A) : A.depth < recursionLimit := by have := r.dp; omega
theorem Room.units {k : Nat} {A : Around} (r : Room k A) : A.units + 64 < cLine := by have := r.un; omega

/-! ### argument lists and displays -/
def tNil : TA := fun _ H Q => Q [] H
def tCons (ta : TE) (tr : TA) : TA := fun σ H Q => ta σ H fun x H1 => tr σ H1 fun xs H2 => Q (x :: xs) H2
section
variable {X : Cx} {e : Expr} {es : List Expr} {te : TE} {t : TA} {pos : Pos}
theorem pa_nil : PA X [] tNil := fun _ _ _ _ H Q I h => Calls.spliced_nil ⟨[], H, I, .nil, h⟩
theorem pa_cons (ha : PE X e te) (hr : PA X es t) (hs : starEach (e :: es) X.env = (false, eval e X.env) :: starEach es X.env := by rfl) : PA X (e :: es) (tCons te t) := by
  intro pos pins s σ H Q I h
  rw [hs]
  show wpAny _ _ (spliced ((false, eval e X.env) :: backTo pos (starEach es X.env))) _ _ s
  refine Calls.spliced_cons (thn (ha pins s σ H _ I h) fun u s1 ⟨x, H1, I1, r1, q1⟩ => ?_)
  exact thn (hr pos pins s1 σ H1 _ I1 q1) fun us s2 ⟨xs, H2, I2, r2, q2⟩ => ⟨x :: xs, H2, I2, .cons r1 r2, q2⟩

/-- a tuple, a list of written items -/
def tTup (t : TA) : TE := fun σ H Q => t σ H fun xs H1 => xs.length ≤ sizeLine ∧ ∀ p, H1 p = none → Q (.ref p) (upd H1 p (.tup xs))
def tLst (t : TA) : TE := fun σ H Q => t σ H fun xs H1 => xs.length ≤ sizeLine ∧ ∀ p, H1 p = none → Q (.ref p) (upd H1 p (.lst xs))
theorem pe_tup {x1} (h : PA X es t) : PE X (.Tuple es x1 pos) (tTup t) := by
  intro pins s σ H Q I hq
  refine wpAny_Tuple_spliced (thn (h pos pins s σ H _ I hq) fun us s1 ⟨xs, H1, I1, r, z, q⟩ => ⟨by rw [← r.length]; exact z, ?_⟩)
  have hf : H1 s1.heap.objs.size = none := I1.hok.fresh (Nat.le_refl _)
  refine ⟨.ref s1.heap.objs.size, upd H1 s1.heap.objs.size (.tup xs), I1.laid (t' := s1.toks) (fun b u e => Heap.get?_push_of_some _ e) (Nat.le_refl _) ?_, rfl, q _ hf⟩
  exact ⟨z, us, r, ⟨_, Heap.get?_push_size _ rfl, rfl, _, rfl⟩⟩
theorem pe_lst (h : PA X es t) : PE X (.List es pos) (tLst t) := by
  intro pins s σ H Q I hq
  refine wpAny_List_spliced (thn (h pos pins s σ H _ I hq) fun us s1 ⟨xs, H1, I1, r, z, q⟩ => ⟨by rw [← r.length]; exact z, ?_⟩)
  have hf : H1 s1.heap.objs.size = none := I1.hok.fresh (Nat.le_refl _)
  refine ⟨.ref s1.heap.objs.size, upd H1 s1.heap.objs.size (.lst xs), I1.laid (t' := s1.toks) (fun b u e => Heap.get?_push_of_some _ e) (Nat.le_refl _) ?_, rfl, q _ hf⟩
  exact ⟨z, us, 0, r, Heap.get?_push_size _ rfl⟩
end

/-! ### what a def promises -/
/-- a def's promise: the bound arguments in the parameters' order, the heap, the wanted end, the wanted exception -/
abbrev Sp := List V → Hp → VK → XK → Prop
/-- how an exception lies behind a call (file 08 gives it): the callers' frames, abstract heap and state ahead of the call, the wish, the exception, the state -/
abbrev CXT := List Env → Hp → Shared → XK → Value → Shared → Prop

/-- the state at a call -/
structure Env0 (P : Program) (w : World) (K : PySem.W.Frag) (mg : Str → Option Value) (base : Heap) (A : Around) (outer : List Env) (s : Shared) (H : Hp) : Prop where
  frames : A.frames = some outer
  mod : Mod K mg base
  bs : ∀ b o, base.get? b = some o → s.heap.get? b = some o ∧ H b = none
  bsz : base.objs.size ≤ s.heap.objs.size
  funs : s.heap.FunFrames base outer
  frf : ∀ b ∈ frs outer, H b = none
  hok : HOk P w H s.heap
  bare : AllBare s.gens
/-- a call's end -/
def CE (outer : List Env) (P : Program) (w : World) (H : Hp) (s : Shared) (Q : VK) (u : Value) (s' : Shared) : Prop :=
  ∃ v H', s'.os = s.os ∧ AllBare s'.gens ∧ Un (frs outer) [] H H' s.heap s'.heap ∧ HOk P w H' s'.heap ∧ RelV v u ∧ Q v H'
def CR (CX : CXT) (outer : List Env) (P : Program) (w : World) (H : Hp) (s : Shared) (Q : VK) (E : XK) (r : Result) (s' : Shared) : Prop :=
  match r with
  | .ok (.ret u) => CE outer P w H s Q u s'
  | .ok _ => False
  | .error e => CX outer H s E e s'
structure FnOk (P : Program) (w : World) (K : PySem.W.Frag) (mg : Str → Option Value) (base : Heap) (CX : CXT) (k : Nat) (f : Addr) (fd : FuncData) (ps : List Str) (sp : Sp) : Prop where
  len : ∀ vs H Q E, sp vs H Q E → vs.length = ps.length
  run : ∀ (A : Around) (outer : List Env) (s : Shared) (H : Hp) (args : Args) (us : List Value) (vs : List V) (Q : VK) (E : XK), Room k A → Env0 P w K mg base A outer s H → BindsTo s fd args (ps.zip us) → Vals vs us → sp vs H Q E →
    codeAny (model P w) A (.call (.ref f) args) (CR CX outer P w H s Q E) s

theorem Env0.make {P : Program} {w : World} {K : PySem.W.Frag} {mg : Str → Option Value} {base : Heap} {A : Around} {outer : List Env} {s : Shared} {H : Hp} (e : Env0 P w K mg base A outer s H) (C : Addr) (us : List Value) (kw : List (Str × Value)) :
    Env0 P w K mg base (A.under (.builtin "type.__call__" ⟨.ref C :: us, kw⟩)) outer s H := ⟨by first | exact e.frames | (simpa [Around.under, Code.envs, Code.isFrame, pushEnvs] using e.frames), e.mod, e.bs, e.bsz, e.funs, e.frf, e.hok, e.bare⟩

section
variable {X : Cx} {pins : List (Addr × Obj)} {σ : St} {H : Hp} {s s' : Shared}
/-- from a body: what a callee wants -/
theorem Inv.env0 (I : Inv X pins σ H s) : Env0 X.prog X.w X.K X.mg X.base X.A X.stack s H :=
  ⟨I.ok.frames, I.ok.mod, I.bs, Nat.le_trans I.ok.bsz I.sz, I.stack, I.stkFree, I.hok, I.bare⟩
/-- behind a call -/
theorem Inv.after {Q : VK} {u : Value} (I : Inv X pins σ H s) (h : CE X.stack X.prog X.w H s Q u s') : EP X pins σ Q u s' := by
  obtain ⟨v, H', os, bare, un, hok, r, q⟩ := h
  obtain ⟨hh, g, d, t, os'⟩ := s'
  obtain rfl : os' = s.os := os
  exact ⟨v, H', I.call (h' := hh) (g' := g) (d' := d) (t' := t) (ch := []) un hok bare (fun b z => absurd z (by simp)), r, q⟩
end

/-! ### calls -/
/-- f(..): the written arguments, then the defaults dvs; E: what is wanted of an exception -/
def tCall (sp : Sp) (dvs : List V) (E : XK) (t : TA) : TE := fun σ H Q => t σ H fun vs H1 => sp (vs ++ dvs) H1 Q E
/-- o.m(..) of an instance of the class at C -/
def tMeth (C : Addr) (m : Str) (sp : Sp) (dvs : List V) (E : XK) (ta : TE) (t : TA) : TE := fun σ H Q => ta σ H fun x H1 => ∃ a dx fs, x = .ref a ∧ H1 a = some (.ins C dx fs) ∧ fs.lookup m = none ∧
  t σ H1 fun vs H2 => sp (x :: (vs ++ dvs)) H2 Q E
/-- C(..): a new instance and its dict, then __init__ -/
def tMake (C : Addr) (sp : Sp) (dvs : List V) (E : XK) (t : TA) : TE := fun σ H Q => t σ H fun vs H1 => ∀ x dx, H1 x = none → H1 dx = none → dx ≠ x →
  sp (.ref x :: (vs ++ dvs)) (upd (upd H1 dx (.own x)) x (.ins C dx [])) (fun v H2 => v = .non ∧ Q (.ref x) H2) E

/-- how the parameters are bound: us the positional arguments, kw the keywords' values by name, ds the defaults that fill up -/
def Binds (K : PySem.W.Frag) (fd : FuncData) (ps : List Str) (ds : List Value) : Prop :=
  ∀ (s : Shared) (us : List Value), K.In s.heap → (us ++ ds).length = ps.length → BindsTo s fd ⟨us, []⟩ (ps.zip (us ++ ds))
/-- every parameter is given -/
theorem Binds.all {K : PySem.W.Frag} {fd : FuncData} {ps : List Str} (h : ∀ us : List Value, us.length = ps.length → bindArgs fd ⟨us, []⟩ = pure (ps.zip us)) : Binds K fd ps [] := fun s us _ hl => by
  rw [List.append_nil] at hl ⊢
  exact .of_eq (h us hl)

/-- an exception of a callee reaches what this body wants of exceptions -/
def Passes (CX : CXT) (X : Cx) (E : XK) : Prop := ∀ (pins : List (Addr × Obj)) (σ : St) (H : Hp) (s : Shared) (e : Value) (s' : Shared), Inv X pins σ H s → CX X.stack H s E e s' → X.xe e s'

section
variable {X : Cx} {CX : CXT} {k : Nat} {f C : Addr} {fd : FuncData} {ps : List Str} {sp : Sp} {dvs : List V} {ds : List Value} {E : XK} {x m : Str} {p pos apos : Pos} {e o : Expr} {es : List Expr} {ta : TE} {t : TA}

/-- the callee runs -/
theorem run_fn {pins : List (Addr × Obj)} {σ : St} {H : Hp} {s : Shared} {Q : VK} {us : List Value} {vs : List V} (F : FnOk X.prog X.w X.K X.mg X.base CX k f fd ps sp) (hr : Room k X.A) (hb : Binds X.K fd ps ds) (hd : Vals dvs ds) (hx : Passes CX X E)
    (I : Inv X pins σ H s) (r : Vals vs us) (h : sp (vs ++ dvs) H Q E) : wpAny (model X.prog X.w) X.A (call (.ref f) us) (EP X pins σ Q) X.xe s := by
  have r2 : Vals (vs ++ dvs) (us ++ ds) := r.append hd
  have hl : (us ++ ds).length = ps.length := by rw [← r2.length]; exact F.len _ _ _ _ h
  refine wpAny_call (codeAny_mono (F.run X.A X.stack s H ⟨us, []⟩ (us ++ ds) (vs ++ dvs) Q E hr I.env0 (hb s us I.kIn hl) r2 h) fun r s' hq => ?_)
  cases r with
  | error e => exact hx pins σ H s e s' I hq
  | ok fl =>
    cases fl with
    | ret u => exact I.after hq
    | next => exact False.elim hq
    | brk => exact False.elim hq
    | cont => exact False.elim hq

theorem pe_call (F : FnOk X.prog X.w X.K X.mg X.base CX k f fd ps sp) (hr : Room k X.A) (hg : Gl X x) (hm : X.mg x = some (.ref f)) (hk : PySem.W.keepIn X.K (.ref f) = true) (hb : Binds X.K fd ps ds) (hd : Vals dvs ds) (hx : Passes CX X E)
    (ha : PA X (e :: es) t) (hdb : (x == ("__debug__" : Str)) = false := by decide) (he : starEach (e :: es) X.env = (false, eval e X.env) :: starEach es X.env := by rfl) (hpl : (backTo pos (starEach es X.env)).any (·.1) = false := by rfl) :
    PE X (.Call (.Name x p) (e :: es) [] pos) (tCall sp dvs E t) := by
  intro pins s σ H Q I h
  refine wpAny_Call_Name_kw (ld_glob I hg hm ?_ hdb)
  refine PySem.W.callWith_K (h₀ := X.base) I.ok.mod.kin hk (thn (ha pos pins s σ H _ I h) fun us s1 ⟨vs, H1, I1, r, q⟩ => ⟨I1.kIn, ?_⟩) he hpl
  exact run_fn F hr hb hd hx I1 r q

/-- o.m(e, ..) -/
theorem pe_meth {pl : Sem Bool} (he : PE X o ta) (c : Cls X.K C) (hm : Meth X.K C m f) (F : FnOk X.prog X.w X.K X.mg X.base CX k f fd ps sp) (hr : Room k X.A) (hb : Binds X.K fd ps ds) (hd : Vals dvs ds) (hx : Passes CX X E) (ha : PA X (e :: es) t)
    (hst : starEach (e :: es) X.env = (false, eval e X.env) :: starEach es X.env := by rfl) (hpl : (backTo pos (starEach es X.env)).any (·.1) = false := by rfl)
    (ht : eval (.Call (.Attribute o m apos) (e :: es) [] pos) X.env = (do
      let ov ← eval o X.env
      standAt apos.atName
      let (f, first) ← holding [ov] (getMethod ov m pl)
      callWith pos f first (backTo pos (starEach (e :: es) X.env)) (backToKw pos (keywordEach [] X.env))) := by rfl) :
    PE X (.Call (.Attribute o m apos) (e :: es) [] pos) (tMeth C m sp dvs E ta t) := by
  intro pins s σ H Q I h
  refine PySem.W.methodCall_KW (pl := pl) (thn (he pins s σ H _ I h) fun u s1 ⟨x, H1, I1, rx, a, dx, fs, ex, ea, l, q⟩ => ?_) ht
  subst ex
  obtain rfl : u = Value.ref a := rx
  refine getmeth_ok I1 ea c hm l ?_
  refine PySem.W.callWith_K (first := [.ref a]) (h₀ := X.base) I.ok.mod.kin hm.kp (thn (ha pos pins s1 σ H1 _ I1 q) fun us s2 ⟨vs, H2, I2, r, q2⟩ => ⟨I2.kIn, ?_⟩) hst hpl
  exact run_fn (us := .ref a :: us) (vs := .ref a :: vs) F hr hb hd hx I2 (.cons rfl r) q2
/-- o.m() -/
theorem pe_meth0 {pl : Sem Bool} (he : PE X o ta) (c : Cls X.K C) (hm : Meth X.K C m f) (F : FnOk X.prog X.w X.K X.mg X.base CX k f fd ps sp) (hr : Room k X.A) (hb : Binds X.K fd ps ds) (hd : Vals dvs ds) (hx : Passes CX X E)
    (ht : eval (.Call (.Attribute o m apos) [] [] pos) X.env = (do
      let ov ← eval o X.env
      standAt apos.atName
      let (f, first) ← holding [ov] (getMethod ov m pl)
      callWith pos f first (backTo pos (starEach [] X.env)) (backToKw pos (keywordEach [] X.env))) := by rfl) :
    PE X (.Call (.Attribute o m apos) [] [] pos) (tMeth C m sp dvs E ta tNil) := by
  intro pins s σ H Q I h
  refine PySem.W.methodCall_KW (pl := pl) (thn (he pins s σ H _ I h) fun u s1 ⟨x, H1, I1, rx, a, dx, fs, ex, ea, l, q⟩ => ?_) ht
  subst ex
  obtain rfl : u = Value.ref a := rx
  refine getmeth_ok I1 ea c hm l ?_
  exact PySem.W.callWith_K0 (first := [.ref a]) I1.kIn hm.kp (run_fn (us := [.ref a]) (vs := [.ref a]) F hr hb hd hx I1 (.cons rfl .nil) q)

/-- what a class must have to be made -/
structure Mk (K : PySem.W.Frag) (C f : Addr) : Prop where
  makes : PySem.W.makesIn K C = true
  init : PySem.W.findIn K (.ref C) "__init__" = some (some (.ref f))
  fn : PySem.W.isFn K (.ref f) = true
  kp : PySem.W.keepIn K (.ref C) = true

theorem run_make {pins : List (Addr × Obj)} {σ : St} {H : Hp} {s : Shared} {Q : VK} {us : List Value} {vs : List V} (M : Mk X.K C f) (F : FnOk X.prog X.w X.K X.mg X.base CX k f fd ps sp) (hr : Room (k + 1) X.A) (hb : Binds X.K fd ps ds) (hd : Vals dvs ds)
    (hx : Passes CX X E) (I : Inv X pins σ H s) (r : Vals vs us)
    (h : ∀ x dx, H x = none → H dx = none → dx ≠ x → sp (.ref x :: (vs ++ dvs)) (upd (upd H dx (.own x)) x (.ins C dx [])) (fun v H2 => v = .non ∧ Q (.ref x) H2) E) :
    wpAny (model X.prog X.w) X.A (call (.ref C) us) (EP X pins σ Q) X.xe s := by
  have hq := h (s.heap.objs.size + 1) s.heap.objs.size (I.hok.fresh (Nat.le_succ _)) (I.hok.fresh (Nat.le_refl _)) (Nat.ne_of_lt (Nat.lt_succ_self _))
  have I2 := Inv.made (C := C) I
  have r2 : Vals (V.ref (s.heap.objs.size + 1) :: (vs ++ dvs)) (Value.ref (s.heap.objs.size + 1) :: (us ++ ds)) := .cons rfl (r.append hd)
  have hl : (Value.ref (s.heap.objs.size + 1) :: us ++ ds).length = ps.length := by
    have e := r2.length
    rw [F.len _ _ _ _ hq] at e
    exact e.symm
  refine wpAny_call (make_map (f := f) I.kIn M.makes M.init (beq_iff_eq.mp M.fn) (codeAny_mono (F.run _ X.stack _ _ ⟨Value.ref (s.heap.objs.size + 1) :: us, []⟩ (Value.ref (s.heap.objs.size + 1) :: (us ++ ds)) _ _ E (hr.make C us [])
    (I2.env0.make C us []) (hb _ (Value.ref (s.heap.objs.size + 1) :: us) I2.kIn hl) r2 hq) fun r s' hq' => ?_))
  cases r with
  | error e => exact hx pins σ _ _ e s' I2 hq'
  | ok fl =>
    cases fl with
    | ret u =>
      obtain ⟨v, H', I3, rv, ev, q3⟩ := I2.after hq'
      subst ev
      exact ⟨rv, ⟨V.ref (s.heap.objs.size + 1), H', I3, rfl, q3⟩⟩
    | next => exact False.elim hq'
    | brk => exact False.elim hq'
    | cont => exact False.elim hq'
theorem pe_make (M : Mk X.K C f) (F : FnOk X.prog X.w X.K X.mg X.base CX k f fd ps sp) (hr : Room (k + 1) X.A) (hg : Gl X x) (hm : X.mg x = some (.ref C)) (hb : Binds X.K fd ps ds) (hd : Vals dvs ds) (hx : Passes CX X E)
    (ha : PA X (e :: es) t) (hdb : (x == ("__debug__" : Str)) = false := by decide) (he : starEach (e :: es) X.env = (false, eval e X.env) :: starEach es X.env := by rfl) (hpl : (backTo pos (starEach es X.env)).any (·.1) = false := by rfl) :
    PE X (.Call (.Name x p) (e :: es) [] pos) (tMake C sp dvs E t) := by
  intro pins s σ H Q I h
  refine wpAny_Call_Name_kw (ld_glob I hg hm ?_ hdb)
  refine PySem.W.callWith_K (h₀ := X.base) I.ok.mod.kin M.kp (thn (ha pos pins s σ H _ I h) fun us s1 ⟨vs, H1, I1, r, q⟩ => ⟨I1.kIn, ?_⟩) he hpl
  exact run_make M F hr hb hd hx I1 r q
end

/-! ### keywords -/
/-- the values of the keywords, from the left -/
def PK (X : Cx) (kws : List Keyword) (t : TA) : Prop :=
  ∀ (pos : Pos) (pins : List (Addr × Obj)) (s : Shared) (σ : St) (H : Hp) (Q : List V → Hp → Prop), Inv X pins σ H s → t σ H Q → wpAny (model X.prog X.w) X.A (evalAll ((backToKw pos (keywordEach kws X.env)).map (·.2))) (AP X pins σ Q) X.xe s
section
variable {X : Cx} {CX : CXT} {k : Nat} {f C : Addr} {fd : FuncData} {ps ks : List Str} {sp : Sp} {E : XK} {x m : Str} {p pos apos kpos : Pos} {e o : Expr} {es : List Expr} {kws : List Keyword} {te ta : TE} {t tk : TA} {nm : Option Str}

/-- how a call with keywords binds: g puts the positional values us and the keywords' values ws (names ks) in the parameters' order, defaults among them -/
structure KBinds (K : PySem.W.Frag) (fd : FuncData) (ps ks : List Str) (g : List Value → List Value → List Value) (gV : List V → List V → List V) : Prop where
  to : ∀ (s : Shared) (us ws : List Value), K.In s.heap → (g us ws).length = ps.length → BindsTo s fd ⟨us, ks.zip ws⟩ (ps.zip (g us ws))
  rel : ∀ {vs : List V} {us : List Value} {zs : List V} {ws : List Value}, Vals vs us → Vals zs ws → Vals (gV vs zs) (g us ws)
def tCallK (sp : Sp) (gV : List V → List V → List V) (E : XK) (t tk : TA) : TE := fun σ H Q => t σ H fun vs H1 => tk σ H1 fun zs H2 => sp (gV vs zs) H2 Q E
variable {g : List Value → List Value → List Value} {gV : List V → List V → List V}
end

/-! ### a def's body keeps its promise -/
/-- names: the parameters first -/
structure FnScope (N P : List Str) (sc : Scope) : Prop where
  kind : sc.kind = .function
  co : sc.isCoroutine = false
  gen : sc.isGenerator = false
  nd : N.Nodup
  pre : N.take P.length = P
  par : ∀ x ∈ P, sc.names.lookup x = some .local ∨ sc.names.lookup x = some .cell
  nofree : ∀ y ∈ sc.names, y.2 ≠ .free

theorem bindL_out {kindOf : Str → Option NameKind} {x : Str} : ∀ {binds : List (Str × Value)} {m : Str → Option Value}, (∀ v, (x, v) ∉ binds) → bindL kindOf binds m x = m x
  | [], _, _ => rfl
  | (n, v) :: r, m, h => by
    unfold bindL
    rw [bindL_out fun w hw => h w (List.mem_cons_of_mem _ hw)]
    split
    · have : x ≠ n := by rintro rfl; exact h v List.mem_cons_self
      simp [this]
    · rfl
theorem bindC_out {kindOf : Str → Option NameKind} {x : Str} : ∀ {binds : List (Str × Value)} {m : Str → Option Value}, (∀ v, (x, v) ∉ binds) → bindC kindOf binds m x = m x
  | [], _, _ => rfl
  | (n, v) :: r, m, h => by
    unfold bindC
    rw [bindC_out fun w hw => h w (List.mem_cons_of_mem _ hw)]
    split
    · rfl
    · have : x ≠ n := by rintro rfl; exact h v List.mem_cons_self
      simp [this]
theorem bindL_get {kindOf : Str → Option NameKind} {x : Str} {v : Value} : ∀ {P : List Str} {vs : List Value} {i : Nat} {m : Str → Option Value}, P.Nodup → P[i]? = some x → vs[i]? = some v → kindOf x = some .local →
    bindL kindOf (P.zip vs) m x = some v
  | [], _, _, _, _, h, _, _ => by simp at h
  | _ :: _, [], _, _, _, _, h, _ => by simp at h
  | p :: P, w :: vs, 0, m, nd, h1, h2, hk => by
    simp at h1 h2; subst h1; subst h2
    show bindL kindOf ((p, w) :: P.zip vs) m p = _
    unfold bindL
    rw [bindL_out fun v hv => (List.nodup_cons.mp nd).1 (List.of_mem_zip hv).1, if_pos hk]
    simp
  | p :: P, w :: vs, i + 1, m, nd, h1, h2, hk => by
    show bindL kindOf ((p, w) :: P.zip vs) m x = _
    unfold bindL
    exact bindL_get (i := i) (List.nodup_cons.mp nd).2 (by simpa using h1) (by simpa using h2) hk
theorem bindC_get {kindOf : Str → Option NameKind} {x : Str} {v : Value} : ∀ {P : List Str} {vs : List Value} {i : Nat} {m : Str → Option Value}, P.Nodup → P[i]? = some x → vs[i]? = some v → kindOf x ≠ some .local →
    bindC kindOf (P.zip vs) m x = some v
  | [], _, _, _, _, h, _, _ => by simp at h
  | _ :: _, [], _, _, _, _, h, _ => by simp at h
  | p :: P, w :: vs, 0, m, nd, h1, h2, hk => by
    simp at h1 h2; subst h1; subst h2
    show bindC kindOf ((p, w) :: P.zip vs) m p = _
    unfold bindC
    rw [bindC_out fun v hv => (List.nodup_cons.mp nd).1 (List.of_mem_zip hv).1, if_neg hk]
    simp
  | p :: P, w :: vs, i + 1, m, nd, h1, h2, hk => by
    show bindC kindOf ((p, w) :: P.zip vs) m x = _
    unfold bindC
    exact bindC_get (i := i) (List.nodup_cons.mp nd).2 (by simpa using h1) (by simpa using h2) hk

/-- the names' values at the entry -/
def start (N : List Str) (vs : List V) : St := vs.map some ++ List.replicate (N.length - vs.length) none

/-- the context of a def's body, at its entry; an exception leaves the frame, then lies as CX says -/
def cxOf (CX : CXT) (P : Program) (w : World) (K : PySem.W.Frag) (mg : Str → Option Value) (base : Heap) (N : List Str) (qual : Str) (scope : Scope) (f : Addr) (cd : Value) (A : Around) (outer : List Env) (s : Shared) (H : Hp) (E : XK) : Cx where
  prog := P
  w := w
  K := K
  mg := mg
  base := base
  A := A.deeper (envOfC qual scope s.heap.objs.size f cd)
  N := N
  s₀ := s
  H₀ := H
  env := envOfC qual scope s.heap.objs.size f cd
  outer := outer
  stack := envOfC qual scope s.heap.objs.size f cd :: outer
  ex := []
  calm := true
  fn := fun _ => true
  pn := []
  xe := fun e s' => wpAny (model P w) (A.deeper (envOfC qual scope s.heap.objs.size f cd)) (leaving (envOfC qual scope s.heap.objs.size f cd) e) (fun _ s'' => CX outer H s E e s'') (fun e' s'' => CX outer H s E e' s'') s'

theorem cell_has {sc : Scope} {n : Nat} {x : Str} (h : sc.names.lookup x = some .cell) : ∃ c, (cellsFrom n sc.names []).lookup x = some c := by
  have q := PySem.W.cellsFrom_some sc.names n [] (.inl h)
  exact Option.isSome_iff_exists.mp q

theorem inv_start {CX : CXT} {P : Program} {w : World} {K : PySem.W.Frag} {mg : Str → Option Value} {base : Heap} {N ps : List Str} {qual : Str} {scope : Scope} {f : Addr} {cd : Value} {A : Around} {outer : List Env} {s s1 : Shared} {H : Hp} {E : XK} {us : List Value} {vs : List V}
    (S : FnScope N ps scope) (hd : A.handled = none) (e0 : Env0 P w K mg base A outer s H) (hl : vs.length = ps.length) (r : Vals vs us)
    (x : InCallC s s.heap.objs.size (bindL (envOfC qual scope s.heap.objs.size f cd).kindOf (ps.zip us) fun _ => none) (cellsFrom (s.heap.objs.size + 1) scope.names []) (bindC (envOfC qual scope s.heap.objs.size f cd).kindOf (ps.zip us) fun _ => none) s1) :
    Inv (cxOf CX P w K mg base N qual scope f cd A outer s H E) [] (start N vs) H s1 := by
  have hpl : ps.length ≤ N.length := by have := congrArg List.length S.pre; rw [List.length_take] at this; omega
  obtain ⟨h1, tk, rfl, hk⟩ := x.done
  have noA : ∀ b : Addr, b ∉ (cxOf CX P w K mg base N qual scope f cd A outer s H E).ex := fun b z => absurd (show b ∈ ([] : List Addr) from z) (by simp)
  refine ⟨⟨e0.mod, S.kind, rfl, rfl, Nat.le_refl _, fun y z c h1 h2 => ?_, fun y hy => ?_, fun y c _ h => ?_, fun _ => hd, Around.frames_deeper e0.frames, .inr ⟨rfl, rfl⟩, fun b z => absurd z (noA b), e0.bs, e0.bsz, fun b _ _ => noA b, fun b z => absurd z (noA b), e0.funs, e0.frf⟩,
    rfl, e0.bare, Un.kept hk, ⟨_, x.toInCall.ns, fun i y v h1 h2 h3 => ?_⟩, fun y c h => ⟨_, x.cell y c h⟩, e0.hok.fresh (Nat.le_refl _), fun y c h => ?_, fun p hp => absurd (show p ∈ ([] : List (Addr × Obj)) from hp) (by simp), e0.hok.kept hk, ?_⟩
  · exact name_of_addr x.apart (PySem.mem_of_lookup h1) (PySem.mem_of_lookup h2)
  · have hy : scope.names.lookup y = some .cell ∨ scope.names.lookup y = some .free := hy
    rcases hy with hy | hy
    · exact cell_has hy
    · exact absurd rfl (S.nofree _ (PySem.mem_of_lookup hy))
  · exact Nat.le_of_lt (x.above y c (PySem.mem_of_lookup h))
  · have hi : i < vs.length := by
      unfold start at h2
      by_cases hi : i < vs.length
      · exact hi
      · rw [List.getElem?_append_right (by simpa using hi)] at h2
        rw [List.getElem?_replicate] at h2
        split at h2 <;> cases h2
    have ha : vs[i]? = some v := by
      unfold start at h2
      rw [List.getElem?_append_left (by simpa using hi), List.getElem?_map] at h2
      cases e : vs[i]? with
      | none => rw [e] at h2; cases h2
      | some a => rw [e] at h2; cases h2; rfl
    obtain ⟨u, hu, rv⟩ := r.get ha
    have hp : ps[i]? = some y := by
      rw [← S.pre, List.getElem?_take_of_lt (by omega)]; exact h1
    have ndP : ps.Nodup := by rw [← S.pre]; exact S.nd.sublist (List.take_sublist _ _)
    refine ⟨u, rv, ?_⟩
    rcases S.par y (List.mem_of_getElem? hp) with k | k
    · exact .inl ⟨k, bindL_get ndP hp hu k⟩
    · obtain ⟨c, e⟩ := cell_has (n := s.heap.objs.size + 1) k
      refine .inr ⟨.inl k, c, e, ?_⟩
      have q := x.cell y c e
      rw [bindC_get ndP hp hu (by show scope.names.lookup y ≠ _; rw [k]; decide)] at q
      exact q
  · exact e0.hok.fresh (Nat.le_of_lt (x.above y c (PySem.mem_of_lookup h)))
  · unfold start
    show _ = N.length
    rw [List.length_append, List.length_map, List.length_replicate]
    omega

/-- THE RULE: a def (or a method) of the text, by its body. The body's reading t is chosen for each entry; it is run at the parameters' values -/
theorem fn_of {CX : CXT} {P : Program} {w : World} {K : PySem.W.Frag} {mg : Str → Option Value} {base : Heap} {k : Nat} {f : Addr} {name qual : Str} {params : Arguments} {body : List Stmt} {scope : Scope} {dV kV doc pm cdv ct oc : Value} {an od : Option Addr}
    {osl : Array (Option Value)} {N ps : List Str} {sp : Sp} (lk : K.lookup f = some ⟨oc, od, .func (PySem.W.fnOf name qual params body scope dV kV doc pm an cdv ct), osl⟩) (hcd : PySem.W.codeIn K cdv qual = true) (S : FnScope N ps scope)
    (len : ∀ vs H Q E, sp vs H Q E → vs.length = ps.length)
    (hbody : ∀ (A : Around) (outer : List Env) (s : Shared) (H : Hp) (vs : List V) (Q : VK) (E : XK), Room k (A.deeper (envOfC qual scope s.heap.objs.size f cdv)) → sp vs H Q E →
      ∃ t, PSs (cxOf CX P w K mg base N qual scope f cdv A outer s H E) body t ∧ t { nx := fun _ H' => Q .non H', rt := Q } (start N vs) H) :
    FnOk P w K mg base CX (k + 1) f (PySem.W.fnOf name qual params body scope dV kV doc pm an cdv ct) ps sp := by
  refine ⟨len, fun A outer s H args us vs Q E hr e0 hb r hsp => ?_⟩
  have hl := len _ _ _ _ hsp
  have KX : K.In s.heap := e0.mod.kin.keeps fun b o e => (e0.bs b o e).1
  have lim : s.heap.NoLimit := e0.mod.nolimit.keeps fun b o e => (e0.bs b o e).1
  have hkind : ∀ y ∈ ps.zip us, scope.names.lookup y.1 = some .local ∨ (scope.names.lookup y.1 = some .cell ∧ ((cellsFrom (s.heap.objs.size + 1) scope.names []).lookup y.1).isSome = true) := fun ⟨n, v⟩ hy => by
    rcases S.par n (List.of_mem_zip hy).1 with q | q
    · exact .inl q
    · exact .inr ⟨q, PySem.W.cellsFrom_some _ _ _ (.inl q)⟩
  refine codeAny_call_function hr.depth (KX _ _ lk) rfl S.co S.gen rfl (PySem.W.codeRec_of KX hcd) (hb _ _ _ _ ?_)
  refine wpAny_newFunctionEnv_cells S.kind hkind fun env he s1 x => ?_
  subst he
  refine ⟨lim.keeps x.toInCall.keep, codeAny_func ?_⟩
  obtain ⟨t, ht, hq⟩ := hbody A outer s H vs Q E (hr.deeper _) hsp
  have I : Inv (cxOf CX P w K mg base N qual scope f cdv A outer s H E) [] (start N vs) H s1 := inv_start S hr.hd e0 hl r x
  refine wpAny_mono (ht [] s1 (start N vs) H _ I hq) (fun fl s' hs => ?_) fun e s' hs => hs
  have fin : ∀ {σ' : St} {H' : Hp} {v : V} {u : Value}, Inv (cxOf CX P w K mg base N qual scope f cdv A outer s H E) [] σ' H' s' → RelV v u → Q v H' → CE outer P w H s Q u s' :=
    fun {σ' H' v u} J rv q => ⟨v, H', J.os, J.bare, J.base, J.hok, rv, q⟩
  cases fl with
  | ret u =>
    obtain ⟨v, σ', H', J, rv, q⟩ := hs
    exact fin J rv q
  | next =>
    obtain ⟨σ', H', J, q⟩ := hs
    exact fin (v := V.non) (u := Value.none) J rfl q
  | brk =>
    obtain ⟨_, _, _, q⟩ := hs
    exact False.elim q
  | cont =>
    obtain ⟨_, _, _, q⟩ := hs
    exact False.elim q
end L2

namespace L2
open PySem PySem.Spec PyProof.Rows
section
variable {X : Cx} {x : Str} {p pos : Pos} {e : Expr} {es : List Expr} {t : TA} {id T : String} {r : List V → Hp → VK → Prop}

def tCB (r : List V → Hp → VK → Prop) (t : TA) : TE := fun σ H Q => t σ H fun vs H1 => r vs H1 Q
/-- f(e, ..), f a built-in function -/
theorem pe_callB (hc : CallR X (.builtin id) r) (hg : Gl X x) (hm : X.mg x = none) (hv : bootBuiltins x = some (.builtin id)) (ha : PA X (e :: es) t) (hn : x ≠ "__name__" := by decide) (hdb : (x == ("__debug__" : Str)) = false := by decide)
    (he : starEach (e :: es) X.env = (false, eval e X.env) :: starEach es X.env := by rfl) (hpl : (backTo pos (starEach es X.env)).any (·.1) = false := by rfl) : PE X (.Call (.Name x p) (e :: es) [] pos) (tCB r t) := by
  intro pins s σ H Q I h
  refine wpAny_Call_Name_kw (ld_blt I hg hm hv ?_ hn hdb)
  exact PyProof.Rows.callWith_builtin1 (thn (ha pos pins s σ H _ I h) fun us s1 ⟨vs, H1, I1, r1, q1⟩ => hc pins s1 σ H1 vs us Q I1 r1 q1) he hpl
/-- T(e, ..), T a built-in type -/
theorem pe_callTy (hc : CallR X (.type T) r) (hg : Gl X x) (hm : X.mg x = none) (hv : bootBuiltins x = some (.type T)) (ha : PA X (e :: es) t) (hn : x ≠ "__name__" := by decide) (hdb : (x == ("__debug__" : Str)) = false := by decide)
    (he : starEach (e :: es) X.env = (false, eval e X.env) :: starEach es X.env := by rfl) (hpl : (backTo pos (starEach es X.env)).any (·.1) = false := by rfl) : PE X (.Call (.Name x p) (e :: es) [] pos) (tCB r t) := by
  intro pins s σ H Q I h
  refine wpAny_Call_Name_kw (ld_blt I hg hm hv ?_ hn hdb)
  exact PyProof.Rows.callWith_type1 (thn (ha pos pins s σ H _ I h) fun us s1 ⟨vs, H1, I1, r1, q1⟩ => hc pins s1 σ H1 vs us Q I1 r1 q1) he hpl
end
end L2

namespace HT
open PySem PyProof.Rows

/-- t < u of tuples of ints -/
def lexLt : List Int → List Int → Bool
  | [], [] => false
  | [], _ :: _ => true
  | _ :: _, [] => false
  | x :: xs, y :: ys => if x = y then lexLt xs ys else decide (x < y)


section
open PySem.SeqAt
open PySem.AutoSeq1 (wpAny_loadPart')
open PySem.MeetsSeq PySem.MeetsSeq2 PySem.MeetsSeq3

end

section
variable {prog : Program} {w : World} {A : Around} {E : Value → Shared → Prop} {s : Shared}


/-- t + u, t not empty -/
theorem cat_tup {t b : Addr} {vs ws : List Value} {Q : Value → Shared → Prop} (ht : IsTup s.heap t vs.toArray) (hb : IsTup s.heap b ws.toArray) (hv : vs ≠ [])
    (h1 : ws = [] → Q (.ref t) s) (h2 : ws ≠ [] → Q (.ref s.heap.objs.size) { s with heap := s.heap.push { cls := .type "tuple", data := .seq (vs ++ ws).toArray } })
    (hsz : vs.length + ws.length ≤ sizeLine) : wpAny (model prog w) A (binaryOp .Add (.ref t) (.ref b)) Q E s := by
  obtain ⟨⟨cls, dd, data, sl⟩, ho, hc, n, hd⟩ := id ht
  obtain ⟨⟨cls2, dd2, data2, sl2⟩, ho2, hc2, n2, hd2⟩ := id hb
  simp only at hc hd hc2 hd2
  subst hc hd hc2 hd2
  have e : vs.toArray ++ ws.toArray = (vs ++ ws).toArray := by simp
  by_cases hw : ws = []
  · exact concat_meets ⟨_, ho, rfl⟩ ⟨_, ho2, rfl⟩ noFill_tuple_add seq_tuple_add PySem.F.slot_tuple_add PySem.F.entry_tuple_add (PySem.F.args_tuple_add_2 _ _)
      (tuple_addW1 t b vs.toArray ws.toArray n n2 dd dd2 sl sl2 (by simpa using hv) (by simp [hw])) ⟨ho, ho2, h1 hw⟩
  · refine concat_meets ⟨_, ho, rfl⟩ ⟨_, ho2, rfl⟩ noFill_tuple_add seq_tuple_add PySem.F.slot_tuple_add PySem.F.entry_tuple_add (PySem.F.args_tuple_add_2 _ _)
      (tuple_addW2 t b vs.toArray ws.toArray n n2 dd dd2 sl sl2 (by simpa using hv) (by simpa using hw) (by rw [List.size_toArray, List.size_toArray]; exact hsz)) ⟨ho, ho2, ?_⟩
    rw [e]
    exact h2 hw

/-! ### t[a:b], not the whole -/
/-- a slice's bound as a place among n (d where it is left out) -/
def sIx (n d : Nat) : Option Int → Nat
  | none => d
  | some v => if v < 0 then (v + (n : Int)).toNat else min v.toNat n
theorem sIx_none (n d : Nat) : sIx n d none = d := rfl
theorem sIx_nat (n d k : Nat) : sIx n d (some (k : Int)) = min k n := by
  show (if (k : Int) < 0 then ((k : Int) + (n : Int)).toNat else min (k : Int).toNat n) = min k n
  rw [if_neg (by omega), Int.toNat_natCast]

end
end HT

namespace L2
open PySem PySem.Spec PyProof.Rows

/-! ### the parts of a slice -/
abbrev TO := St → Hp → (Option Int → Hp → Prop) → Prop
/-- a slice's part (left out, or an int) -/
def PO (X : Cx) (e : Option Expr) (t : TO) : Prop :=
  ∀ (pins : List (Addr × Obj)) (s : Shared) (σ : St) (H : Hp) (Q : Option Int → Hp → Prop), Inv X pins σ H s → t σ H Q →
    wpAny (model X.prog X.w) X.A (evalPart e X.env) (fun u s' => ∃ o H', Inv X pins σ H' s' ∧ IsPart u o ∧ Q o H') X.xe s
def tNoPart : TO := fun _ H Q => Q none H
def tPart (t : TE) : TO := fun σ H Q => t σ H fun x H1 => ∃ i, x = .int i ∧ Q (some i) H1


section
variable {X : Cx} {e : Expr} {te : TE} {lo hi : Option Expr} {tl th : TO} {pos p2 : Pos}

theorem po_none : PO X none tNoPart := by
  intro pins s σ H Q I h
  rw [evalPart_none]
  exact wpAny_pure ⟨none, H, I, .none, h⟩
theorem po_some (h : PE X e te) : PO X (some e) (tPart te) := by
  intro pins s σ H Q I hw
  rw [evalPart_some]
  refine thn (h pins s σ H _ I hw) fun u s1 ⟨x, H1, I1, r1, q1⟩ => ?_
  obtain ⟨i, rfl, q⟩ := q1
  obtain ⟨t, rfl⟩ := r1
  exact ⟨some i, H1, I1, .int i t, q⟩

/-- what a slice of a value is, by values: the slice object stands at sl -/
def SlR (X : Cx) (r : V → Option Int → Option Int → Hp → VK → Prop) : Prop :=
  ∀ (pins : List (Addr × Obj)) (s : Shared) (σ : St) (H : Hp) (x : V) (v vl vu : Value) (lo hi : Option Int) (sl : Addr) (Q : VK), Inv X pins σ H s → RelV x v → s.heap.IsSliceOf sl vl vu .none → IsPart vl lo → IsPart vu hi → r x lo hi H Q →
    ∃ T id, typeLookup (.type T) "__getitem__" = pure (some (.builtin id)) ∧ s.TypeIs v T ∧ wpAny (model X.prog X.w) X.A (getItem v (.ref sl)) (EP X pins σ Q) X.xe s
def tSl (r : V → Option Int → Option Int → Hp → VK → Prop) (te : TE) (tl th : TO) : TE := fun σ H Q => te σ H fun x H1 => tl σ H1 fun l H2 => th σ H2 fun u H3 => r x l u H3 Q
/-- a[lo:hi], any a -/
theorem pe_slice {r : V → Option Int → Option Int → Hp → VK → Prop} (hr : SlR X r) (he : PE X e te) (hl : PO X lo tl) (hu : PO X hi th) : PE X (.Subscript e (.Slice lo hi none p2) pos) (tSl r te tl th) := by
  intro pins s σ H Q I h
  refine Subscript_ (thn (he pins s σ H _ I h) fun v s1 ⟨x, H1, I1, r1, q1⟩ => ?_)
  refine wpAny_Slice (thn (hl pins s1 σ H1 _ I1 q1) fun vl s2 ⟨l, H2, I2, pl, q2⟩ => thn (hu pins s2 σ H2 _ I2 q2) fun vu s3 ⟨u, H3, I3, pu, q3⟩ => ?_)
  rw [evalPart_none]
  refine wpAny_pure ?_
  have I4 : Inv X pins σ H3 { s3 with heap := s3.heap.push { cls := .type "slice", data := .fields #[vl, vu, .none] } } := I3.kept (t' := s3.toks) fun b ob q => Heap.get?_push_of_some _ q
  obtain ⟨T, id, hT, ht, hg⟩ := hr pins { s3 with heap := s3.heap.push { cls := .type "slice", data := .fields #[vl, vu, .none] } } σ H3 x v vl vu l u s3.heap.objs.size Q I4 r1 (Heap.IsSliceOf.new ..) pl pu q3
  show wpAny (model X.prog X.w) X.A (subscriptTail e (.Slice lo hi none p2) v (.ref s3.heap.objs.size)) (EP X pins σ Q) X.xe { s3 with heap := s3.heap.push { cls := .type "slice", data := .fields #[vl, vu, .none] } }
  exact tail_any (ops := [.ref s3.heap.objs.size, v]) ht hT hg (by with_unfolding_all rfl)

/-- the items of xs[lo:hi] -/
def cutV (xs : List V) (lo hi : Option Int) : List V := (xs.drop (HT.sIx xs.length 0 lo)).take (HT.sIx xs.length xs.length hi - HT.sIx xs.length 0 lo)
theorem cutV_length (xs : List V) (lo hi : Option Int) : (cutV xs lo hi).length ≤ xs.length := by
  unfold cutV
  rw [List.length_take, List.length_drop]
  omega
/-- t[lo:hi], not the whole of it (the whole would be t itself) -/
def rSlT (K : PySem.W.Frag) : V → Option Int → Option Int → Hp → VK → Prop := fun x lo hi H Q => ∃ a xs, x = .ref a ∧ SqT K H a xs ∧
  ¬ (HT.sIx xs.length 0 lo = 0 ∧ HT.sIx xs.length xs.length hi = xs.length) ∧ ∀ p, H p = none → Q (.ref p) (upd H p (.tup (cutV xs lo hi)))

/-! ### t < u, t + u -/
def rLtT (K : PySem.W.Frag) : R2 := fun x y H Q => ∃ a b ns ms, x = .ref a ∧ y = .ref b ∧ SqT K H a (ns.map V.int) ∧ SqT K H b (ms.map V.int) ∧ Q (.bl (HT.lexLt ns ms)) H
/-- t + u, t not empty: u empty gives t itself -/
def rCatT (K : PySem.W.Frag) : R2 := fun x y H Q => ∃ a b xs ys, x = .ref a ∧ y = .ref b ∧ SqT K H a xs ∧ SqT K H b ys ∧ xs ≠ [] ∧ xs.length + ys.length ≤ sizeLine ∧
  (ys = [] → Q (.ref a) H) ∧ (ys ≠ [] → ∀ p, H p = none → Q (.ref p) (upd H p (.tup (xs ++ ys))))
theorem Vals.nil_iff {xs : List V} {us : List Value} (r : Vals xs us) : us = [] ↔ xs = [] := by
  cases r with
  | nil => simp
  | cons _ _ => simp
theorem op_catT : OpR X (binaryOp .Add) (rCatT X.K) := by
  intro pins s σ H x y v u Q I rx ry h
  obtain ⟨a, b, xs, ys, rfl, rfl, ha, hb, hx, hz, q1, q2⟩ := h
  cases rx
  cases ry
  obtain ⟨its, r1, p1, _⟩ := I.tuple ha
  obtain ⟨its2, r2, p2, _⟩ := I.tuple hb
  refine HT.cat_tup p1 p2 (fun z => hx (r1.nil_iff.mp z)) (fun z => ⟨.ref a, H, I, rfl, q1 (r2.nil_iff.mp z)⟩) (fun z => ?_) (by rw [← r1.length, ← r2.length]; exact hz)
  refine ⟨.ref s.heap.objs.size, _, I.laid (t' := s.toks) (o := .tup (xs ++ ys)) (fun b ob q => Heap.get?_push_of_some _ q) (Nat.le_refl _) ?_, rfl, q2 (fun w => z (r2.nil_iff.mpr w)) _ (I.hok.fresh (Nat.le_refl _))⟩
  exact ⟨by rw [List.length_append]; exact hz, _, r1.append r2, IsTup.new _ _⟩
end
end L2

namespace L2
open PySem PySem.Spec PyProof.Rows

/-! ### places -/
/-- the place that an index of any sign means -/
def ixN (n : Nat) (i : Int) : Option Nat := if 0 ≤ i then (if i < n then some i.toNat else none) else if -(n : Int) ≤ i then some (i + n).toNat else none
def atI {α : Type} (xs : List α) (i : Int) : Option α := (ixN xs.length i).bind fun j => xs[j]?
theorem ixN_seq {n : Nat} {i : Int} {j : Nat} (h : ixN n i = some j) : seqIndex? i n = some j ∧ j < n ∧ -(n : Int) ≤ i ∧ i < n := by
  unfold ixN at h
  by_cases h0 : 0 ≤ i
  · rw [if_pos h0] at h
    by_cases h1 : i < n
    · rw [if_pos h1] at h
      have e : i.toNat = j := Option.some.inj h
      exact ⟨by rw [seqIndex_of h0 h1, e], by omega, by omega, h1⟩
    · rw [if_neg h1] at h; cases h
  · rw [if_neg h0] at h
    by_cases h1 : -(n : Int) ≤ i
    · rw [if_pos h1] at h
      have e : (i + n).toNat = j := Option.some.inj h
      exact ⟨by rw [seqIndex_neg (by omega) h1, e], by omega, h1, by omega⟩
    · rw [if_neg h1] at h; cases h
theorem atI_get {α : Type} {xs : List α} {i : Int} {v : α} (h : atI xs i = some v) : ∃ j, seqIndex? i xs.length = some j ∧ xs[j]? = some v ∧ j < xs.length ∧ -(xs.length : Int) ≤ i ∧ i < xs.length := by
  unfold atI at h
  cases e : ixN xs.length i with
  | none => rw [e] at h; cases h
  | some j =>
    rw [e] at h
    obtain ⟨h1, h2, h3, h4⟩ := ixN_seq e
    exact ⟨j, h1, h, h2, h3, h4⟩
theorem atI_nat {α : Type} {xs : List α} {j : Nat} {v : α} (h : xs[j]? = some v) : atI xs (j : Int) = some v := by
  have hj : j < xs.length := (List.getElem?_eq_some_iff.mp h).1
  have e : ixN xs.length (j : Int) = some j := by
    unfold ixN
    rw [if_pos (by omega), if_pos (by omega)]; simp
  unfold atI; rw [e]; exact h

/-! ### what may be subscripted -/
/-- what stands as an index of a plain subscript -/
def PlainIx (b : Expr) : Prop := ∀ o i, subscripted b false o i = operate [o, i] (getItem o i)
/-- a subscript by values -/
def IxR (X : Cx) (r : R2) : Prop :=
  ∀ (value slice : Expr) (pins : List (Addr × Obj)) (s : Shared) (σ : St) (H : Hp) (x y : V) (v u : Value) (Q : VK), Inv X pins σ H s → RelV x v → RelV y u → r x y H Q →
    subscripted slice false v u = operate [v, u] (getItem v u) → wpAny (model X.prog X.w) X.A (subscriptTail value slice v u) (EP X pins σ Q) X.xe s
/-- a call of a builtin's method by values: the receiver, the arguments -/
def MtR (X : Cx) (id : String) (r : V → List V → Hp → VK → Prop) : Prop :=
  ∀ (pins : List (Addr × Obj)) (s : Shared) (σ : St) (H : Hp) (x : V) (xs : List V) (v : Value) (us : List Value) (Q : VK), Inv X pins σ H s → RelV x v → Vals xs us → r x xs H Q →
    wpAny (model X.prog X.w) X.A (call (.builtin id) (v :: us)) (EP X pins σ Q) X.xe s
section
variable {X : Cx} {a b : Expr} {ta tb : TE} {pos : Pos}
/-- a[b] -/
theorem pe_ix {r : R2} (hr : IxR X r) (ha : PE X a ta) (hb : PE X b tb) (hs : PlainIx b) : PE X (.Subscript a b pos) (tOp r ta tb) := by
  intro pins s σ H Q I h
  exact Subscript_ (binT ha hb I h fun v u s2 x y H2 I2 rx ry q => hr a b pins s2 σ H2 x y v u Q I2 rx ry q (hs _ _))

def rIxL (K : PySem.W.Frag) : R2 := fun x y H Q => ∃ p xs i v, x = .ref p ∧ y = .int i ∧ SqL K H p xs ∧ atI xs i = some v ∧ Q v H
def rIxT (K : PySem.W.Frag) : R2 := fun x y H Q => ∃ p xs i v, x = .ref p ∧ y = .int i ∧ SqT K H p xs ∧ atI xs i = some v ∧ Q v H
def rIxS : R2 := fun x y H Q => ∃ z i c, x = .str z ∧ y = .int i ∧ z.length ≤ sizeLine ∧ atI z.cps.toList i = some c ∧ Q (.str ⟨#[c]⟩) H
theorem ix_list : IxR X (rIxL X.K) := by
  intro value slice pins s σ H x y v u Q I rx ry h hs
  obtain ⟨p, xs, i, z, rfl, rfl, hq, he, q⟩ := h
  cases rx
  obtain ⟨t, rfl⟩ := ry
  obtain ⟨its, r, pl, hz⟩ := I.list hq
  obtain ⟨j, h1, h2, h3, h4, h5⟩ := atI_get he
  obtain ⟨w, ew, rw'⟩ := r.get h2
  have hl := r.length
  have hn := line63
  have fin : EP X pins σ Q w s := ⟨z, H, I, rw', q⟩
  by_cases h0 : 0 ≤ i
  · have hj : i.toNat = j := by
      rw [seqIndex_of h0 h5] at h1
      exact Option.some.inj h1
    exact item_listR pl.isList h0 (by omega) (by rw [hj]; simpa using ew) fin hs
  · have hj : (i + (its.toArray.size : Int)).toNat = j := by
      rw [seqIndex_neg (by omega) h4] at h1
      rw [List.size_toArray, ← hl]
      exact Option.some.inj h1
    exact subscriptTail_builtinR (x := w) pl.isList.typeIs slot_list_getitem.lookup
      (wpAny_getItem_list_neg (Q := fun r s' => r = w ∧ EP X pins σ Q r s') pl.isList (by omega) (by rw [List.size_toArray] <;> omega) (by omega) (by rw [hj]; simpa using ew) ⟨rfl, fin⟩) hs
theorem ix_tup : IxR X (rIxT X.K) := by
  intro value slice pins s σ H x y v u Q I rx ry h hs
  obtain ⟨p, xs, i, z, rfl, rfl, hq, he, q⟩ := h
  cases rx
  obtain ⟨t, rfl⟩ := ry
  obtain ⟨its, r, pl, hz⟩ := I.tuple hq
  obtain ⟨j, h1, h2, h3, h4, h5⟩ := atI_get he
  obtain ⟨w, ew, rw'⟩ := r.get h2
  have hl := r.length
  have hn := line63
  have fin : EP X pins σ Q w s := ⟨z, H, I, rw', q⟩
  exact subscriptTail_builtinR (x := w) pl.typeIs slot_tuple_getitem.lookup
    (getItem_tuple (j := j) (Q := fun r s' => r = w ∧ EP X pins σ Q r s') pl (by omega) (by omega) (by rw [List.size_toArray, ← hl]; exact h1) (by simpa using ew) ⟨rfl, fin⟩) hs
theorem ix_str : IxR X rIxS := by
  intro value slice pins s σ H x y v u Q I rx ry h hs
  obtain ⟨z, i, c, rfl, rfl, hz, he, q⟩ := h
  obtain ⟨t, rfl⟩ := rx
  obtain ⟨t', rfl⟩ := ry
  obtain ⟨j, h1, h2, h3, h4, h5⟩ := atI_get he
  have hl : z.cps.toList.length = z.length := by simp [Str.length]
  rw [hl] at h1 h4 h5
  have hn := line63
  exact tail_any (typeIs_str s z t) slot_str_getitem.lookup (getItem_str (c := c) (by
    have e1 : decide (i < -(2 ^ 63 : Int)) = false := decide_eq_false (by omega)
    have e2 : decide (i ≥ 2 ^ 63) = false := decide_eq_false (by omega)
    rw [e1, e2, Bool.or_false]) (by rw [h1]; simpa using h2) ⟨.str ⟨#[c]⟩, H, I.tok _, ⟨_, rfl⟩, q⟩) hs
/-- list, tuple or str -/
def rIx (K : PySem.W.Frag) : R2 := fun x y H Q => rIxL K x y H Q ∨ rIxT K x y H Q ∨ rIxS x y H Q

/-! ### xs[i] = v, any sign -/
def rSetL : V → V → V → Hp → (Hp → Prop) → Prop := fun o i v H Q => ∃ p xs k j, o = .ref p ∧ i = .int k ∧ H p = some (.lst xs) ∧ ixN xs.length k = some j ∧ Q (upd H p (.lst (xs.set j v)))

/-! ### slices -/
theorem slice_bounds (lo hi : Option Int) (n : Nat) : (sliceBounds lo hi none n).1 = ((HT.sIx n 0 lo : Nat) : Int) ∧ (sliceBounds lo hi none n).2.1 = ((HT.sIx n n hi : Nat) : Int) ∧ (sliceBounds lo hi none n).2.2 = 1 := by
  refine ⟨?_, ?_, rfl⟩
  · cases lo with
    | none => simp [sliceBounds, HT.sIx]
    | some i =>
      simp only [sliceBounds, HT.sIx, Option.getD_none, show (1 : Int) > 0 by decide, if_true]
      by_cases h : i < 0
      · simp only [h, if_true] <;> omega
      · simp only [h, if_false] <;> omega
  · cases hi with
    | none => simp [sliceBounds, HT.sIx]
    | some i =>
      simp only [sliceBounds, HT.sIx, Option.getD_none, show (1 : Int) > 0 by decide, if_true]
      by_cases h : i < 0
      · simp only [h, if_true] <;> omega
      · simp only [h, if_false] <;> omega
theorem slicePick_cut (its : List Value) (lo hi : Option Int) : slicePick its.toArray lo hi none = ((its.drop (HT.sIx its.length 0 lo)).take (HT.sIx its.length its.length hi - HT.sIx its.length 0 lo)).toArray := by
  obtain ⟨h1, h2, h3⟩ := slice_bounds lo hi its.toArray.size
  unfold slicePick
  rw [h1, h2, h3]
  simp only [sliceRange_one, pick_run, List.size_toArray] <;> rfl
/-- xs[lo:hi] of a list: a new list -/
def rSlL (K : PySem.W.Frag) : V → Option Int → Option Int → Hp → VK → Prop := fun x lo hi H Q => ∃ a xs, x = .ref a ∧ SqL K H a xs ∧ ∀ p, H p = none → Q (.ref p) (upd H p (.lst (cutV xs lo hi)))
theorem sl_list : SlR X (rSlL X.K) := by
  intro pins s σ H x v vl vu lo hi sl Q I rx hs pl pu h
  obtain ⟨a, xs, rfl, hx, q⟩ := h
  cases rx
  obtain ⟨its, r, ht, hz⟩ := I.list hx
  have hlen := r.length
  refine ⟨"list", _, slot_list_getitem.lookup, ht.isList.typeIs, ?_⟩
  refine wpAny_getItem_list_slice ht.isList hs pl pu .none (by simp) ?_ (by rw [List.size_toArray] <;> omega)
  rw [slicePick_cut, ← hlen]
  refine ⟨.ref s.heap.objs.size, _, I.laid (t' := s.toks) (o := .lst (cutV xs lo hi)) (fun b ob q => Heap.get?_push_of_some _ q) (Nat.le_refl _) ?_, rfl, q _ (I.hok.fresh (Nat.le_refl _))⟩
  exact ⟨Nat.le_trans (cutV_length xs lo hi) hz, _, 0, (r.drop (HT.sIx xs.length 0 lo)).take (HT.sIx xs.length xs.length hi - HT.sIx xs.length 0 lo), Heap.get?_push_size _ rfl⟩

/-! ### in, not in: flat items -/
def flatV : V → Bool
  | .non => true
  | .bl _ => true
  | .int _ => true
  | .str _ => true
  | _ => false
/-- == of flat values -/
def eqV : V → V → Bool
  | .non, .non => true
  | .bl a, .bl b => a == b
  | .bl a, .int b => (if a then 1 else 0) == b
  | .int a, .bl b => a == (if b then 1 else 0)
  | .int a, .int b => a == b
  | .str a, .str b => a == b
  | _, _ => false
theorem eqAt_V {A : Around} {s : Shared} {y x : V} {u v : Value} (ry : RelV y u) (rx : RelV x v) (fy : flatV y = true) (fx : flatV x = true) : SeqAt.EqAt A s u v (eqV y x) := by
  cases y with
  | non =>
    cases ry
    cases x with
    | non => cases rx; exact SeqAt.EqAt.same _
    | bl b => cases rx; exact SeqAt.EqAt.none_bool b
    | int b => obtain ⟨t, rfl⟩ := rx; exact SeqAt.EqAt.none_int b t
    | str b => obtain ⟨t, rfl⟩ := rx; exact SeqAt.EqAt.none_str b t
    | _ => exact absurd (show false = true from fx) Bool.false_ne_true
  | bl a =>
    cases ry
    cases x with
    | non => cases rx; exact SeqAt.EqAt.bool_none a
    | bl b => cases rx; exact SeqAt.EqAt.bool_bool a b
    | int b => obtain ⟨t, rfl⟩ := rx; exact SeqAt.EqAt.bool_int a b t
    | str b => obtain ⟨t, rfl⟩ := rx; exact SeqAt.EqAt.bool_str a b t
    | _ => exact absurd (show false = true from fx) Bool.false_ne_true
  | int a =>
    obtain ⟨t', rfl⟩ := ry
    cases x with
    | non => cases rx; exact SeqAt.EqAt.int_none a t'
    | bl b => cases rx; exact SeqAt.EqAt.int_bool a t' b
    | int b => obtain ⟨t, rfl⟩ := rx; exact SeqAt.EqAt.int_int a t' b t
    | str b => obtain ⟨t, rfl⟩ := rx; exact SeqAt.EqAt.int_str a t' b t
    | _ => exact absurd (show false = true from fx) Bool.false_ne_true
  | str a =>
    obtain ⟨t', rfl⟩ := ry
    cases x with
    | non => cases rx; exact SeqAt.EqAt.str_none a t'
    | bl b => cases rx; exact SeqAt.EqAt.str_bool a t' b
    | int b => obtain ⟨t, rfl⟩ := rx; exact SeqAt.EqAt.str_int a t' b t
    | str b => obtain ⟨t, rfl⟩ := rx; exact SeqAt.EqAt.str_str a t' b t
    | _ => exact absurd (show false = true from fx) Bool.false_ne_true
  | _ => exact absurd (show false = true from fy) Bool.false_ne_true
/-- the items' answers, read off the values (a value's own answer does not lean on its token) -/
def eqU (x : V) (u : Value) : Bool := match u with
  | .none => eqV .non x
  | .bool b => eqV (.bl b) x
  | .int i _ => eqV (.int i) x
  | .str z _ => eqV (.str z) x
  | _ => false
theorem eqU_of {x y : V} {u : Value} (r : RelV y u) (f : flatV y = true) : eqU x u = eqV y x := by
  cases y with
  | non => cases r; rfl
  | bl b => cases r; rfl
  | int i => obtain ⟨t, rfl⟩ := r; rfl
  | str z => obtain ⟨t, rfl⟩ := r; rfl
  | _ => exact absurd (show false = true from f) Bool.false_ne_true
theorem any_eqU {x : V} : ∀ {xs : List V} {us : List Value}, Vals xs us → xs.all flatV = true → us.any (eqU x) = xs.any fun y => eqV y x
  | _, _, .nil, _ => rfl
  | y :: xs, u :: us, .cons r t, f => by
    rw [List.all_cons, Bool.and_eq_true] at f
    rw [List.any_cons, List.any_cons, eqU_of r f.1, any_eqU t f.2]
theorem mem_eqAt {A : Around} {s : Shared} {x : V} {v : Value} (rx : RelV x v) (fx : flatV x = true) : ∀ {xs : List V} {us : List Value}, Vals xs us → xs.all flatV = true → ∀ u ∈ us, SeqAt.EqAt A s u v (eqU x u)
  | _, _, .nil, _ => fun u hu => by cases hu
  | y :: xs, u :: us, .cons r t, f => fun u' hu => by
    rw [List.all_cons, Bool.and_eq_true] at f
    rcases List.mem_cons.mp hu with rfl | hu
    · rw [eqU_of r f.1]; exact eqAt_V r rx f.1 fx
    · exact mem_eqAt rx fx t f.2 u' hu
def inV (x : V) (xs : List V) : Bool := xs.any fun y => eqV y x
/-- x in a list or tuple of flat items -/
def rIn (K : PySem.W.Frag) (neg : Bool) : R2 := fun x y H Q => ∃ p xs, y = .ref p ∧ (SqL K H p xs ∨ SqT K H p xs) ∧ flatV x = true ∧ xs.all flatV = true ∧ Q (.bl (if neg then !inV x xs else inV x xs)) H
theorem op_in_seq : OpR X (compareOp .In) (rIn X.K false) := by
  intro pins s σ H x y v u Q I rx ry h
  obtain ⟨p, xs, rfl, hq, fx, fs, q⟩ := h
  cases ry
  rcases hq with hq | hq
  · obtain ⟨its, r, pl, hz⟩ := I.list hq
    refine SeqAt.in_listAt (eqU x) pl.isList (fun w hw => mem_eqAt rx fx r fs w (by simpa using hw)) ⟨.bl _, H, I, rfl, ?_⟩
    rw [show its.toArray.any (eqU x) = its.any (eqU x) by simp, any_eqU r fs]
    exact q
  · obtain ⟨its, r, pl, hz⟩ := I.tuple hq
    refine SeqAt.in_tupleAt (eqU x) pl (fun w hw => mem_eqAt rx fx r fs w (by simpa using hw)) ⟨.bl _, H, I, rfl, ?_⟩
    rw [show its.toArray.any (eqU x) = its.any (eqU x) by simp, any_eqU r fs]
    exact q
theorem op_notIn_seq : OpR X (compareOp .NotIn) (rIn X.K true) := by
  intro pins s σ H x y v u Q I rx ry h
  obtain ⟨p, xs, rfl, hq, fx, fs, q⟩ := h
  cases ry
  rcases hq with hq | hq
  · obtain ⟨its, r, pl, hz⟩ := I.list hq
    refine SeqAt.notIn_listAt (eqU x) pl.isList (fun w hw => mem_eqAt rx fx r fs w (by simpa using hw)) ⟨.bl _, H, I, rfl, ?_⟩
    rw [show its.toArray.any (eqU x) = its.any (eqU x) by simp, any_eqU r fs]
    exact q
  · obtain ⟨its, r, pl, hz⟩ := I.tuple hq
    refine SeqAt.notIn_tupleAt (eqU x) pl (fun w hw => mem_eqAt rx fx r fs w (by simpa using hw)) ⟨.bl _, H, I, rfl, ?_⟩
    rw [show its.toArray.any (eqU x) = its.any (eqU x) by simp, any_eqU r fs]
    exact q

/-! ### len, list(x), tuple(x) of any list or tuple that is read -/
theorem call_len_seq : CallR X (.builtin "len") (fun xs H Q => ∃ p ys, xs = [.ref p] ∧ (SqL X.K H p ys ∨ SqT X.K H p ys) ∧ Q (.int ys.length) H) := by
  intro pins s σ H xs us Q I r h
  obtain ⟨p, ys, rfl, hq, q⟩ := h
  obtain ⟨u, rfl, rx⟩ := vals1 r
  cases rx
  have hn := line63
  rcases hq with hq | hq
  · obtain ⟨its, r', pl, hz⟩ := I.list hq
    have hlen := r'.length
    exact Calls.call_len_list pl.isList (by simp only [List.size_toArray] <;> omega) ⟨.int ys.length, H, I.tok _, ⟨s.toks + 1, by rw [List.size_toArray, hlen]⟩, q⟩
  · obtain ⟨its, r', pl, hz⟩ := I.tuple hq
    have hlen := r'.length
    exact len_tuple pl (by simp only [List.size_toArray] <;> omega) ⟨.int ys.length, H, I.tok _, ⟨s.toks + 1, by rw [List.size_toArray, hlen]⟩, q⟩
theorem call_list_of : CallR X (.type "list") (fun xs H Q => ∃ p ys, xs = [.ref p] ∧ (SqL X.K H p ys ∨ SqT X.K H p ys) ∧ ∀ l, H l = none → Q (.ref l) (upd H l (.lst ys))) := by
  intro pins s σ H xs us Q I r h
  obtain ⟨p, ys, rfl, hq, q⟩ := h
  obtain ⟨u, rfl, rx⟩ := vals1 r
  cases rx
  have fin : ∀ (its : List Value), Vals ys its → ys.length ≤ sizeLine → ∀ (h' : Heap) (c' : Nat), (∀ b o', s.heap.get? b = some o' → h'.get? b = some o') →
      h'.get? s.heap.objs.size = some { cls := .type "list", dict := none, data := .seq its.toArray c', slots := #[] } → EP X pins σ Q (.ref s.heap.objs.size) { s with heap := h' } := fun its r' hz h' c' kp e =>
    ⟨.ref s.heap.objs.size, _, I.laid (t' := s.toks) kp (Nat.le_refl _) (show ObjOk X.prog X.w _ h' _ (.lst ys) from ⟨hz, its, c', r', e⟩), rfl, q _ (I.hok.fresh (Nat.le_refl _))⟩
  rcases hq with hq | hq
  · obtain ⟨its, r', pl, hz⟩ := I.list hq
    have hlen := r'.length
    obtain ⟨o, ho, hc, n, hd⟩ := pl.isList
    exact call_list_seq p (.inl rfl) ho hc hd (fun h' c' kp e => fin its r' hz h' c' kp e) (by simp only [List.size_toArray] <;> omega)
  · obtain ⟨its, r', pl, hz⟩ := I.tuple hq
    have hlen := r'.length
    obtain ⟨o, ho, hc, n, hd⟩ := pl
    exact call_list_seq p (.inr rfl) ho hc hd (fun h' c' kp e => fin its r' hz h' c' kp e) (by simp only [List.size_toArray] <;> omega)
theorem call_tuple_of : CallR X (.type "tuple") (fun xs H Q => ∃ p ys, xs = [.ref p] ∧ ((SqL X.K H p ys ∧ ∀ l, H l = none → Q (.ref l) (upd H l (.tup ys))) ∨ (SqT X.K H p ys ∧ Q (.ref p) H))) := by
  intro pins s σ H xs us Q I r h
  obtain ⟨p, ys, rfl, h⟩ := h
  obtain ⟨u, rfl, rx⟩ := vals1 r
  cases rx
  rcases h with ⟨hq, q⟩ | ⟨hq, q⟩
  · obtain ⟨its, r', pl, hz⟩ := I.list hq
    have hlen := r'.length
    refine call_tuple_list pl.isList (fun h' kp => ?_) (by simp only [List.size_toArray] <;> omega)
    have I1 : Inv X pins σ H { s with heap := h' } := I.kept (t' := s.toks) kp
    have I2 : Inv X pins σ (upd H h'.objs.size (.tup ys)) { s with heap := h'.push { cls := .type "tuple", data := .seq its.toArray } } :=
      I1.laid (t' := s.toks) (fun b o e => Heap.get?_push_of_some _ e) (Nat.le_refl _) (show ObjOk X.prog X.w _ _ _ (.tup ys) from ⟨hz, its, r', IsTup.new _ _⟩)
    exact ⟨.ref h'.objs.size, _, I2, rfl, q _ (I1.hok.fresh (Nat.le_refl _))⟩
  · obtain ⟨its, r', pl, hz⟩ := I.tuple hq
    exact call_tuple_same pl ⟨.ref p, H, I, rfl, q⟩

/-! ### the call of a builtin's method: o.m(..) -/
/-- the value is of that builtin type -/
def tyV (K : PySem.W.Frag) (T : String) (x : V) (H : Hp) : Prop := match x with
  | .str _ => T = "str"
  | .int _ => T = "int"
  | .ref p => (T = "list" ∧ ∃ xs, SqL K H p xs) ∨ (T = "tuple" ∧ ∃ o, K.lookup p = some o ∧ o.cls = .type "tuple" ∧ o.dict = none) ∨
      (T = "dict" ∧ ((∃ kvs, H p = some (.dK kvs)) ∨ ∃ kvs, H p = some (.dT kvs))) ∨ (T = "set" ∧ ∃ S n, H p = some (.set S n))
  | _ => False
theorem tyV_is {pins : List (Addr × Obj)} {σ : St} {H : Hp} {s : Shared} {T : String} {x : V} {v : Value} (I : Inv X pins σ H s) (r : RelV x v) (ty : tyV X.K T x H) :
    s.TypeIs v T ∧ ∀ a, v = .ref a → ∃ ob, s.heap.get? a = some ob ∧ ob.dict = none := by
  cases x with
  | str z =>
    obtain ⟨t, rfl⟩ := r
    cases (show T = "str" from ty)
    exact ⟨typeIs_str s z t, fun _ e => nomatch e⟩
  | int i =>
    obtain ⟨t, rfl⟩ := r
    cases (show T = "int" from ty)
    exact ⟨typeIs_int s i t, fun _ e => nomatch e⟩
  | ref p =>
    cases r
    rcases ty with ⟨rfl, xs, hq⟩ | ⟨rfl, o, hk, hc, hd⟩ | ⟨rfl, hk⟩ | ⟨rfl, S, n, hk⟩
    · obtain ⟨its, _, pl, _⟩ := I.list hq
      refine ⟨pl.isList.typeIs, fun a e => ?_⟩
      cases e
      obtain ⟨o, n, e, c, hd, _⟩ := pl
      exact ⟨o, e, hd⟩
    · refine ⟨⟨o, I.kIn p o hk, hc⟩, fun a e => ?_⟩
      cases e
      exact ⟨o, I.kIn _ o hk, hd⟩
    · have z : ∃ o, s.heap.get? p = some o ∧ o.ExactDict := by
        rcases hk with ⟨kvs, hk⟩ | ⟨kvs, hk⟩
        · obtain ⟨_, _, _, _, o, _, _, e, ex, _⟩ := I.hok p _ hk
          exact ⟨o, e, ex⟩
        · obtain ⟨_, _, _, _, o, _, _, e, ex, _⟩ := I.hok p _ hk
          exact ⟨o, e, ex⟩
      obtain ⟨o, e, ex⟩ := z
      refine ⟨⟨o, e, ex.1⟩, fun a e2 => ?_⟩
      cases e2
      exact ⟨o, e, ex.2.1⟩
    · obtain ⟨o, _, _, _, e, ex, _⟩ := I.hok p _ hk
      refine ⟨⟨o, e, ex.1⟩, fun a e2 => ?_⟩
      cases e2
      exact ⟨o, e, ex.2.1⟩
  | _ => exact False.elim ty
def tBM0 (K : PySem.W.Frag) (T : String) (r : V → List V → Hp → VK → Prop) (to : TE) : TE := fun σ H Q => to σ H fun x H1 => tyV K T x H1 ∧ r x [] H1 Q
def tBM (K : PySem.W.Frag) (T : String) (r : V → List V → Hp → VK → Prop) (to : TE) (t : TA) : TE := fun σ H Q => to σ H fun x H1 => tyV K T x H1 ∧ t σ H1 fun xs H2 => r x xs H2 Q
variable {o e : Expr} {es : List Expr} {to : TE} {t : TA} {name : Str} {apos cpos : Pos} {T id : String} {r : V → List V → Hp → VK → Prop}
theorem pe_bm0 (pa : PlainAttrs T) (slot : Slot T name id) (hty : typeOf (.builtin id) = pure (.type "method_descriptor")) (hm : MtR X id r) (ho : PE X o to)
    (hbase : attributeBase o name X.env (eval o X.env) = eval o X.env := by rfl) (hline : (apos.endLine == cpos.line) = true := by rfl) : PE X (.Call (.Attribute o name apos) [] [] cpos) (tBM0 X.K T r to) := by
  intro pins s σ H Q I h
  refine wpAny_Call_method0_late hbase hline (thn (ho pins s σ H _ I h) fun v s1 ⟨x, H1, I1, r1, ty, q1⟩ => ?_)
  obtain ⟨h1, h2⟩ := tyV_is I1 r1 ty
  exact ⟨T, id, pa, slot, hty, h1, h2, Calls.callWith_builtin rfl (PySem.evalArgs_none (hm pins s1 σ H1 x [] v [] Q I1 r1 .nil q1))⟩
theorem pe_bm (pa : PlainAttrs T) (slot : Slot T name id) (hty : typeOf (.builtin id) = pure (.type "method_descriptor")) (hm : MtR X id r) (ho : PE X o to) (ha : PA X (e :: es) t)
    (hbase : attributeBase o name X.env (eval o X.env) = eval o X.env := by rfl)
    (hfew : ((backTo cpos (starEach (e :: es) X.env)).all (fun x => !x.1) && (backToKw cpos (keywordEach [] X.env)).all (fun x => x.1.isSome)
      && decide ((e :: es).length + ([] : List Keyword).length + (if ([] : List Keyword).isEmpty then 0 else 1) < 30)) = true := by rfl)
    (hline : (apos.endLine == cpos.line) = true := by rfl) (hs : starEach (e :: es) X.env = (false, eval e X.env) :: starEach es X.env := by rfl) (hplain : (backTo cpos (starEach es X.env)).any (·.1) = false := by rfl) :
    PE X (.Call (.Attribute o name apos) (e :: es) [] cpos) (tBM X.K T r to t) := by
  intro pins s σ H Q I h
  refine wpAny_Call_method_late hbase hfew hline rfl (thn (ho pins s σ H _ I h) fun v s1 ⟨x, H1, I1, r1, ty, q1⟩ => ?_)
  obtain ⟨h1, h2⟩ := tyV_is I1 r1 ty
  refine ⟨T, id, pa, slot, hty, h1, h2, ?_⟩
  have hA := ha cpos pins s1 σ H1 _ I1 q1
  rw [hs] at hA ⊢
  refine Calls.callWith_builtin (by show (false || (backTo cpos (starEach es X.env)).any (·.1)) = false; rw [hplain] <;> rfl) (Calls.evalArgs_plain ?_)
  exact thn hA fun us s2 ⟨vs, H2, I2, r2, q2⟩ => hm pins s2 σ H2 x vs v us Q I2 r1 r2 q2
/- xs.append(e), list.index on a module's tuple .. are MtR facts of 06m -/
end
end L2

namespace L2
open PySem PySem.Spec PyProof.Rows

def MtM (X : Cx) (id : String) (r : V → List V → Hp → VK → Prop) : Prop :=
  ∀ (pins : List (Addr × Obj)) (s : Shared) (σ : St) (H : Hp) (x : V) (xs : List V) (v : Value) (us : List Value) (Q : VK), Inv X pins σ H s → RelV x v → Vals xs us → r x xs H Q →
    wpAny (model X.prog X.w) X.A (call (.builtin id) (v :: us)) (EP X pins σ Q) X.xe s

/-! ### lists of values -/
theorem Vals.one : ∀ {x : V} {us : List Value}, Vals [x] us → ∃ u, us = [u] ∧ RelV x u
  | _, _, .cons r .nil => ⟨_, rfl, r⟩
theorem Vals.two : ∀ {x y : V} {us : List Value}, Vals [x, y] us → ∃ u v, us = [u, v] ∧ RelV x u ∧ RelV y v
  | _, _, _, .cons r (.cons q .nil) => ⟨_, _, rfl, r, q⟩
theorem Vals.zero : ∀ {us : List Value}, Vals [] us → us = []
  | _, .nil => rfl
theorem Vals.dropLast {xs : List V} {us : List Value} (h : Vals xs us) : Vals xs.dropLast us.dropLast := by
  induction h with
  | nil => exact .nil
  | cons r t ih =>
    cases t with
    | nil => exact .nil
    | cons q t' => exact .cons r ih
theorem erase_last {α : Type} (l : List α) : l.eraseIdx (l.length - 1) = l.dropLast := by
  induction l with
  | nil => rfl
  | cons a r ih =>
    cases r with
    | nil => rfl
    | cons b r =>
      have e : (a :: b :: r).length - 1 = ((b :: r).length - 1) + 1 := by
        have h1 : (a :: b :: r).length = r.length + 2 := rfl
        have h2 : (b :: r).length = r.length + 1 := rfl
        omega
      rw [e, List.eraseIdx_cons_succ, ih]
      all_goals rfl

section
variable {X : Cx} {pins : List (Addr × Obj)} {σ : St} {H : Hp} {s : Shared} {l b : Addr} {xs ys zs : List V}

/-! ### the two steps: a tracked list is rewritten, a new list is laid -/
theorem Inv.lset {its its' : List Value} {n : Nat} {f : Array Value → Array Value} {t' : Nat} (I : Inv X pins σ H s) (hH : H l = some (.lst xs))
    (e : s.heap.get? l = some { cls := .type "list", data := .seq its.toArray n }) (hf : f its.toArray = its'.toArray) (hv : Vals ys its') (hz : ys.length ≤ sizeLine) :
    Inv X pins σ (upd H l (.lst ys)) { s with heap := s.heap.update l (Obj.mapSeq f), toks := t' } := by
  have q := PySem.IsL.update e f
  rw [hf] at q
  refine I.write (x := l) (e := l) (by rw [hH]; exact trivial) (.inl rfl) (fun b' u hb hu => (Heap.get?_update_other s.heap (Obj.mapSeq f) (Ne.symm hb)).trans hu) ⟨_, q⟩ ?_
  exact ⟨hz, its', _, hv, q⟩
theorem Inv.lnew {its : List Value} {t' : Nat} (I : Inv X pins σ H s) (hv : Vals ys its) (hz : ys.length ≤ sizeLine) :
    Inv X pins σ (upd H s.heap.objs.size (.lst ys)) { s with heap := s.heap.push { cls := .type "list", data := .seq its.toArray }, toks := t' } :=
  I.laid (fun _ _ q => Heap.get?_push_of_some _ q) (Nat.le_refl _) ⟨hz, its, 0, hv, Heap.get?_push_size _ rfl⟩
theorem Inv.fresh (I : Inv X pins σ H s) : H s.heap.objs.size = none := I.hok.fresh (Nat.le_refl _)
theorem Inv.lstM (I : Inv X pins σ H s) (hH : H l = some (.lst xs)) : xs.length ≤ sizeLine ∧ ∃ (its : List Value) (n : Nat), Vals xs its ∧ xs.length = its.length ∧ s.heap.get? l = some { cls := .type "list", data := .seq its.toArray n } := by
  obtain ⟨z, its, n, r, e⟩ := I.hok l _ hH
  exact ⟨z, its, n, r, r.length, e⟩

end

section
variable {X : Cx}

/-! ### methods -/
def rAppend : V → List V → Hp → VK → Prop := fun x vs H Q => ∃ l xs y, x = .ref l ∧ vs = [y] ∧ H l = some (.lst xs) ∧ xs.length < sizeLine ∧ Q .non (upd H l (.lst (xs ++ [y])))
theorem mt_append : MtM X "list.append" rAppend := by
  intro pins s σ H x vs v us Q I rx rv h
  obtain ⟨l, xs, y, rfl, rfl, hH, hz, q⟩ := h
  cases rx
  obtain ⟨u, rfl, ru⟩ := rv.one
  obtain ⟨z, its, n, r, hl, e⟩ := I.lstM hH
  refine call_meets F.slot_list_append ⟨_, e, rfl⟩ F.entry_list_append (F.args_list_append_2 _ _) (PySem.list_append l its.toArray n u (by rw [List.size_toArray]; omega)) ⟨e, ?_⟩
  refine ⟨.non, _, I.lset (its' := its ++ [u]) hH e (by simp) (r.append (.cons ru .nil)) ?_, rfl, q⟩
  rw [List.length_append, List.length_singleton]
  omega

def rExtend : V → List V → Hp → VK → Prop := fun x vs H Q => ∃ l b xs zs, x = .ref l ∧ vs = [.ref b] ∧ H l = some (.lst xs) ∧ H b = some (.lst zs) ∧ xs.length + zs.length ≤ sizeLine ∧ Q .non (upd H l (.lst (xs ++ zs)))

def rPop : V → List V → Hp → VK → Prop := fun x vs H Q => ∃ l xs y, x = .ref l ∧ vs = [] ∧ H l = some (.lst xs) ∧ xs[xs.length - 1]? = some y ∧ Q y (upd H l (.lst xs.dropLast))
theorem mt_pop : MtM X "list.pop" rPop := by
  intro pins s σ H x vs v us Q I rx rv h
  obtain ⟨l, xs, y, rfl, rfl, hH, hy, q⟩ := h
  cases rx
  have hus := rv.zero
  subst hus
  obtain ⟨z, its, n, r, hl, e⟩ := I.lstM hH
  obtain ⟨u, hu, ru⟩ := r.get hy
  have hy' : its.toArray[its.toArray.size - 1]? = some u := by
    show its.toArray[its.length - 1]? = some u
    rw [← Array.getElem?_toList, ← hl]
    exact hu
  refine call_meets F.slot_list_pop ⟨_, e, rfl⟩ F.entry_list_pop (F.args_list_pop_1 _) (MeetsSeq.list_pop_last l its.toArray n u hy' (by rw [List.size_toArray]; omega)) ⟨e, ?_⟩
  refine ⟨y, _, I.lset (its' := its.dropLast) hH e ?_ r.dropLast ?_, ru, q⟩
  · show its.toArray.eraseIdxIfInBounds (its.toArray.size - 1) = its.dropLast.toArray
    rw [List.size_toArray, List.eraseIdxIfInBounds_toArray, erase_last]
  · rw [List.length_dropLast]
    omega

def rPopAt : V → List V → Hp → VK → Prop := fun x vs H Q => ∃ l xs i k y, x = .ref l ∧ vs = [.int i] ∧ H l = some (.lst xs) ∧ -(2 ^ 63) ≤ i ∧ i < 2 ^ 63 ∧ seqIndex? i xs.length = some k ∧ xs[k]? = some y ∧ Q y (upd H l (.lst (xs.eraseIdx k)))

def rReverse : V → List V → Hp → VK → Prop := fun x vs H Q => ∃ l xs, x = .ref l ∧ vs = [] ∧ H l = some (.lst xs) ∧ Q .non (upd H l (.lst xs.reverse))

def rClear : V → List V → Hp → VK → Prop := fun x vs H Q => ∃ l xs, x = .ref l ∧ vs = [] ∧ H l = some (.lst xs) ∧ Q .non (upd H l (.lst []))

/-! ### list + list, list += list, list * int -/
def rCat : R2 := fun x y H Q => ∃ l b xs zs, x = .ref l ∧ y = .ref b ∧ H l = some (.lst xs) ∧ H b = some (.lst zs) ∧ xs.length + zs.length ≤ sizeLine ∧ ∀ p, H p = none → Q (.ref p) (upd H p (.lst (xs ++ zs)))
theorem op_cat : OpR X (binaryOp .Add) rCat := by
  intro pins s σ H x y v u Q I rx ry h
  obtain ⟨l, b, xs, zs, rfl, rfl, hH, hB, hz, q⟩ := h
  cases rx
  cases ry
  obtain ⟨z, its, n, r, hl, e⟩ := I.lstM hH
  obtain ⟨z2, its2, n2, r2, hl2, e2⟩ := I.lstM hB
  refine PySem.P.add_list e e2 ?_ (by rw [List.size_toArray, List.size_toArray]; omega)
  have ea : its.toArray ++ its2.toArray = (its ++ its2).toArray := by simp
  rw [ea]
  exact ⟨.ref _, _, I.lnew (t' := s.toks) (r.append r2) (by rw [List.length_append]; omega), rfl, q _ I.fresh⟩
/-- a list times an int (a negative one is nothing) -/
def rRep : R2 := fun x y H Q => ∃ l k xs, x = .ref l ∧ y = .int k ∧ H l = some (.lst xs) ∧ -(2 ^ 63) ≤ k ∧ k < 2 ^ 63 ∧ xs.length * k.toNat ≤ sizeLine ∧
  ∀ p, H p = none → Q (.ref p) (upd H p (.lst (List.replicate k.toNat xs).flatten))

/-! ### del xs[i] -/
end

/-! ### xs[a:b] = ys -/
section
variable {prog : Program} {w : World} {A : Around} {E : Value → Shared → Prop} {s : Shared}
end

section
variable {X : Cx}
end
end L2

namespace L2
open PySem PySem.Spec PyProof.Rows

/-! ### lists of pairs as tables -/
section
variable {κ : Type} [DecidableEq κ]
def valV (kvs : List (κ × V)) (k : κ) : Option V := (kvs.find? fun kv => decide (kv.1 = k)).map (·.2)
/-- in its place, or at the end -/
def putK (kvs : List (κ × V)) (k : κ) (v : V) : List (κ × V) :=
  if (kvs.any fun kv => decide (kv.1 = k)) = true then kvs.map (fun kv => if kv.1 = k then (kv.1, v) else kv) else kvs ++ [(k, v)]
def dropK (kvs : List (κ × V)) (k : κ) : List (κ × V) := kvs.filter fun kv => decide (kv.1 ≠ k)

theorem valV_pos {p : κ × V} {r : List (κ × V)} {k : κ} (e : p.1 = k) : valV (p :: r) k = some p.2 := by simp [valV, List.find?_cons, e]
theorem valV_neg {p : κ × V} {r : List (κ × V)} {k : κ} (e : ¬ p.1 = k) : valV (p :: r) k = valV r k := by simp [valV, List.find?_cons, e]
theorem valV_any (k : κ) : ∀ kvs : List (κ × V), (kvs.any fun kv => decide (kv.1 = k)) = (valV kvs k).isSome
  | [] => rfl
  | p :: r => by
    rw [List.any_cons]
    by_cases e : p.1 = k
    · simp only [valV_pos e, decide_eq_true e, Bool.true_or, Option.isSome_some]
    · rw [valV_neg e, decide_eq_false e, Bool.false_or]; exact valV_any k r
theorem valV_map (k j : κ) (y : V) : ∀ kvs : List (κ × V), valV (kvs.map fun kv => if kv.1 = k then (kv.1, y) else kv) j = (valV kvs j).map fun x => if j = k then y else x
  | [] => rfl
  | p :: r => by
    have ih := valV_map k j y r
    rw [List.map_cons]
    by_cases h : p.1 = k
    · rw [if_pos h]
      by_cases e : p.1 = j
      · rw [valV_pos (p := (p.1, y)) e, valV_pos e, Option.map_some, if_pos (e.symm.trans h)]
      · rw [valV_neg (p := (p.1, y)) e, valV_neg e, ih]
    · rw [if_neg h]
      by_cases e : p.1 = j
      · rw [valV_pos (p := p) e, valV_pos e, Option.map_some, if_neg (fun z => h (e.trans z))]
      · rw [valV_neg (p := p) e, valV_neg e, ih]
theorem valV_snoc (k j : κ) (y : V) : ∀ kvs : List (κ × V), valV kvs k = none → valV (kvs ++ [(k, y)]) j = if j = k then some y else valV kvs j
  | [], _ => by
    by_cases e : k = j
    · rw [if_pos e.symm]; exact valV_pos (p := (k, y)) e
    · rw [if_neg (fun z => e z.symm)]; exact valV_neg (p := (k, y)) e
  | p :: r, hn => by
    rw [List.cons_append]
    have hk : ¬ p.1 = k := fun z => by rw [valV_pos z] at hn; cases hn
    rw [valV_neg hk] at hn
    have ih := valV_snoc k j y r hn
    by_cases e : p.1 = j
    · rw [valV_pos e, valV_pos e, if_neg (fun z => hk (e.trans z))]
    · rw [valV_neg e, valV_neg e, ih]
theorem valV_put (kvs : List (κ × V)) (k j : κ) (y : V) : valV (putK kvs k y) j = if j = k then some y else valV kvs j := by
  unfold putK
  by_cases a : (kvs.any fun kv => decide (kv.1 = k)) = true
  · rw [if_pos a, valV_map]
    rw [valV_any] at a
    by_cases e : j = k
    · obtain ⟨x, hx⟩ := Option.isSome_iff_exists.mp a
      rw [if_pos e, e, hx, Option.map_some, if_pos rfl]
    · rw [if_neg e]
      cases valV kvs j with
      | none => rfl
      | some x => rw [Option.map_some, if_neg e]
  · rw [if_neg a]
    refine valV_snoc k j y kvs ?_
    rw [valV_any] at a
    cases q : valV kvs k with
    | none => rfl
    | some x => rw [q] at a; exact (a rfl).elim
theorem length_putK (kvs : List (κ × V)) (k : κ) (v : V) : (putK kvs k v).length ≤ kvs.length + 1 := by
  unfold putK
  split
  · rw [List.length_map]; omega
  · rw [List.length_append, List.length_cons, List.length_nil]; omega
theorem putK_new {kvs : List (κ × V)} {k : κ} (v : V) (h : valV kvs k = none) : putK kvs k v = kvs ++ [(k, v)] := by
  unfold putK
  rw [valV_any, h]
  exact if_neg (by decide)

theorem RelO.isSome_eq {o : Option V} {u : Option Value} (r : RelO o u) : o.isSome = u.isSome := by
  cases o with
  | none => cases u with
    | none => rfl
    | some _ => exact (show False from r).elim
  | some _ => cases u with
    | none => exact (show False from r).elim
    | some _ => rfl
theorem RelO.getD {o : Option V} {u : Option Value} {d : V} {d' : Value} (r : RelO o u) (rd : RelV d d') : RelV (o.getD d) (u.getD d') := by
  cases o with
  | none => cases u with
    | none => exact rd
    | some _ => exact (show False from r).elim
  | some _ => cases u with
    | none => exact (show False from r).elim
    | some _ => exact r

/-- raw tables of the same keys -/
theorem KV.val {kvs : List (κ × V)} {vs : List (κ × Value)} (r : KV kvs vs) (k : κ) : RelO (valV kvs k) (valueAt vs k) := by
  unfold KV at r
  induction r with
  | nil => exact True.intro
  | @cons p q ps qs h t ih =>
    obtain ⟨h1, h2⟩ := h
    by_cases e : p.1 = k
    · have e' : q.1 = k := h1.symm.trans e
      have b : valueAt (q :: qs) k = some q.2 := by simp [valueAt, List.find?_cons, e']
      rw [valV_pos e, b]; exact h2
    · have e' : ¬ q.1 = k := fun z => e (h1.trans z)
      have b : valueAt (q :: qs) k = valueAt qs k := by simp [valueAt, List.find?_cons, e']
      rw [valV_neg e, b]; exact ih
theorem KV.any {kvs : List (κ × V)} {vs : List (κ × Value)} (r : KV kvs vs) (k : κ) : (kvs.any fun kv => decide (kv.1 = k)) = vs.any fun kv => decide (kv.1 = k) := by
  unfold KV at r
  induction r with
  | nil => rfl
  | cons h t ih => rw [List.any_cons, List.any_cons, ih, h.1]
theorem KV.repl {kvs : List (κ × V)} {vs : List (κ × Value)} (r : KV kvs vs) (k : κ) {y : V} {u : Value} (ry : RelV y u) :
    KV (kvs.map fun kv => if kv.1 = k then (kv.1, y) else kv) (vs.map fun kv => if kv.1 = k then (kv.1, u) else kv) := by
  unfold KV at r ⊢
  induction r with
  | nil => exact .nil
  | @cons p q ps qs h t ih =>
    rw [List.map_cons, List.map_cons]
    refine .cons ?_ ih
    obtain ⟨h1, h2⟩ := h
    by_cases e : p.1 = k
    · rw [if_pos e, if_pos (h1.symm.trans e)]; exact ⟨h1, ry⟩
    · rw [if_neg e, if_neg (fun z => e (h1.trans z))]; exact ⟨h1, h2⟩
theorem KV.put {kvs : List (κ × V)} {vs : List (κ × Value)} (r : KV kvs vs) (k : κ) {y : V} {u : Value} (ry : RelV y u) : KV (putK kvs k y) (stored vs k u) := by
  unfold putK stored
  rw [r.any k]
  by_cases e : (vs.any fun kv => decide (kv.1 = k)) = true
  · rw [if_pos e, if_pos e]; exact r.repl k ry
  · rw [if_neg e, if_neg e]; exact Paired.snoc r ⟨rfl, ry⟩
theorem KV.length {kvs : List (κ × V)} {vs : List (κ × Value)} (r : KV kvs vs) : kvs.length = vs.length := Paired.length r
end


/-! ### a tracked dict, its keys ints and texts or tuples of these -/
theorem kV_is {P : Program} {w : World} {k : Key} {u : Value} (r : RelV (kV k) u) : (mixKind P w).is k u = true := by
  cases k with
  | inl i => obtain ⟨t, e⟩ := (show ∃ t, u = Value.int i t from r); subst e; exact mixKind_int P w i t
  | inr x => obtain ⟨t, e⟩ := (show ∃ t, u = Value.str x t from r); subst e; exact mixKind_str P w x t
theorem items_are {P : Program} {w : World} : ∀ {ks : List Key} {us : List Value}, Vals (ks.map kV) us → ItemsAre (mixKind P w) ks us
  | [], _, r => by rw [List.map_nil] at r; cases r; exact .nil
  | k :: ks, _, r => by
    rw [List.map_cons] at r
    cases r with
    | cons h t => exact .cons (kV_is h) (items_are t)

/-- raw entries of a dict with tuple keys -/
abbrev KT (H : Hp) : List (List Key × V) → List (List Key × Addr × Value) → Prop := Paired fun p q => p.1 = q.1 ∧ H q.2.1 = some (.tup (p.1.map kV)) ∧ RelV p.2 q.2.2
theorem KT.val {H : Hp} {kvs : List (List Key × V)} {xs : List (List Key × Addr × Value)} (r : KT H kvs xs) (k : List Key) : RelO (valV kvs k) ((atKey xs k).map (·.2)) := by
  induction r with
  | nil => exact True.intro
  | @cons p q ps qs h t ih =>
    obtain ⟨h1, _, h2⟩ := h
    by_cases e : p.1 = k
    · have e' : q.1 = k := h1.symm.trans e
      have b : atKey (q :: qs) k = some q.2 := by simp [atKey, List.find?_cons, e']
      rw [valV_pos e, b]; exact h2
    · have e' : ¬ q.1 = k := fun z => e (h1.trans z)
      have b : atKey (q :: qs) k = atKey qs k := by simp [atKey, List.find?_cons, e']
      rw [valV_neg e, b]; exact ih
theorem KT.repl {H : Hp} {kvs : List (List Key × V)} {xs : List (List Key × Addr × Value)} (r : KT H kvs xs) (k : List Key) {y : V} {u : Value} (ry : RelV y u) :
    KT H (kvs.map fun kv => if kv.1 = k then (kv.1, y) else kv) (xs.map (putAt k u)) := by
  induction r with
  | nil => exact .nil
  | @cons p q ps qs h t ih =>
    rw [List.map_cons, List.map_cons]
    refine .cons ?_ ih
    obtain ⟨h1, h2, h3⟩ := h
    unfold putAt
    by_cases e : p.1 = k
    · rw [if_pos e, if_pos (h1.symm.trans e)]; exact ⟨h1, h2, ry⟩
    · rw [if_neg e, if_neg (fun z => e (h1.trans z))]; exact ⟨h1, h2, h3⟩
theorem KT.put {H : Hp} {kvs : List (List Key × V)} {xs : List (List Key × Addr × Value)} (r : KT H kvs xs) (k : List Key) {b : Addr} {y : V} {u : Value} (hb : H b = some (.tup (k.map kV))) (ry : RelV y u) :
    KT H (putK kvs k y) (storedH xs k b u) := by
  have e : (kvs.any fun kv => decide (kv.1 = k)) = (atKey xs k).isSome := by
    rw [valV_any, (r.val k).isSome_eq, Option.isSome_map]
  unfold putK storedH
  rw [e]
  by_cases q : (atKey xs k).isSome = true
  · rw [if_pos q, if_pos q]; exact r.repl k ry
  · rw [if_neg q, if_neg q]; exact Paired.snoc r ⟨rfl, hb, ry⟩
theorem KT.keeps {H H' : Hp} {kvs : List (List Key × V)} {xs : List (List Key × Addr × Value)} (r : KT H kvs xs) (ht : ∀ b ys, H b = some (.tup ys) → H' b = some (.tup ys)) : KT H' kvs xs :=
  Paired.mapP r fun _ _ z => ⟨z.1, ht _ _ z.2.1, z.2.2⟩

section
variable {P : Program} {w : World} {H : Hp} {h : Heap} {a : Addr}
theorem rd_of {u : HO} (ok : HOk P w H h) (e : Rd H a u) : ObjOk P w H h a u := e.ok ok
theorem dk_rd {kvs : List (Key × V)} (ok : HOk P w H h) (e : Rd H a (.dK kvs)) : kvs.length ≤ sizeLine ∧ (a == sysModules) = false ∧ ∃ vs, KV kvs vs ∧ h.DictOf (mixKind P w) a vs :=
  show ObjOk P w H h a (.dK kvs) from rd_of ok e
theorem dk_of {kvs : List (Key × V)} (ok : HOk P w H h) (e : H a = some (.dK kvs)) : kvs.length ≤ sizeLine ∧ (a == sysModules) = false ∧ ∃ vs, KV kvs vs ∧ h.DictOf (mixKind P w) a vs := dk_rd ok (.inl e)
/-- a tracked tuple of ints and texts is a key -/
theorem key_of {ks : List Key} (ok : HOk P w H h) (e : H a = some (.tup (ks.map kV))) : (tupleKind (mixKind P w)).is h ks a := by
  obtain ⟨_, its, r, o, h1, h2, n, h3⟩ := (show ObjOk P w H h a (.tup (ks.map kV)) from ok a _ e)
  exact ⟨o, its.toArray, n, h1, h2, h3, by simpa using items_are r⟩
theorem dt_rd {kvs : List (List Key × V)} (ok : HOk P w H h) (e : Rd H a (.dT kvs)) : kvs.length ≤ sizeLine ∧ (a == sysModules) = false ∧
    ∃ xs, KT H kvs xs ∧ h.DictOfH (tupleKind (mixKind P w)) a xs := by
  obtain ⟨z, y, xs, r, o, es, ep, h1, h2, h3, h4, h5⟩ := (show ObjOk P w H h a (.dT kvs) from rd_of ok e)
  refine ⟨z, y, xs, r, o, es, ep, h1, h2, h3, h4, fun x hx => ?_, h5⟩
  have all : ∀ {l : List (List Key × V)} {m : List (List Key × Addr × Value)}, KT H l m → ∀ x ∈ m, (tupleKind (mixKind P w)).is h x.1 x.2.1 := by
    intro l m q
    induction q with
    | nil => intro x hx; exact nomatch hx
    | @cons p q ps qs hq t ih =>
      intro x hx
      rcases List.mem_cons.mp hx with e | hx
      · subst e
        exact key_of ok (by rw [← hq.1]; exact hq.2.1)
      · exact ih x hx
  exact all r x hx
theorem dt_of {kvs : List (List Key × V)} (ok : HOk P w H h) (e : H a = some (.dT kvs)) : kvs.length ≤ sizeLine ∧ (a == sysModules) = false ∧
    ∃ xs, KT H kvs xs ∧ h.DictOfH (tupleKind (mixKind P w)) a xs := dt_rd ok (.inl e)
end

/-- what the dict at a holds at the key y -/
def DGet (H : Hp) (a : Addr) (y : V) (r : Option V) : Prop :=
  (∃ kvs k, Rd H a (.dK kvs) ∧ y = kV k ∧ r = valV kvs k) ∨ ∃ kvs k b, Rd H a (.dT kvs) ∧ y = .ref b ∧ H b = some (.tup (k.map kV)) ∧ r = valV kvs k
/-- the heap behind a[y] = v -/
def DPut (H : Hp) (a : Addr) (y v : V) (H' : Hp) : Prop :=
  (∃ kvs k, H a = some (.dK kvs) ∧ y = kV k ∧ kvs.length < sizeLine ∧ H' = upd H a (.dK (putK kvs k v))) ∨
  ∃ kvs k b, H a = some (.dT kvs) ∧ y = .ref b ∧ H b = some (.tup (k.map kV)) ∧ kvs.length < sizeLine ∧ H' = upd H a (.dT (putK kvs k v))
theorem DGet.k {H : Hp} {a : Addr} {kvs : List (Key × V)} {k : Key} (e : H a = some (.dK kvs)) : DGet H a (kV k) (valV kvs k) := .inl ⟨kvs, k, .inl e, rfl, rfl⟩
theorem DGet.t {H : Hp} {a b : Addr} {kvs : List (List Key × V)} {k : List Key} (e : H a = some (.dT kvs)) (eb : H b = some (.tup (k.map kV))) : DGet H a (.ref b) (valV kvs k) := .inr ⟨kvs, k, b, .inl e, rfl, eb, rfl⟩
theorem DPut.k {H : Hp} {a : Addr} {kvs : List (Key × V)} {k : Key} {v : V} (e : H a = some (.dK kvs)) (hl : kvs.length < sizeLine) : DPut H a (kV k) v (upd H a (.dK (putK kvs k v))) := .inl ⟨kvs, k, e, rfl, hl, rfl⟩


section
variable {X : Cx} {pins : List (Addr × Obj)} {σ : St} {H : Hp} {s : Shared} {a : Addr} {y v : V} {u r : Value} {o : Option V} {A : Around} {E : Value → Shared → Prop}

theorem Inv.big (I : Inv X pins σ H s) : sysModules < s.heap.objs.size := by
  have h : mainGlobals < s.heap.objs.size := (I.mod.glob.keeps I.bk).lt
  exact Nat.lt_trans (by decide) h

/-- d[y], there -/
theorem d_getItem {Q : Value → Shared → Prop} (hu : A.units + 1 < cLine) (I : Inv X pins σ H s) (g : DGet H a y (some v)) (ry : RelV y u) (h : ∀ w' s', Inv X pins σ H s' → RelV v w' → Q w' s') :
    wpAny (model X.prog X.w) A (getItem (.ref a) u) Q E s := by
  rcases g with ⟨kvs, k, e, ey, l⟩ | ⟨kvs, k, b, e, ey, eb, l⟩
  · subst ey
    obtain ⟨z, hd, vs, rel, dd⟩ := dk_rd I.hok e
    obtain ⟨w', hw, rw'⟩ := RelO.some_of (v := v) (o := valueAt vs k) (by rw [l]; exact rel.val k)
    exact wpAny_getItem_of (kV_is ry) dd.mapOf hw (h w' _ (I.tok _) rw')
  · subst ey
    cases (show u = Value.ref b from ry)
    obtain ⟨z, hd, xs, rel, dd⟩ := dt_rd I.hok e
    obtain ⟨w', hw, rw'⟩ := RelO.some_of (v := v) (o := (atKey xs k).map (·.2)) (by rw [l]; exact rel.val k)
    obtain ⟨p, hp, hp2⟩ := Option.map_eq_some_iff.mp hw
    refine wpAny_getItem_heap (tupleKind_room_in1 hu) (key_of I.hok eb) dd hp ?_
    rw [hp2]
    exact h w' _ (I.tok _) rw'
/-- a dict's object is replaced -/
theorem d_write {h' : Heap} {t' : Nat} {ob : HO} (I : Inv X pins σ H s) (mu : Mut (H a)) (hs : Heap.SameBut a s.heap h') (he : ∃ q, h'.get? a = some q) (new : ObjOk X.prog X.w (upd H a ob) h' a ob) :
    Inv X pins σ (upd H a ob) { s with heap := h', toks := t' } :=
  I.write (x := a) (e := a) mu (.inl rfl) (fun b q hb z => (hs.2 b hb).trans z) he new
theorem dk_new {P : Program} {w : World} {H' : Hp} {h' : Heap} {kvs : List (Key × V)} {vs : List (Key × Value)} (z : kvs.length ≤ sizeLine) (hd : (a == sysModules) = false) (rel : KV kvs vs) (dd : h'.DictOf (mixKind P w) a vs) :
    ObjOk P w H' h' a (.dK kvs) := ⟨z, hd, vs, rel, dd⟩
/-- d[y] = v -/
theorem d_setItem {H' : Hp} {Q : Unit → Shared → Prop} (hu : A.units + 1 < cLine) (I : Inv X pins σ H s) (g : DPut H a y v H') (ry : RelV y u) (rv : RelV v r) (h : ∀ s', Inv X pins σ H' s' → Q () s') :
    wpAny (model X.prog X.w) A (setItem (.ref a) u r) Q E s := by
  rcases g with ⟨kvs, k, e, ey, l, eH⟩ | ⟨kvs, k, b, e, ey, eb, l, eH⟩
  · subst ey eH
    obtain ⟨z, hd, vs, rel, dd⟩ := dk_of I.hok e
    have hz : vs.length ≤ sizeLine := by rw [← rel.length]; exact z
    have hl : (putK kvs k v).length ≤ sizeLine := by have := length_putK kvs k v; omega
    refine wpAny_setItem_pairs (hsz := hz) (kV_is ry) dd fun h' dd' hs => h _ ?_
    have he : ∃ q, h'.get? a = some q := let ⟨q, _, _, hq, _⟩ := dd'; ⟨q, hq⟩
    exact d_write I (by rw [e]; exact True.intro) hs he (dk_new hl hd (rel.put k rv) dd')
  · subst ey eH
    cases (show u = Value.ref b from ry)
    obtain ⟨z, hd, xs, rel, dd⟩ := dt_of I.hok e
    have hz : xs.length ≤ sizeLine := by rw [← Paired.length rel]; exact z
    have hl : (putK kvs k v).length ≤ sizeLine := by have := length_putK kvs k v; omega
    refine wpAny_setItem_heap (hsz := hz) (tupleKind_room_in1 hu) (key_of I.hok eb) dd fun h' dd' hs => h _ ?_
    obtain ⟨q, es, ep, hq, h2, h3, h4, _, h5⟩ := dd'
    refine d_write I (by rw [e]; exact True.intro) hs ⟨q, hq⟩ ⟨hl, hd, _, (rel.put k eb rv).keeps fun c ys ec => ?_, q, es, ep, hq, h2, h3, h4, h5⟩
    rw [upd_ne (ne_of ec e (fun z => nomatch z))]
    exact ec
end

section
variable {X : Cx} {pins : List (Addr × Obj)} {σ : St} {H : Hp} {s : Shared} {a : Addr} {kvs : List (Key × V)} {k : Key} {u : Value} {A : Around} {E : Value → Shared → Prop}
/-- len(d) -/
theorem d_len {Q : Value → Shared → Prop} (I : Inv X pins σ H s) (e : Rd H a (.dK kvs)) (h : ∀ t s', Inv X pins σ H s' → Q (.int kvs.length t) s') : wpAny (model X.prog X.w) A (call (.builtin "len") [.ref a]) Q E s := by
  obtain ⟨z, hd, vs, rel, dd⟩ := dk_rd I.hok e
  refine call_len_dict hd dd (by rw [← rel.length]; rw [sizeLine_eq] at z; omega) ?_
  rw [← rel.length]
  exact h _ _ (I.tok _)
end


/-! ### readings and rules -/
/-- the element of a subscription, not a slice -/
def NoSl (i : Expr) : Prop := ∀ ov iv, subscripted i false ov iv = operate [ov, iv] (getItem ov iv)
theorem subD_of {prog : Program} {w : World} {A : Around} {E : Value → Shared → Prop} {s : Shared} {env : Env} {value slice : Expr} {pos : Pos} {T id : String} {Q : Value → Shared → Prop}
    (hl : typeLookup (.type T) "__getitem__" = pure (some (.builtin id))) (hs : NoSl slice)
    (h : wpAny (model prog w) A (eval value env) (fun o s₁ => wpAny (model prog w) A (eval slice env) (fun i s₂ => s₂.TypeIs o T ∧ wpAny (model prog w) A (getItem o i) Q E s₂) E s₁) E s) :
    wpAny (model prog w) A (eval (.Subscript value slice pos) env) Q E s := by
  refine Subscript_ (wpAny_mono h (fun o s₁ h₁ => wpAny_mono h₁ (fun i s₂ h₂ => ?_) fun _ _ x => x) fun _ _ x => x)
  obtain ⟨hT, h₂⟩ := h₂
  unfold subscriptTail
  refine wpAny_bind ?_
  rw [getitemInPython_of_ne hT.not_modules]
  refine wpAny_bind (wpAny_specialOf hT hl ?_)
  have fin : wpAny (model prog w) A (subscripted slice false o i) (fun r s₃ => wpAny (model prog w) A (letTemporaryGo value o r >>= fun _ => pure r) Q E s₃) E s₂ := by
    rw [hs o i]
    exact wpAny_operating (wpAny_mono h₂ (fun r s₃ h₃ => wpAny_bind (wpAny_letTemporaryGo (wpAny_pure h₃))) fun _ _ x => x)
  first
    | exact wpAny_pure (wpAny_bind fin)
    | exact wpAny_bind (wpAny_pure (wpAny_bind fin))
    | exact wpAny_bind fin

theorem dict_typeIs {X : Cx} {pins : List (Addr × Obj)} {σ : St} {H : Hp} {s : Shared} {a : Addr} {y : V} {o : Option V} (I : Inv X pins σ H s) (g : DGet H a y o) : s.TypeIs (.ref a) "dict" := by
  rcases g with ⟨kvs, k, e, _, _⟩ | ⟨kvs, k, b, e, _, _, _⟩
  · obtain ⟨_, _, vs, _, dd⟩ := dk_rd I.hok e
    exact dd.typeIs
  · obtain ⟨_, _, xs, _, dd⟩ := dt_rd I.hok e
    exact dd.typeIs

/-- d[y] -/
def tDGet (td ty : TE) : TE := fun σ H Q => td σ H fun x H1 => ty σ H1 fun y H2 => ∃ a v, x = .ref a ∧ DGet H2 a y (some v) ∧ Q v H2
/-- y in d, y not in d -/
def tDIn (ty td : TE) : TE := fun σ H Q => ty σ H fun y H1 => td σ H1 fun x H2 => ∃ a o, x = .ref a ∧ DGet H2 a y o ∧ Q (.bl o.isSome) H2
def tDNotIn (ty td : TE) : TE := fun σ H Q => ty σ H fun y H1 => td σ H1 fun x H2 => ∃ a o, x = .ref a ∧ DGet H2 a y o ∧ Q (.bl (!o.isSome)) H2
/-- d[y] = v -/
def sDPut (td ty tv : TE) : TS := fun D σ H => tv σ H fun v H1 => td σ H1 fun x H2 => ty σ H2 fun y H3 => ∃ a H4, x = .ref a ∧ DPut H3 a y v H4 ∧ D.nx σ H4
/-- d[y] op= v -/
def sDAug (td ty tv : TE) (rd : V → V → Hp → VK → Prop) : TS := fun D σ H => td σ H fun x H1 => ty σ H1 fun y H2 => ∃ a v, x = .ref a ∧ DGet H2 a y (some v) ∧
  tv σ H2 fun y2 H3 => rd v y2 H3 fun z H4 => ∃ H5, DPut H4 a y z H5 ∧ D.nx σ H5
/-- del d[y] -/
def sDDel (td ty : TE) : TS := fun D σ H => td σ H fun x H1 => ty σ H1 fun y H2 => ∃ a kvs k, x = .ref a ∧ H2 a = some (.dK kvs) ∧ y = kV k ∧ (valV kvs k).isSome = true ∧ D.nx σ (upd H2 a (.dK (dropK kvs k)))

section
variable {X : Cx} {o i e value : Expr} {pos pos' tpos : Pos} {td ty tv : TE}
theorem pe_dget (hu : X.A.units + 1 < cLine) (ho : PE X o td) (hi : PE X i ty) (hs : NoSl i) : PE X (.Subscript o i pos) (tDGet td ty) := by
  intro pins s σ H Q I h
  refine subD_of PySem.F.slot_dict_getitem.lookup hs (thn (ho pins s σ H _ I h) fun u s1 ⟨x, H1, I1, rx, q1⟩ => thn (hi pins s1 σ H1 _ I1 q1) fun iv s2 ⟨y, H2, I2, ry, a, v, ex, g, q2⟩ => ?_)
  subst ex
  obtain rfl : u = Value.ref a := rx
  exact ⟨dict_typeIs I2 g, d_getItem hu I2 g ry fun w' s3 I3 rw' => ⟨v, H2, I3, rw', q2⟩⟩
theorem ps_dput (hu : X.A.units + 1 < cLine) (ho : PE X o td) (hi : PE X i ty) (hv : PE X value tv) (hs : swapsWith value (some (.Subscript o i pos')) pos.line X.env = pure false) :
    PS X (.Assign [.Subscript o i pos'] value pos) (sDPut td ty tv) := by
  intro pins s σ H D I h
  refine wpAny_Assign_Subscript (thn (hv pins s σ H _ I h) fun r s1 ⟨v, H1, I1, rv, q1⟩ => thn (ho pins s1 σ H1 _ I1 q1) fun u s2 ⟨x, H2, I2, rx, q2⟩ => thn (hi pins s2 σ H2 _ I2 q2) fun iv s3 ⟨y, H3, I3, ry, a, H4, ex, g, q3⟩ => ?_) hs
  subst ex
  obtain rfl : u = Value.ref a := rx
  exact d_setItem hu I3 g ry rv fun s4 I4 => ⟨σ, H4, I4, q3⟩
end


/-! ### displays -/
theorem dk_empty {P : Program} {w : World} {H : Hp} (h : Heap) (hb : sysModules < h.objs.size) : ObjOk P w H (h.push { cls := .type "dict", data := .dict #[] }) h.objs.size (.dK []) :=
  ⟨Nat.zero_le _, beq_eq_false_iff_ne.mpr (Ne.symm (Nat.ne_of_lt hb)), [], .nil, Heap.DictOf.new h⟩
theorem dt_empty {P : Program} {w : World} {H : Hp} (h : Heap) (hb : sysModules < h.objs.size) : ObjOk P w H (h.push { cls := .type "dict", data := .dict #[] }) h.objs.size (.dT []) :=
  ⟨Nat.zero_le _, beq_eq_false_iff_ne.mpr (Ne.symm (Nat.ne_of_lt hb)), [], .nil, _, #[], 0, Heap.get?_push_size _ rfl, ⟨rfl, rfl, rfl⟩, rfl, rfl, List.nodup_nil⟩
/-- {}, to be a dict of the kind that is wanted -/
def tDNewK : TE := fun _ H Q => ∀ p, H p = none → Q (.ref p) (upd H p (.dK []))
def tDNewT : TE := fun _ H Q => ∀ p, H p = none → Q (.ref p) (upd H p (.dT []))
section
variable {X : Cx} {pos : Pos}
theorem pe_dnewK : PE X (.Dict [] [] pos) tDNewK := fun pins s σ H Q I h =>
  wpAny_Dict_empty ⟨.ref s.heap.objs.size, _, I.laid (a := s.heap.objs.size) (o := .dK []) (t' := s.toks) (fun _ _ q => Heap.get?_push_of_some _ q) (Nat.le_refl _) (dk_empty s.heap I.big), rfl, h _ (I.hok.fresh (Nat.le_refl _))⟩
end

/-- the pairs of a display, from the left -/
def tPairs : List (TE × TE) → St → Hp → (List (V × V) → Hp → Prop) → Prop
  | [], _, H, Q => Q [] H
  | (tk, tv) :: r, σ, H, Q => tk σ H fun x H1 => tv σ H1 fun y H2 => tPairs r σ H2 fun ps H3 => Q ((x, y) :: ps) H3
abbrev VV : List (V × V) → List (Value × Value) → Prop := Paired fun p q => RelV p.1 q.1 ∧ RelV p.2 q.2
def PPs (X : Cx) (pos : Pos) (keys : List (Option Expr)) (values : List Expr) (trs : List (TE × TE)) : Prop :=
  ∀ (pins : List (Addr × Obj)) (s : Shared) (σ : St) (H : Hp) (Q : List (V × V) → Hp → Prop), Inv X pins σ H s → tPairs trs σ H Q →
    wpAny (model X.prog X.w) X.A (evalPairs (pairTrees keys values X.env pos)) (fun vs s' => ∃ ps H', Inv X pins σ H' s' ∧ VV ps vs ∧ Q ps H') X.xe s

def mergeK (kvs more : List (Key × V)) : List (Key × V) := more.foldl (fun acc kv => putK acc kv.1 kv.2) kvs
/-- {k: v, ..} with keys ints and texts; the new dict stands empty while the pairs are made -/
def tDisp (trs : List (TE × TE)) : TE := fun σ H Q => ∀ p, H p = none → tPairs trs σ (upd H p (.dK [])) fun ps H2 => H2 p = some (.dK []) ∧ ∃ kvs : List (Key × V), ps = kvs.map (fun kv => (kV kv.1, kv.2)) ∧ kvs.length ≤ 15 ∧ Q (.ref p) (upd H2 p (.dK (mergeK [] kvs)))


/-! ### methods -/
/-- a method call o.m(e) of a built-in, with one argument: what must be seen of the text -/
structure M1 (X : Cx) (o : Expr) (m : Str) (apos : Pos) (e : Expr) (cpos : Pos) : Prop where
  base : attributeBase o m X.env (eval o X.env) = eval o X.env
  few : ((backTo cpos (starEach [e] X.env)).all (fun x => !x.1) && (backToKw cpos (keywordEach [] X.env)).all (fun x => x.1.isSome)
    && decide (([e] : List Expr).length + ([] : List Keyword).length + (if ([] : List Keyword).isEmpty then 0 else 1) < 30)) = true
  line : (apos.endLine == cpos.line) = true
  trees : backTo cpos (starEach [e] X.env) = [(false, eval e X.env)]
structure M2 (X : Cx) (o : Expr) (m : Str) (apos : Pos) (e f : Expr) (cpos : Pos) : Prop where
  base : attributeBase o m X.env (eval o X.env) = eval o X.env
  few : ((backTo cpos (starEach [e, f] X.env)).all (fun x => !x.1) && (backToKw cpos (keywordEach [] X.env)).all (fun x => x.1.isSome)
    && decide (([e, f] : List Expr).length + ([] : List Keyword).length + (if ([] : List Keyword).isEmpty then 0 else 1) < 30)) = true
  line : (apos.endLine == cpos.line) = true
  trees : backTo cpos (starEach [e, f] X.env) = [(false, eval e X.env), (false, eval f X.env)]

/-- a is a dict, whatever its keys -/
def IsD (H : Hp) (a : Addr) : Prop := (∃ kvs, Rd H a (.dK kvs)) ∨ ∃ kvs, Rd H a (.dT kvs)
theorem isD_at {X : Cx} {pins : List (Addr × Obj)} {σ : St} {H : Hp} {s : Shared} {a : Addr} (I : Inv X pins σ H s) (d : IsD H a) :
    s.TypeIs (.ref a) "dict" ∧ (∀ b, Value.ref a = .ref b → ∃ ob, s.heap.get? b = some ob ∧ ob.dict = none) ∧ (a == sysModules) = false := by
  rcases d with ⟨kvs, e⟩ | ⟨kvs, e⟩
  · obtain ⟨_, hd, vs, _, dd⟩ := dk_rd I.hok e
    refine ⟨dd.typeIs, fun b q => ?_, hd⟩
    cases q
    obtain ⟨ob, _, _, h1, h2, _⟩ := dd
    exact ⟨ob, h1, h2.2.1⟩
  · obtain ⟨_, hd, xs, _, dd⟩ := dt_rd I.hok e
    refine ⟨dd.typeIs, fun b q => ?_, hd⟩
    cases q
    obtain ⟨ob, _, _, h1, h2, _⟩ := dd
    exact ⟨ob, h1, h2.2.1⟩

section
variable {X : Cx} {pins : List (Addr × Obj)} {σ : St} {H : Hp} {s : Shared} {a : Addr} {y d : V} {u r : Value} {o : Option V} {A : Around} {E : Value → Shared → Prop}
/-- d.get(y, x) -/
theorem d_get2 {Q : Value → Shared → Prop} (hu : A.units + 1 < cLine) (I : Inv X pins σ H s) (g : DGet H a y o) (ry : RelV y u) (rd : RelV d r) (h : ∀ w' s', Inv X pins σ H s' → RelV (o.getD d) w' → Q w' s') :
    wpAny (model X.prog X.w) A (call (.builtin "dict.get") [.ref a, u, r]) Q E s := by
  rcases g with ⟨kvs, k, e, ey, l⟩ | ⟨kvs, k, b, e, ey, eb, l⟩
  · subst ey
    obtain ⟨z, hd, vs, rel, dd⟩ := dk_rd I.hok e
    refine call_meetsIn PySem.F.slot_dict_get dd.typeIs PySem.F.entry_dict_get (PySem.F.args_dict_get_3 _ _ _) (meets_dict_get_default (mixKind X.prog X.w) a (kV_is ry) hd r) ⟨_, dd.mapOf, h _ _ (I.tok _) ?_⟩
    rw [l]
    exact (rel.val k).getD rd
  · subst ey
    cases (show u = Value.ref b from ry)
    obtain ⟨z, hd, xs, rel, dd⟩ := dt_rd I.hok e
    refine call_meetsIn PySem.F.slot_dict_get dd.typeIs PySem.F.entry_dict_get (PySem.F.args_dict_get_3 _ _ _) (meetsH_dict_get_default (tupleKind (mixKind X.prog X.w)) a b hd r) ⟨tupleKind_room_in1 hu, k, xs, key_of I.hok eb, dd, h _ _ (I.tok _) ?_⟩
    rw [l]
    exact (rel.val k).getD rd
end

def tDGet1 (td ty : TE) : TE := fun σ H Q => td σ H fun x H1 => ∃ a, x = .ref a ∧ IsD H1 a ∧ ty σ H1 fun y H2 => ∃ o, DGet H2 a y o ∧ Q (o.getD .non) H2
def tDGet2 (td ty tx : TE) : TE := fun σ H Q => td σ H fun x H1 => ∃ a, x = .ref a ∧ IsD H1 a ∧ ty σ H1 fun y H2 => tx σ H2 fun z H3 => ∃ o, DGet H3 a y o ∧ Q (o.getD z) H3
/-- d.pop(k): there; d.pop(k, x): there or not -/
def tDPop1 (td ty : TE) : TE := fun σ H Q => td σ H fun x H1 => ∃ a, x = .ref a ∧ IsD H1 a ∧ ty σ H1 fun y H2 => ∃ kvs k v, H2 a = some (.dK kvs) ∧ y = kV k ∧ valV kvs k = some v ∧ Q v (upd H2 a (.dK (dropK kvs k)))
def tDPop2 (td ty tx : TE) : TE := fun σ H Q => td σ H fun x H1 => ∃ a, x = .ref a ∧ IsD H1 a ∧ ty σ H1 fun y H2 => tx σ H2 fun z H3 => ∃ kvs k, H3 a = some (.dK kvs) ∧ y = kV k ∧
  (∀ v, valV kvs k = some v → Q v (upd H3 a (.dK (dropK kvs k)))) ∧ (valV kvs k = none → Q z H3)
section
variable {X : Cx} {o e f : Expr} {apos cpos : Pos} {td ty tx : TE}
theorem pe_dget2 (hu : X.A.units + 1 < cLine) (ho : PE X o td) (he : PE X e ty) (hf : PE X f tx) (m : M2 X o "get" apos e f cpos) : PE X (.Call (.Attribute o "get" apos) [e, f] [] cpos) (tDGet2 td ty tx) := by
  intro pins s σ H Q I h
  refine wpAny_Call_method m.base m.few m.line PySem.F.plainAttrs_dict PySem.F.slot_dict_get PySem.F.type_dict_get (thn (ho pins s σ H _ I h) fun u s1 ⟨x, H1, I1, rx, a, ex, d, q1⟩ => ?_)
  subst ex
  obtain rfl : u = Value.ref a := rx
  obtain ⟨t1, t2, _⟩ := isD_at I1 d
  refine ⟨t1, t2, ?_⟩
  rw [m.trees]
  refine Calls.callWith_builtin rfl (Calls.evalArgs_plain (Calls.spliced_cons (thn (he pins s1 σ H1 _ I1 q1) fun iv s2 ⟨y, H2, I2, ry, q2⟩ =>
    Calls.spliced_cons (thn (hf pins s2 σ H2 _ I2 q2) fun fv s3 ⟨z, H3, I3, rz, ov, g, q3⟩ => Calls.spliced_nil ?_))))
  exact d_get2 hu I3 g ry rz fun w' s4 I4 rw' => ⟨_, H3, I4, rw', q3⟩
end

/-! ### dict(d): a copy -/
section
variable {X : Cx} {pins : List (Addr × Obj)} {σ : St} {H : Hp} {s : Shared} {a : Addr} {kvs : List (Key × V)} {A : Around} {E : Value → Shared → Prop}
end


section
variable {X : Cx} {pins : List (Addr × Obj)} {σ : St} {H : Hp} {s : Shared} {a : Addr} {y : V} {u : Value} {A : Around} {E : Value → Shared → Prop}
end
end L2

namespace Att
open PySem PySem.W PySem.Calls PyProof.Rows

/-! ### the script -/
theorem ints_of_wellAll {P : Params} {h : Heap} : ∀ (ns : List Int) (vs : List Value), WellAll P h vs (ns.map WData.int) → IntsAre vs ns := by
  intro ns
  induction ns with
  | nil =>
    intro vs w
    rw [List.map_nil] at w
    cases w
    exact .nil
  | cons n ns ih =>
    intro vs w
    rw [List.map_cons] at w
    cases w with
    | cons a b =>
      cases a
      exact .cons _ _ (ih _ b)

theorem script_of {l : OpenLaw} {n : Nat} (hn : l.most = some n) {P : Params} {h : Heap} {args : List WData} {vals : List Value}
    (hpre : l.row.toRowW.claim.pre args = true) (hwl : WellAll P h vals args) :
    ∃ a vs ns, vals = [Value.ref a] ∧ args = [WData.list (ns.map WData.int)] ∧ h.get? a = some { cls := .type "list", data := .seq vs.toArray } ∧ IntsAre vs ns ∧ ns.length ≤ n := by
  have hsh : WShape.hasAll [] args [.list .int] = true := (pre_splitW hpre).1
  have hc : l.pre.holds [] { args := args } = true := (pre_splitW hpre).2
  obtain ⟨d, r, rfl, h1, h2⟩ := hasAllW_cons hsh
  obtain rfl := hasAllW_nil h2
  obtain ⟨xs, rfl, h3⟩ := hasW_list h1
  obtain ⟨ns, rfl⟩ := items_int h3
  have hlen : ns.length ≤ n := by
    unfold OpenLaw.pre at hc
    have h4 : (WTm.not (.lt (.lit (.int (n : Int))) (.len (.arg 0)))).holds [] { args := [.list (ns.map .int)] } = true := by
      have h4 := (holds_andW hc).1
      rw [hn] at h4
      exact h4
    have h5 := condW_of h4 (w_not (w_lt w_lit (w_len_list (w_arg rfl))))
    rw [List.length_map] at h5
    refine Nat.le_of_not_lt fun q => ?_
    have q' : (n : Int) < ((ns.length : Nat) : Int) := by omega
    first
      | (rw [decide_eq_true q'] at h5; exact absurd h5 (by decide))
      | (simp at h5; omega)
  cases hwl with
  | cons w1 w2 =>
    cases w2
    cases w1 with
    | list ho hall => exact ⟨_, _, ns, rfl, rfl, ho, ints_of_wellAll ns _ hall, hlen⟩

theorem post_true (l : OpenLaw) (args : List WData) : l.row.toRowW.claim.post args (.bool true) args = true :=
  postW_of (r := l.row.toRowW) (X := (true == true))
    (show WShape.has [] (.bool true) .bool = true by first | rfl | decide | simp [WShape.has, WShape.arms, WShape.armsAll])
    (show (WTm.eq .res (.lit (.bool true))).value [] { args := args, res := some (.bool true), after := args } = some (.bool (true == true)) from w_eq_bool (w_res rfl) w_lit) rfl

/-! ### the attachment: holds_open's last premise (the goal 'hc' behind k_head) from a wpAny of the law's body -/

/-- the same from a codeAny of the CALL (for a layer whose function contracts speak of calls) -/
theorem attach_call {l : OpenLaw} {n : Nat} {q : Program} {loose : List Str} {XP : (Str → Option Value) → Heap → Prop} {YP : World → Heap → Prop} {d : DefRec}
    (hn : l.most = some n) (hdf : d.params.defaults = [])
    (call : ∀ (w : World) (s₀ s₁ : Shared) (mg mb : Str → Option Value) (fa : Addr) (o : Obj) (pm cd doc : Value) (a : Addr) (vs : List Value) (ns : List Int),
      Ground q loose [] XP w s₀ mg mb s₁.heap → YP w s₁.heap →
      s₁.heap.get? fa = some o → o.data = .func (docDef d.name d.params d.body d.scope pm cd doc) → s₁.heap.CodeRec cd d.name → mg d.name = some (.ref fa) →
      s₁.heap.get? a = some { cls := .type "list", data := .seq vs.toArray } → IntsAre vs ns → ns.length ≤ n → s₁.gens = #[] →
      codeAny (model l.prog w) callerA (.call (.ref fa) ⟨[.ref a], []⟩) (fun r s' => r = .ok (.ret (.bool true)) ∧ OldK s₁.heap s'.heap ∧ s'.os = s₁.os ∧ AllBare s'.gens) s₁) :
    WalkO q loose XP YP l.row.toRowW d [] (fun f vs => PySem.call f vs) := by
  intro w s₀ s₁ mg mb G Y fa o pm cd doc dV kV ho hd hcd hD hmg hg args vals as hpre hlay hrd hwl hlo
  obtain rfl : dV = .none := Dflts.none hD hdf
  obtain rfl : kV = .none := Dflts.noKw hD
  obtain ⟨a, vs, ns, rfl, rfl, hobj, hints, hlen⟩ := script_of hn hpre hwl
  refine enter_call (codeAny_mono (call w s₀ s₁ mg mb fa o pm cd doc a vs ns G Y ho (fd_plain hd) hcd hmg hobj hints hlen hg) fun r s' hq => ?_)
  obtain ⟨rfl, h2, h3, h4⟩ := hq
  exact ⟨.inl ⟨.bool true, .bool true, [], rfl, fun _ => rfl, .bool true, post_true l _, fun _ => ⟨List.Pairwise.nil, fun _ hm => (nomatch hm)⟩⟩, h2, h3, h4⟩


/-! ### rules over ANY heap (no ledger) from facts about the written part K: the library's own take a ledger (News) for what they write -/
section
variable {prog : Program} {w : World} {A : Around} {E : Value → Shared → Prop} {s : Shared} {K : Frag}





/-! the whole heap as the ledger: makes every rule that writes through a ledger a rule over any heap -/
def noObjs (h : Heap) : Heap := { h with objs := #[] }
def ledger (h : Heap) (L d : Addr) : List (Addr × Obj) := (List.range h.objs.size).filterMap fun a => if a = L ∨ a = d then none else (h.get? a).map fun o => (a, o)

end
end Att

namespace L2
open PySem PySem.Spec PyProof.Rows

theorem vals_ints : ∀ {vs : List Value} {ns : List Int}, IntsAre vs ns → Vals (ns.map V.int) vs
  | _, _, .nil => .nil
  | _, _, .cons n t h => .cons ⟨t, rfl⟩ (vals_ints h)

/-- nothing is tracked but the script, known to the object (or it is an object of the module) -/
def Only (H : Hp) : Prop := ∀ b, H b = none ∨ ∃ o xs, H b = some (.frz o (.lst xs))

/-- THE HEAD: the law's promise, at the heap behind the top. F, the promise of the law's def, may use that base is part of the heap (so K.In base, base.Ns mainGlobals mg stand in Mod) -/
theorem law_call {P : Program} {w : World} {K : PySem.W.Frag} {mg mb : Str → Option Value} {CX : CXT} {k : Nat} {fa a : Addr} {fd : FuncData} {x : Str} {sp : Sp} {s₁ : Shared} {vs : List Value} {ns : List Int}
    (KX : K.In s₁.heap) (hns : s₁.heap.Ns mainGlobals mg) (hb : s₁.heap.Ns builtinsNs mb) (hbb : ∀ x : Str, x ≠ "__name__" → mb x = bootBuiltins x) (hlim : s₁.heap.NoLimit) (hg : s₁.gens = #[])
    (ha : s₁.heap.get? a = some { cls := .type "list", data := .seq vs.toArray }) (hi : IntsAre vs ns) (hl : ns.length ≤ sizeLine) (hr : Room k callerA)
    (F : ∀ base : Heap, K.In base → base.Ns mainGlobals mg → FnOk P w K mg base CX k fa fd [x] sp) (hbind : ∀ (s : Shared) (u : Value), BindsTo s fd ⟨[u], []⟩ [(x, u)])
    (hsp : ∀ H : Hp, Only H → SqL K H a (ns.map V.int) → sp [.ref a] H (fun v _ => v = .bl true) fun _ _ _ => False)
    (hCX : ∀ H e s', CX [] H s₁ (fun _ _ _ => False) e s' → False) :
    codeAny (model P w) callerA (.call (.ref fa) ⟨[.ref a], []⟩) (fun r s' => r = .ok (.ret (.bool true)) ∧ OldK s₁.heap s'.heap ∧ s'.os = s₁.os ∧ AllBare s'.gens) s₁ := by
  have rv := vals_ints hi
  have lenV := hi.length
  -- from an abstract heap in which nothing but the script may be tracked
  have core : ∀ H : Hp, Only H → SqL K H a (ns.map V.int) → HOk P w H s₁.heap → (∀ b, H b ≠ none → b = a) → (H a ≠ none → K.lookup a = none) →
      codeAny (model P w) callerA (.call (.ref fa) ⟨[.ref a], []⟩) (fun r s' => r = .ok (.ret (.bool true)) ∧ OldK s₁.heap s'.heap ∧ s'.os = s₁.os ∧ AllBare s'.gens) s₁ := by
    intro H hO hS hok hA hK
    have base_of : ∀ {b : Addr} {o : Obj}, s₁.heap.get? b = some o → H b = none → (hidT s₁.heap H).get? b = some o := fun e n => hidT_get e n
    have noA : ∀ {b : Addr} {o : Obj} {es : Array DictEntry} {ep : Nat}, s₁.heap.get? b = some o → o.data = .dict es ep → H b = none := fun {b o es ep} e d => by
      cases q : H b with
      | none => rfl
      | some u =>
        have e' : b = a := hA b (by rw [q]; simp)
        subst e'
        rw [ha] at e; cases e
        have d' : Data.seq vs.toArray _ = Data.dict es ep := d
        cases d'
    have nsK : ∀ {b : Addr} {m : Str → Option Value}, s₁.heap.Ns b m → (hidT s₁.heap H).Ns b m := fun {b m} ⟨o, es, ep, e, d, r⟩ => ⟨o, es, ep, base_of e (noA e d), d, r⟩
    have hKb : K.In (hidT s₁.heap H) := fun b o e => base_of (KX b o e) (by
      cases q : H b with
      | none => rfl
      | some u =>
        have e' : b = a := hA b (by rw [q]; simp)
        subst e'
        rw [hK (by rw [q]; simp)] at e; cases e)
    have hM : Mod K mg (hidT s₁.heap H) := ⟨hKb, nsK hns, ⟨mb, nsK hb, hbb⟩, let ⟨mc, h1, h2⟩ := hlim; ⟨mc, nsK h1, h2⟩⟩
    have e0 : Env0 P w K mg (hidT s₁.heap H) callerA [] s₁ H := ⟨rfl, hM, fun b o e => of_hidT e, Nat.le_of_eq (hidT_size _ _), trivial, fun b hb => absurd (show b ∈ ([] : List Addr) from hb) (by simp), hok, .of_eq hg⟩
    refine codeAny_mono ((F _ hKb (nsK hns)).run callerA [] s₁ H ⟨[.ref a], []⟩ [.ref a] [.ref a] _ _ hr e0 (hbind s₁ (.ref a)) (.cons rfl .nil) (hsp H hO hS)) fun r s' h => ?_
    cases r with
    | error e => exact (hCX H e s' h).elim
    | ok fl =>
      cases fl with
      | next => exact False.elim h
      | brk => exact False.elim h
      | cont => exact False.elim h
      | ret u =>
        obtain ⟨v, H', os, bare, un, hok', r', q⟩ := h
        have q' : v = .bl true := q
        subst q'
        obtain rfl : u = Value.bool true := r'
        refine ⟨rfl, OldK.of_keep fun b o e => ?_, os, bare⟩
        cases q : H b with
        | none => exact un.keep b o e q (by intro z; exact absurd (show b ∈ ([] : List Addr) from z) (by simp)) (by simp)
        | some u =>
          rcases hO b with z | ⟨ob, xs, z⟩
          · rw [q] at z; cases z
          · have z2 := un.frzs b ob _ z
            obtain ⟨e1, _⟩ := hok b _ z
            obtain ⟨e2, _⟩ := hok' b _ z2
            rw [e] at e1; cases e1
            exact e2
  cases hk : K.lookup a with
  | some o =>
    -- the script is one of the module's own objects
    have e := KX a o hk
    rw [ha] at e
    cases e
    refine core (fun _ => none) (fun _ => .inl rfl) (.inr ⟨_, vs.toArray, _, hk, rfl, rfl, rfl, by rw [List.size_toArray, lenV]; exact hl, by simpa using rv⟩) (fun b u z => by have z' : (none : Option HO) = some u := z; cases z') (fun b z => absurd rfl z) fun z => absurd rfl z
  | none =>
    refine core (fun b => if b = a then some (.frz { cls := .type "list", data := .seq vs.toArray } (.lst (ns.map V.int))) else none) (fun b => ?_) (.inl (.inr ⟨{ cls := .type "list", data := .seq vs.toArray }, if_pos rfl⟩)) (fun b u z => ?_) (fun b z => ?_) fun _ => hk
    · by_cases hb : b = a
      · exact .inr ⟨_, _, if_pos hb⟩
      · exact .inl (if_neg hb)
    · by_cases hb : b = a
      · have z' := (if_pos hb).symm.trans z
        cases z'
        subst hb
        exact ⟨ha, by rw [List.length_map]; exact hl, vs, _, rv, ha⟩
      · have z' := (if_neg hb).symm.trans z
        cases z'
    · by_cases hb : b = a
      · exact hb
      · exact absurd (if_neg hb) z
end L2

namespace L2
open PySem PySem.Spec PyProof.Rows

abbrev KOf {K : PySem.W.Frag} {h : Heap} (_ : K.In h) : PySem.W.Frag := K

/-- the goal that k_head leaves (case hc), from the law's promise. F gives the function object fd (K's own) once, then the promise over every base -/
theorem walk_of {l : PySem.W.OpenLaw} {n k : Nat} {q : Program} {loose : List Str} {XP : (Str → Option Value) → Heap → Prop} {YP : World → Heap → Prop} {d : DefRec} {K : Params → PySem.W.Frag} {CX : World → CXT} {sp : World → Sp} {x : Str}
    (hn : l.most = some n) (hn2 : n ≤ sizeLine) (hdf : d.params.defaults = []) (hr : Room k callerA)
    (hY : ∀ (w : World) (h : Heap), YP w h → (K w.params).In h)
    (F : ∀ (w : World) (mg : Str → Option Value) (fa : Addr) (h : Heap), (K w.params).In h → h.Ns mainGlobals mg → mg d.name = some (.ref fa) →
      ∃ fd : FuncData, (∀ (s : Shared) (u : Value), BindsTo s fd ⟨[u], []⟩ [(x, u)]) ∧
        ∀ base : Heap, (K w.params).In base → base.Ns mainGlobals mg → FnOk l.prog w (K w.params) mg base (CX w) k fa fd [x] (sp w))
    (hsp : ∀ (w : World) (H : Hp) (a : Addr) (ns : List Int), ns.length ≤ n → Only H → SqL (K w.params) H a (ns.map V.int) → sp w [.ref a] H (fun v _ => v = .bl true) fun _ _ _ => False)
    (hCX : ∀ (w : World) (H : Hp) (s : Shared) (e : Value) (s' : Shared), CX w [] H s (fun _ _ _ => False) e s' → False) :
    PySem.W.WalkO q loose XP YP l.row.toRowW d [] (fun f vs => PySem.call f vs) := by
  refine Att.attach_call hn hdf fun w s₀ s₁ mg mb fa o pm cd doc a vs ns G Y ho hd hcd hmg hobj hints hlen hg => ?_
  have KX := hY w _ Y
  obtain ⟨fd, hb, hF⟩ := F w mg fa _ KX G.T.g hmg
  exact law_call KX G.T.g G.T.b G.T.builtins G.T.nolimit hg hobj hints (Nat.le_trans hlen hn2) hr hF hb (fun H hO hS => hsp w H a ns hlen hO hS) fun H e s' => hCX w H s₁ e s'
end L2

/- THE LAST THEOREM (shape; LID, My.* are yours):
   My.Adr: a structure of the addresses that your layer names (classes, functions); My.Txt K t: a structure (Prop) of the equations over K;
   My.txt_mk : {K} {implicit addresses ..} (e1 : nsIn K mainGlobals "law" = some (some (.ref f))) (e2 : K.lookup f = some ⟨oc, od, .func (fnOf "law" "law" params body scope dV kV doc pm an cdv ct), sl⟩) (e3 : codeIn K cdv "law" = true) .. : ∃ t, My.Txt K t

set_option maxRecDepth 100000 in
set_option maxHeartbeats 0 in
theorem PySem.Challenge.cw_LID_holds : PySem.Challenge.rw_LID.Holds := by
  w_on; o_law; k_head; (case hw => w_witness2)
  k_fill
  refine L2.walk_of (l := PySem.Challenge.rw_LID) (n := 63) (k := 40) (x := "script") (CX := fun w => ..) (sp := fun _ => My.sp_law) rfl (by decide) rfl ⟨rfl, by decide, by decide⟩ (fun w h Y => PySem.W.kIn_of Y) ?F ?S ?C
  case F =>
    intro w mg fa h KX G hmg
    have T : ∃ t, My.Txt (L2.KOf KX) t := by
      dsimp only [L2.KOf]                          -- K must stand as «<heap const> w.params» for k_is
      refine' My.txt_mk ?e1 ?e2 ?e3 ..
      (case e1 => PySem.W.k_is)                    -- in the order: a name -> its address -> its object -> its parts
      (case e2 => PySem.W.k_is)
      ..
    obtain ⟨t, T⟩ := T
    have e0 := hmg.symm.trans (PySem.W.mg_of KX G T.law)
    cases e0                                       -- fa is the law's own address
    exact ⟨_, fun s u => .of_eq rfl, fun base kb nb => My.law_fn T kb nb⟩     -- if «.of_eq rfl» comes too early: refine' ⟨_, ?b, fun base kb nb => My.law_fn T kb nb⟩; exact fun s u => .of_eq rfl
  case S => exact fun w H a ns hl hO hS => ..
  case C => exact ..
(the tactic k_is has no namespace: write k_is) -/

/-! SHORT WORDS over the layer: a def of the text, its body, what a loop and a test want. -/
namespace L2
open PySem PySem.Spec PyProof.Rows

/-! ### the text by places -/
/-- the j-th statement of a class's body -/
def inClass (s : Stmt) (j : Nat) : Stmt := match s with
  | .ClassDef _ _ _ body _ _ _ _ _ _ _ => body.getD j (.Pass ⟨0, 0, 0, 0⟩)
  | _ => .Pass ⟨0, 0, 0, 0⟩
def defArgs (s : Stmt) : Arguments := match s with
  | .FunctionDef _ a _ _ _ _ _ _ _ _ => a
  | _ => { posonlyargs := [], args := [], vararg := none, kwonlyargs := [], kw_defaults := [], kwarg := none, defaults := [] }
def defBody (s : Stmt) : List Stmt := match s with
  | .FunctionDef _ _ b _ _ _ _ _ _ _ => b
  | _ => []
def defScope (s : Stmt) : Scope := match s with
  | .FunctionDef _ _ _ _ _ _ sc _ _ _ => sc
  | _ => { kind := .function, names := [], isGenerator := false, isCoroutine := false }

/-! ### no exception leaves a def -/
abbrev CX0 : CXT := fun _ _ _ _ _ _ => False
abbrev E0 : XK := fun _ _ _ => False
theorem pass0 {X : Cx} : Passes CX0 X E0 := fun _ _ _ _ _ _ _ h => h.elim

/-! ### a def (or method) of the text as it stands behind the top -/
structure Fun (K : PySem.W.Frag) (x qual : Str) (st : Stmt) (f : Addr) (fd : FuncData) : Prop where
  ex : ∃ (oc : Value) (od : Option Addr) (kV doc pm : Value) (an : Option Addr) (cdv ct : Value) (osl : Array (Option Value)),
    fd = PySem.W.fnOf x qual (defArgs st) (defBody st) (defScope st) .none kV doc pm an cdv ct ∧ K.lookup f = some ⟨oc, od, .func fd, osl⟩ ∧ PySem.W.codeIn K cdv qual = true
  kp : PySem.W.keepIn K (.ref f) = true
section
variable {P : Program} {w : World} {K : PySem.W.Frag} {mg : Str → Option Value} {base : Heap}
/-- THE RULE for a def: its body as a term of rules, and the reading of that term -/
theorem Fun.ok {x qual : Str} {st : Stmt} {f : Addr} {fd : FuncData} {N ps : List Str} {k : Nat} {sp : Sp} (F : Fun K x qual st f fd) (S : FnScope N ps (defScope st)) (len : ∀ vs H Q E, sp vs H Q E → vs.length = ps.length)
    (hbody : ∀ (cdv : Value) (A : Around) (outer : List Env) (s : Shared) (H : Hp) (vs : List V) (Q : VK) (E : XK), Room k (A.deeper (envOfC qual (defScope st) s.heap.objs.size f cdv)) → sp vs H Q E →
      ∃ t, PSs (cxOf CX0 P w K mg base N qual (defScope st) f cdv A outer s H E).nox (defBody st) t ∧ t { nx := fun _ H' => Q .non H', rt := Q } (start N vs) H) : FnOk P w K mg base CX0 (k + 1) f fd ps sp := by
  obtain ⟨oc, od, kV, doc, pm, an, cdv, ct, osl, rfl, lk, hcd⟩ := F.ex
  refine fn_of lk hcd S len fun A outer s H vs Q E hr hsp => ?_
  obtain ⟨t, h, q⟩ := hbody cdv A outer s H vs Q E hr hsp
  exact ⟨t, h.nox, q⟩
/-- how its arguments bind (no defaults): h is «fun _ _ _ _ _ _ us hl => match us, hl with | [_, _], _ => rfl», one _ a parameter -/
theorem Fun.binds {x qual : Str} {st : Stmt} {f : Addr} {fd : FuncData} {ps : List Str} (F : Fun K x qual st f fd)
    (h : ∀ (kV doc pm : Value) (an : Option Addr) (cdv ct : Value) (us : List Value), us.length = ps.length → bindArgs (PySem.W.fnOf x qual (defArgs st) (defBody st) (defScope st) .none kV doc pm an cdv ct) ⟨us, []⟩ = pure (ps.zip us)) : Binds K fd ps [] := by
  obtain ⟨oc, od, kV, doc, pm, an, cdv, ct, osl, rfl, lk, hcd⟩ := F.ex
  exact .all (h kV doc pm an cdv ct)
theorem fun_mk {x qual : Str} {st : Stmt} {f : Addr} {oc : Value} {od an : Option Addr} {osl : Array (Option Value)} {kV doc pm cdv ct : Value} (l : K.lookup f = some ⟨oc, od, .func (PySem.W.fnOf x qual (defArgs st) (defBody st) (defScope st) .none kV doc pm an cdv ct), osl⟩)
    (c : PySem.W.codeIn K cdv qual = true) (k : PySem.W.keepIn K (.ref f) = true) : Fun K x qual st f (PySem.W.fnOf x qual (defArgs st) (defBody st) (defScope st) .none kV doc pm an cdv ct) := ⟨⟨oc, od, kV, doc, pm, an, cdv, ct, osl, rfl, l, c⟩, k⟩
end
theorem hu_of {A : Around} {k : Nat} (hr : Room k A) : A.units + 1 < cLine := Nat.lt_of_le_of_lt (Nat.add_le_add_left (by decide : 1 ≤ 64) _) hr.units
theorem small1000 {n : Nat} (h : n ≤ 1000) : n < sizeLine := Nat.lt_of_le_of_lt h (by decide)

/-! ### expressions in short: the name that stands in the i-th slot -/
section
variable {X : Cx}
theorem pv (i : Nat) {x : Str} {pos : Pos} (hN : X.N[i]? = some x := by rfl) (hv : Vis X.env.scope x := by first | exact Or.inl rfl | exact Or.inr (Or.inl rfl) | exact Or.inr (Or.inr rfl)) (hd : (x == ("__debug__" : Str)) = false := by decide)
    (hcd : (x == ("__classdict__" : Str)) = false := by decide) : PE X (.Name x pos) (tVar i) := pe_var hN hv hd hcd
end

/-! ### tests -/
theorem iteF {A B : Prop} (h : B) : if false = true then A else B := by
  rw [if_neg Bool.false_ne_true]
  exact h
theorem iteT {A B : Prop} (h : A) : if true = true then A else B := by
  rw [if_pos rfl]
  exact h
theorem ite2 {c A B : Prop} [Decidable c] (h1 : c → A) (h2 : ¬ c → B) : if c then A else B := by
  by_cases h : c
  · rw [if_pos h]
    exact h1 h
  · rw [if_neg h]
    exact h2 h

/-! ### heaps -/
/-- all that was tracked is as it was -/
def Same (H H' : Hp) : Prop := ∀ b o, H b = some o → H' b = some o
theorem Same.refl (H : Hp) : Same H H := fun _ _ h => h
theorem Same.trans {H H1 H2 : Hp} (a : Same H H1) (b : Same H1 H2) : Same H H2 := fun c o h => b c o (a c o h)
theorem Same.free {H H' : Hp} (e : Same H H') {l : Addr} (h : H' l = Option.none) : H l = Option.none := by
  cases q : H l with
  | none => rfl
  | some o =>
    rw [e l o q] at h
    cases h
theorem Same.seq {K : PySem.W.Frag} {H H' : Hp} {a : Addr} {xs : List V} (e : Same H H') (h : SqL K H a xs) : SqL K H' a xs := by
  rcases h with (h | ⟨o, h⟩) | h
  · exact .inl (.inl (e _ _ h))
  · exact .inl (.inr ⟨o, e _ _ h⟩)
  · exact .inr h

end L2

namespace L2
open PySem PySem.Spec PyProof.Rows
section
variable {X : Cx}
/-- len of a dict -/
theorem call_lenD : CallR X (.builtin "len") (fun xs H Q => ∃ a kvs, xs = [V.ref a] ∧ H a = some (.dK kvs) ∧ Q (.int kvs.length) H) := by
  intro pins s σ H xs us Q I r h
  obtain ⟨a, kvs, rfl, ha, q⟩ := h
  obtain ⟨u, rfl, ru⟩ := vals1 r
  cases ru
  exact d_len I (.inl ha) fun t s' I' => ⟨.int kvs.length, H, I', ⟨t, rfl⟩, q⟩
end
end L2
namespace L2
open PySem PySem.Spec PyProof.Rows
/-! ### a dict's pairs: keys that differ -/
section
variable {κ : Type} [DecidableEq κ]
end
end L2


/-! MORE OF THE HAND LAYER, our own: the signs of a text walked, a comprehension's block, slices of texts, all, isinstance. -/
namespace L2
open PySem PySem.Spec PyProof.Rows

/-! ### a text, sign by sign -/
def Its (z : Str) : It := ⟨fun i _ => i < z.cps.size, fun i H x H' => H' = H ∧ ∃ c, z.cps[i]? = some c ∧ x = .str ⟨#[c]⟩, fun i _ => z.cps.size ≤ i⟩
section
variable {X : Cx} {tg : Expr}
def iStr (tl : TE) : TI := fun σ H R => tl σ H fun x H1 => ∃ z, x = .str z ∧ R (Its z) H1
end

/-! ### a comprehension: its block has a frame of its own, what it reads of the def lies in cells -/
/-- the context of the block -/
abbrev blk (X : Cx) (N' : List Str) (sc : Scope) (cl : List (Str × Addr)) (s₀ : Shared) (H₀ : Hp) (C : Addr) (ex : List Addr) : Cx :=
  { X with N := N', s₀ := s₀, H₀ := H₀, env := compEnvC sc cl C X.env, outer := X.stack, ex := ex, fn := fun _ => false, xe := fun _ _ => False }
/-- own: the block's targets; caps: the names of the def that it reads; cl: their cells -/
structure BlkSc (X : Cx) (caps : List Str) (sc : Scope) (cl : List (Str × Addr)) : Prop where
  kind : sc.kind = .function
  nocell : ∀ y ∈ sc.names, y.2 ≠ .cell
  names : ∀ y ∈ sc.names, y.2 = .local → sc.names.lookup y.1 = some .local
  clos : closureFor sc X.env = pure cl
  has : (sc.names.all fun y => y.2 != .free || (cl.lookup y.1).isSome) = true
  sub : ∀ y ∈ cl, X.env.cells.lookup y.1 = some y.2
  caps : ∀ x ∈ caps, (X.env.kindOf x = some .cell ∨ X.env.kindOf x = some .free) ∧ (cl.lookup x).isSome = true ∧ ((relabel sc X.env).names.lookup x = some .cell ∨ (relabel sc X.env).names.lookup x = some .free)
theorem relabel_inv {env : Env} : ∀ {names : List (Str × NameKind)} {x : Str} {k : NameKind}, (names.map fun (n, k) => if (k == NameKind.free && env.scope.kind == .function && env.kindOf n == some .cell) then (n, NameKind.cell) else (n, k)).lookup x = some k →
    ∃ k', (x, k') ∈ names ∧ (k' = k ∨ k' = .free)
  | [], _, _, h => by simp at h
  | (n, k0) :: r, x, k, h => by
    have h' : List.lookup x ((if (k0 == NameKind.free && env.scope.kind == .function && env.kindOf n == some .cell) = true then (n, NameKind.cell) else (n, k0)) :: (r.map fun (n, k) => if (k == NameKind.free && env.scope.kind == .function && env.kindOf n == some .cell) then (n, NameKind.cell) else (n, k))) = some k := h
    by_cases hx : x = n
    · subst hx
      refine ⟨k0, List.mem_cons_self, ?_⟩
      by_cases hc : (k0 == NameKind.free && env.scope.kind == .function && env.kindOf x == some .cell) = true
      · have hf : (k0 == NameKind.free) = true := by
          rw [Bool.and_eq_true, Bool.and_eq_true] at hc
          exact hc.1.1
        exact .inr (by cases k0 <;> first | rfl | exact absurd hf (by decide))
      · rw [if_neg hc, List.lookup_cons_self] at h'
        exact .inl (Option.some.inj h')
    · have hb : (x == n) = false := beq_eq_false_iff_ne.mpr hx
      have h2 : (r.map fun (n, k) => if (k == NameKind.free && env.scope.kind == .function && env.kindOf n == some .cell) then (n, NameKind.cell) else (n, k)).lookup x = some k := by
        split at h' <;> simpa [List.lookup_cons, hb] using h'
      obtain ⟨k', hm, hk⟩ := relabel_inv h2
      exact ⟨k', List.mem_cons_of_mem _ hm, hk⟩
theorem BlkSc.hasc {X : Cx} {caps : List Str} {sc : Scope} {cl : List (Str × Addr)} (S : BlkSc X caps sc cl) {x : Str} (h : (relabel sc X.env).names.lookup x = some .cell ∨ (relabel sc X.env).names.lookup x = some .free) : ∃ c, cl.lookup x = some c := by
  have key : (x, NameKind.free) ∈ sc.names := by
    rcases h with h | h
    · obtain ⟨k', hm, hk⟩ := relabel_inv h
      rcases hk with rfl | rfl
      · exact absurd rfl (S.nocell _ hm)
      · exact hm
    · obtain ⟨k', hm, hk⟩ := relabel_inv h
      rcases hk with rfl | rfl <;> exact hm
  have q := List.all_eq_true.mp S.has _ key
  have q2 : (cl.lookup x).isSome = true := by simpa using q
  exact Option.isSome_iff_exists.mp q2
theorem BlkSc.subc {X : Cx} {caps : List Str} {sc : Scope} {cl : List (Str × Addr)} (S : BlkSc X caps sc cl) {x : Str} {c : Addr} (h : cl.lookup x = some c) : X.env.cells.lookup x = some c := S.sub _ (PySem.mem_of_lookup h)

/-- the names' values at a turn's begin: own targets unknown, then what is captured -/
def blkSt (n : Nat) (κ : List Nat) (σ : St) : St := List.replicate n none ++ κ.map fun k => (σ[k]?).join
/-- the turns of a comprehension: W is the invariant by the turn, a measure, the items so far -/
def CompRun (n : Nat) (κ : List Nat) (g : TG) (tc : TT) (te : TE) (σ : St) (J : It) (H1 : Hp) (Q : VK) : Prop :=
  ∃ W : Nat → Nat → List V → Hp → Prop, (∃ m, W 0 m [] H1) ∧ ∀ i m ys H2, W i m ys H2 →
    (J.stop i H2 ∧ ∀ D, H2 D = none → Q (.ref D) (upd H2 D (.lst ys))) ∨
    (J.go i H2 ∧ ys.length < sizeLine ∧ ∀ x H3, J.yld i H2 x H3 → g x (blkSt n κ σ) H3 fun σ4 H4 => σ4.drop n = (blkSt n κ σ).drop n ∧
      tc σ4 H4 fun b H5 => if b = true then te σ4 H5 fun v H6 => ∃ m', m' < m ∧ W (i + 1) m' (ys ++ [v]) H6 else ∃ m', m' < m ∧ W (i + 1) m' ys H5)
def tComp (n : Nat) (κ : List Nat) (wi : TI) (g : TG) (tc : TT) (te : TE) : TE := fun σ H Q => wi σ H fun J H1 => CompRun n κ g tc te σ J H1 Q
def tYes : TT := fun _ H Q => Q true H
theorem tYes_go {σ : St} {H : Hp} {A B : Hp → Prop} (h : A H) : tYes σ H fun b H5 => if b = true then A H5 else B H5 := by
  show (if true = true then A H else B H)
  rw [if_pos rfl]
  exact h

section
variable {X : Cx} {pins : List (Addr × Obj)} {σ : St} {H : Hp} {s : Shared}
/-- into the block -/
theorem Inv.block {caps : List Str} {own : List Str} {κ : List Nat} {sc : Scope} {cl : List (Str × Addr)} {fp : List Addr} {h₁ : Heap} {tk : Nat} (S : BlkSc X caps sc cl) (hκ : κ.map (fun k => X.N[k]?) = caps.map some) (I : Inv X pins σ H s)
    (f2 : ∀ b ∈ fp, FpOk X pins H b) (hfp : ∀ b ∈ fp, b < s.heap.objs.size)
    {hp : Heap} {ol : Obj} (ehp : hp = s.heap.push ol) (hns : h₁.Ns hp.objs.size fun _ => none) (old : ∀ b o, hp.get? b = some o → h₁.get? b = some o) :
    Inv (blk X (own ++ caps) sc cl { s with heap := hp } H hp.objs.size (s.heap.objs.size :: fp)) pins (blkSt own.length κ σ) H { s with heap := h₁, toks := tk } := by
  have hsz : hp.objs.size = s.heap.objs.size + 1 := by rw [ehp, Heap.size_push]
  have up : ∀ b o, s.heap.get? b = some o → hp.get? b = some o := fun b o e => by rw [ehp]; exact Heap.get?_push_of_some _ e
  have I3 : Inv X pins σ H { s with heap := hp } := I.kept (t' := s.toks) up
  have stk : ∀ b, b ≠ X.env.locals → b ∉ X.fs → b ∉ frs X.stack := fun b h1 h2 z => (List.mem_cons.mp (I.stkSub b z)).elim h1 h2
  have dD : s.heap.objs.size ≠ X.env.locals := Nat.ne_of_gt I.lt
  have cellLt : ∀ x c, X.env.cells.lookup x = some c → c < s.heap.objs.size := fun x c e => by
    obtain ⟨v, q⟩ := I.cell x c e
    exact q.lt
  have ltC : ∀ b, b < s.heap.objs.size → b ≠ hp.objs.size := fun b hb => by rw [hsz]; exact Nat.ne_of_lt (Nat.lt_succ_of_lt hb)
  have cellK : ∀ c v, s.heap.IsCell c v → h₁.IsCell c v := fun c v ⟨o, ho, hd⟩ => ⟨o, old _ _ (up _ _ ho), hd⟩
  refine ⟨⟨I.ok.mod, ?_, I.ok.glob, I.ok.blt, Nat.le_refl _, fun x y c h1 h2 => I.ok.inj x y c (S.subc h1) (S.subc h2), fun x h => S.hasc h, fun _ _ z => absurd z Bool.false_ne_true, I.ok.hd, I.ok.frames, .inl rfl, fun b hb => ?_, fun b o e => ⟨up _ _ (I.bs b o e).1, (I.bs b o e).2⟩,
      Nat.le_trans (Nat.le_trans I.ok.bsz I.sz) (by show s.heap.objs.size ≤ hp.objs.size; rw [hsz]; exact Nat.le_succ _), fun b o e hb => ?_, fun b hb => ?_, I3.stack, I.stkFree⟩,
    rfl, I.bare, Un.kept old, ⟨_, hns, fun i x v e1 e2 e3 => ?_⟩, fun x c h => ?_, I.hok.fresh (by rw [hsz]; exact Nat.le_succ _), fun x c h => I.freeC x c (S.subc h), fun p hp' => ?_, I.hok.kept fun b u e => old _ _ (up _ _ e), ?_⟩
  · show (relabel sc X.env).kind = .function
    exact S.kind
  · show b ≠ hp.objs.size ∧ ∀ x c, cl.lookup x = some c → c ≠ b
    rcases List.mem_cons.mp hb with rfl | hb
    · exact ⟨by rw [hsz]; exact Nat.ne_of_lt (Nat.lt_succ_self _), fun x c h => Nat.ne_of_lt (cellLt x c (S.subc h))⟩
    · exact ⟨ltC b (hfp b hb), fun x c h => (f2 b hb).2.2.2.2.1 x c (S.subc h)⟩
  · have hlt : b < X.s₀.heap.objs.size := Nat.lt_of_lt_of_le (Heap.lt_size e) I.ok.bsz
    rcases List.mem_cons.mp hb with rfl | hb
    · exact absurd (Nat.lt_of_lt_of_le hlt I.sz) (Nat.lt_irrefl _)
    · rcases (f2 b hb).2.2.2.1 with z | z
      · exact I.ok.noex b o e z
      · exact absurd (Nat.lt_of_lt_of_le hlt z) (Nat.lt_irrefl _)
  · rcases List.mem_cons.mp hb with rfl | hb
    · exact stk _ dD (I.nofs (Nat.le_refl _))
    · exact stk _ (f2 b hb).2.1 (f2 b hb).2.2.1
  · have e1' : (own ++ caps)[i]? = some x := e1
    have hlen : (List.replicate own.length (none : Option V)).length = own.length := List.length_replicate
    have hge : own.length ≤ i := by
      refine Nat.le_of_not_lt fun hlt => ?_
      unfold blkSt at e2
      rw [List.getElem?_append_left (by rw [hlen]; exact hlt), List.getElem?_replicate, if_pos hlt] at e2
      cases e2
    unfold blkSt at e2
    rw [List.getElem?_append_right (by rw [hlen]; exact hge), hlen, List.getElem?_map] at e2
    rw [List.getElem?_append_right hge] at e1'
    cases ek : κ[i - own.length]? with
    | none => rw [ek] at e2; cases e2
    | some k =>
      rw [ek] at e2
      have e2' : (σ[k]?).join = some v := Option.some.inj e2
      have e4 : σ[k]? = some (some v) := by
        cases eσ : σ[k]? with
        | none => rw [eσ] at e2'; cases e2'
        | some w => rw [eσ] at e2'; exact congrArg some e2'
      have e5 : X.N[k]? = some x := by
        have z := congrArg (fun l => l[i - own.length]?) hκ
        simp only [List.getElem?_map, ek, e1', Option.map_some] at z
        exact Option.some.inj z
      obtain ⟨c1, c2, c3⟩ := S.caps x (List.mem_of_getElem? e1')
      obtain ⟨m, hn, hl⟩ := I.loc
      obtain ⟨u, r, l⟩ := hl k x v e5 e4 (c1.elim (fun z => .inr (.inl z)) fun z => .inr (.inr z))
      refine ⟨u, r, ?_⟩
      rcases l with ⟨hk, _⟩ | ⟨_, c, hc, hcell⟩
      · rcases c1 with z | z <;> (rw [hk] at z; cases z)
      · obtain ⟨c', hc'⟩ := Option.isSome_iff_exists.mp c2
        have ecc : c' = c := Option.some.inj ((S.subc hc').symm.trans hc)
        subst ecc
        exact .inr ⟨c3, c', hc', cellK _ _ hcell⟩
  · obtain ⟨v, q⟩ := I.cell x c (S.subc h)
    exact ⟨v, cellK c v q⟩
  · obtain ⟨e, n, ne, nf, d⟩ := I.pin p hp'
    exact ⟨old _ _ (up _ _ e), n, ltC _ (Heap.lt_size e), stk _ ne nf, d⟩
  · show (blkSt own.length κ σ).length = (own ++ caps).length
    have z := congrArg List.length hκ
    rw [List.length_map, List.length_map] at z
    unfold blkSt
    rw [List.length_append, List.length_append, List.length_replicate, List.length_map, z]
/-- out of the block again: the new list is tracked -/
theorem Inv.unblock {own caps : List Str} {sc : Scope} {cl : List (Str × Addr)} {fp : List Addr} {H' : Hp} {s4 : Shared} {σ' : St} {pins' : List (Addr × Obj)} {hp h' : Heap} {ol : Obj} {ys : List V} {its : List Value} {cap : Nat} (I : Inv X pins σ H s)
    (f2 : ∀ b ∈ fp, FpOk X pins H b) (ehp : hp = s.heap.push ol)
    (J : Inv (blk X (own ++ caps) sc cl { s with heap := hp } H hp.objs.size (s.heap.objs.size :: fp)) pins' σ' H' s4)
    (hD : s4.heap.get? s.heap.objs.size = some { cls := .type "list", data := .seq its.toArray cap }) (nD : H' s.heap.objs.size = none) (r : Vals ys its) (hz : ys.length ≤ sizeLine) (sb : Heap.SameBut hp.objs.size s4.heap h') :
    Inv X pins σ (upd H' s.heap.objs.size (.lst ys)) { s4 with heap := h' } := by
  have hsz : hp.objs.size = s.heap.objs.size + 1 := by rw [ehp, Heap.size_push]
  have up : ∀ b o, s.heap.get? b = some o → hp.get? b = some o := fun b o e => by rw [ehp]; exact Heap.get?_push_of_some _ e
  have nDs : H s.heap.objs.size = none := I.hok.fresh (Nat.le_refl _)
  have neD : ∀ b o, s.heap.get? b = some o → b ≠ s.heap.objs.size := fun b o e => Nat.ne_of_lt (Heap.lt_size e)
  have neC : ∀ b o, s.heap.get? b = some o → b ≠ hp.objs.size := fun b o e => by rw [hsz]; exact Nat.ne_of_lt (Nat.lt_succ_of_lt (Heap.lt_size e))
  have nex : ∀ b o, s.heap.get? b = some o → b ∉ fp → b ∉ s.heap.objs.size :: fp := fun b o e hb z => (List.mem_cons.mp z).elim (neD b o e) hb
  have u := J.base
  have hDC : s.heap.objs.size ≠ hp.objs.size := by rw [hsz]; exact Nat.ne_of_lt (Nat.lt_succ_self _)
  have eD : h'.get? s.heap.objs.size = some { cls := .type "list", data := .seq its.toArray cap } := (sb.2 _ hDC).trans hD
  refine I.call' (ch := fp) J.os ⟨fun b o e n hb hx => ?_, fun b o e n hb hx => ?_, fun b o e n hx => ?_, fun b o e hx => ?_, fun b xs e => ?_, fun b o x e => ?_, fun b ps e => ?_⟩ (fun b o e => ?_) J.bare fun b hb => ?_
  · exact (sb.2 b (neC b o e)).trans (u.keep b o (up _ _ e) n hb (nex b o e hx))
  · obtain ⟨sl, q⟩ := u.slot b o (up _ _ e) n hb (nex b o e hx)
    exact ⟨sl, (sb.2 b (neC b o e)).trans q⟩
  · rw [upd_ne (neD b o e)]
    exact u.free b o (up _ _ e) n (nex b o e hx)
  · obtain ⟨o', q⟩ := u.there b o (up _ _ e) (nex b o e hx)
    exact ⟨o', (sb.2 b (neC b o e)).trans q⟩
  · rw [upd_ne (ne_of_none e nDs)]
    exact u.tups b xs e
  · rw [upd_ne (ne_of_none e nDs)]
    exact u.frzs b o x e
  · rw [upd_ne (ne_of_none e nDs)]
    exact u.tbls b ps e
  · by_cases hb : b = s.heap.objs.size
    · subst hb
      rw [upd_same] at e
      cases e
      exact ⟨hz, its, cap, r, eD⟩
    · rw [upd_ne hb] at e
      have nC : ∀ c w, H' c = some w → c ≠ hp.objs.size := fun c w q => ne_of_none q J.free
      refine (J.hok b o e).stay (fun c v hc q => (sb.2 c ?_).trans q) (fun c q => by rw [upd_ne (ne_of_none q nD)]; exact q) fun c xs q => by rw [upd_ne (ne_of_none q nD)]; exact q
      rcases hc with rfl | hc
      · exact nC c o e
      · exact nC c _ hc
  · obtain ⟨_, f1, _, f3, f4, f5⟩ := f2 b hb
    exact ⟨f3, f1, f4, f5⟩
end

section
variable {X : Cx}
/-- THE RULE of a comprehension with one clause -/
theorem pe_compG {tg elt iter : Expr} {ifs : List Expr} {own caps : List Str} {κ : List Nat} {sc : Scope} {cl : List (Str × Addr)} {pos : Pos} {wi : TI} {g : TG} {tc : TT} {te : TE} (hcalm : X.calm = true) (S : BlkSc X caps sc cl) (hκ : κ.map (fun k => X.N[k]?) = caps.map some)
    (hi : PI X tg iter wi) (hg : ∀ s₀ H₀ C ex, PG (blk X (own ++ caps) sc cl s₀ H₀ C ex) tg g)
    (hc : ∀ s₀ H₀ C ex (pins : List (Addr × Obj)) (s : Shared) (σ : St) (H : Hp) (Q : Bool → Hp → Prop), Inv (blk X (own ++ caps) sc cl s₀ H₀ C ex) pins σ H s → tc σ H Q →
      wpAny (model X.prog X.w) X.A (forIn ifs true fun c r => if r = true then do let ok ← isTrue c (compEnvC sc cl C X.env) (eval c (compEnvC sc cl C X.env)); pure (ForInStep.yield ok) else pure (ForInStep.yield r)) (TP (blk X (own ++ caps) sc cl s₀ H₀ C ex) pins σ Q) (fun _ _ => False) s)
    (he : ∀ s₀ H₀ C ex, PE (blk X (own ++ caps) sc cl s₀ H₀ C ex) elt te)
    (hs : ∀ x, foldedSetIterable iter X.env x = pure x := by intro _; rfl) : PE X (.ListComp elt [⟨tg, iter, ifs, 0⟩] sc pos) (tComp own.length κ wi g tc te) := by
  intro pins s σ H Q I h
  rw [eval_ListComp]
  refine wpAny_comprehension_free (use := none) rfl hs S.clos S.kind S.names (thn (hi pins s σ H _ I h) fun v s1 h1 => thn h1 fun itv s2 h2 => ?_)
  obtain ⟨it, fp, tn, J, H2, e, I2, T, st2, f2, W, ⟨m0, w0⟩, turn⟩ := h2
  subst e
  have hfp : ∀ b ∈ fp, b < s2.heap.objs.size := fun b hb => by
    obtain ⟨o, e, _⟩ := T.obj _ _ st2 b hb
    exact Heap.lt_size e
  refine wpAny_newObj_type (wpAny_newFunctionEnv S.nocell (fun y hy => nomatch hy) (fun h₁ hns hsb => ?_) S.kind)
  generalize ehp : s2.heap.push { cls := .type "list", dict := none, data := .seq ([] : List Value).toArray } = hp at hns hsb ⊢
  have hsz : hp.objs.size = s2.heap.objs.size + 1 := by rw [← ehp, Heap.size_push]
  have hDC : s2.heap.objs.size ≠ hp.objs.size := by rw [hsz]; exact Nat.ne_of_lt (Nat.lt_succ_self _)
  have old : ∀ b o, hp.get? b = some o → h₁.get? b = some o := fun b o e => (hsb.2 b (Nat.ne_of_lt (Heap.lt_size e))).trans (Heap.get?_push_of_some _ e)
  have eD : h₁.get? s2.heap.objs.size = some { cls := .type "list", data := .seq ([] : List Value).toArray } := old _ _ (by rw [← ehp]; exact Heap.get?_push_size _ rfl)
  have I0 := Inv.block (own := own) (h₁ := h₁) (tk := s2.toks + ([] : List (Str × Value)).length) S hκ I2 f2 hfp ehp.symm hns old
  have stkD : s2.heap.objs.size ∉ frs X.stack := fun z => (List.mem_cons.mp (I2.stkSub _ z)).elim (Nat.ne_of_gt I2.lt) (I2.nofs (Nat.le_refl _))
  have cellD : ∀ x c, cl.lookup x = some c → c ≠ s2.heap.objs.size := fun x c q => by
    obtain ⟨v, z⟩ := I2.cell x c (S.subc q)
    exact Nat.ne_of_lt z.lt
  have pinD : ∀ p ∈ X.pn ++ pins, p.1 ≠ s2.heap.objs.size := fun p hp => Nat.ne_of_lt (Heap.lt_size (I2.pin p hp).1)
  have stkF : ∀ b ∈ fp, b ∉ frs X.stack := fun b hb z => (List.mem_cons.mp (I2.stkSub _ z)).elim (f2 b hb).2.1 (f2 b hb).2.2.1
  -- the loop
  have loop : codeAny (model X.prog X.w) X.A (.compLoop (.ListComp elt [⟨tg, iter, ifs, 0⟩] sc pos) 0 (.ref it) (.ref s2.heap.objs.size) (compEnvC sc cl hp.objs.size X.env))
      (compPost (model X.prog X.w) X.A X.xe none (EP X pins σ Q) (.ref s2.heap.objs.size) hp.objs.size) { s2 with heap := h₁, toks := s2.toks + ([] : List (Str × Value)).length } := by
    refine codeAny_loop rfl (fun n s' => ∃ (i : Nat) (ys : List V) (its : List Value) (cap : Nat) (H' : Hp), Inv (blk X (own ++ caps) sc cl { s2 with heap := hp } H2 hp.objs.size (s2.heap.objs.size :: fp)) pins (blkSt own.length κ σ) H' s' ∧ tn i s'.heap ∧ (∀ b ∈ fp, H' b = none) ∧
      s'.heap.get? s2.heap.objs.size = some { cls := .type "list", data := .seq its.toArray cap } ∧ H' s2.heap.objs.size = none ∧ Vals ys its ∧ ys.length ≤ sizeLine ∧ W i n ys H') (fun n s3 hI => ?_) m0
      ⟨0, [], [], 0, H2, I0, T.keep _ _ _ st2 fun b hb o e => old _ _ (by rw [← ehp]; exact Heap.get?_push_of_some _ e), fun b hb => (f2 b hb).1, eD, I2.hok.fresh (Nat.le_refl _), .nil, Nat.zero_le _, w0⟩
    obtain ⟨i, ys, its, cap, H3, I3, st3, fr3, eD3, nD3, rv, hz, w3⟩ := hI
    show wpAny _ X.A ((compTurn (.ListComp elt [⟨tg, iter, ifs, 0⟩] sc pos) 0 (.ref it) (.ref s2.heap.objs.size) (compEnvC sc cl hp.objs.size X.env)).onRaise fun x => do noteFrame x (compEnvC sc cl hp.objs.size X.env); theTreesLotGoes x) _ _ s3
    refine wpAny_noted ?_
    rw [compTurn_list]
    -- the list that grows is pinned
    have I3' : Inv (blk X (own ++ caps) sc cl { s2 with heap := hp } H2 hp.objs.size (s2.heap.objs.size :: fp)) (pins ++ [(s2.heap.objs.size, { cls := .type "list", data := .seq its.toArray cap })]) (blkSt own.length κ σ) H3 s3 := by
      refine I3.pins_of fun p hp => (List.mem_append.mp hp).elim (fun z => I3.pin p (List.mem_append_right _ z)) fun z => ?_
      obtain rfl := List.mem_singleton.mp z
      exact ⟨eD3, nD3, hDC, stkD, fun v q => by cases q⟩
    have fpk : ∀ {H' : Hp}, (∀ b ∈ fp, H' b = none) → ∀ b ∈ fp, FpOk (blk X (own ++ caps) sc cl { s2 with heap := hp } H2 hp.objs.size (s2.heap.objs.size :: fp)) (pins ++ [(s2.heap.objs.size, { cls := .type "list", data := .seq its.toArray cap })]) H' b := fun {H'} hn b hb =>
      ⟨hn b hb, by show b ≠ hp.objs.size; rw [hsz]; exact Nat.ne_of_lt (Nat.lt_succ_of_lt (hfp b hb)), stkF b hb, .inl (List.mem_cons_of_mem _ hb), fun x c q => (f2 b hb).2.2.2.2.1 x c (S.subc q), fun p hp => by
        rw [← List.append_assoc] at hp
        rcases List.mem_append.mp hp with z | z
        · exact (f2 b hb).2.2.2.2.2 p z
        · obtain rfl := List.mem_singleton.mp z
          exact Nat.ne_of_gt (hfp b hb)⟩
    rcases turn i n ys H3 w3 with ⟨stop, fin⟩ | ⟨go, hlt, step⟩
    · refine wpAny_bind (wpAny_standAt (wpAny_bind (thn (T.done (blk X (own ++ caps) sc cl { s2 with heap := hp } H2 hp.objs.size (s2.heap.objs.size :: fp)) rfl rfl rfl hcalm i _ s3 _ H3 _ I3' (fpk fr3) st3 stop) fun r s4 ⟨hr, I4⟩ => ?_)))
      subst hr
      refine wpAny_pure ?_
      obtain ⟨m, hm, _⟩ := I4.loc
      refine ⟨m, hm, fun h' sb => ?_⟩
      have eD4 := (I4.pin (s2.heap.objs.size, { cls := .type "list", data := .seq its.toArray cap }) (List.mem_append_right _ (List.mem_append_right _ (List.mem_singleton.mpr rfl)))).1
      exact ⟨.ref s2.heap.objs.size, _, Inv.unblock I2 f2 ehp.symm I4 eD4 nD3 rv hz sb, rfl, fin _ nD3⟩
    · refine wpAny_bind (wpAny_standAt (wpAny_bind (thn (T.item (blk X (own ++ caps) sc cl { s2 with heap := hp } H2 hp.objs.size (s2.heap.objs.size :: fp)) rfl rfl rfl hcalm i _ s3 _ H3 _ I3' (fpk fr3) st3 go) fun r s4 ⟨u, hr, h4⟩ => ?_)))
      subst hr
      refine wpAny_bind (thn h4 fun _ s5 ⟨x, H5, I5, r5, y5, st5, fr5⟩ => ?_)
      have I5' := I5.pinned (fpk fr5) (T.obj _ _ st5)
      refine wpAny_bind (wpAny_mono (hg _ _ _ _ _ s5 _ H5 x u _ I5' r5 (step x H5 y5)) (fun _ s6 ⟨σ6, H6, I6, eσ, q6⟩ => ?_) fun _ _ z => z.elim)
      refine wpAny_bind (wpAny_mono (hc _ _ _ _ _ s6 σ6 H6 _ I6 q6) (fun ok s7 ⟨H7, I7, q7⟩ => ?_) fun _ _ z => z.elim)
      -- back to the invariant: what was pinned is as it was
      have back : ∀ {s8 : Shared} {H8 : Hp}, Inv (blk X (own ++ caps) sc cl { s2 with heap := hp } H2 hp.objs.size (s2.heap.objs.size :: fp)) ((pins ++ [(s2.heap.objs.size, { cls := .type "list", data := .seq its.toArray cap })]) ++ pinsAt fp s5.heap) σ6 H8 s8 →
          Inv (blk X (own ++ caps) sc cl { s2 with heap := hp } H2 hp.objs.size (s2.heap.objs.size :: fp)) pins (blkSt own.length κ σ) H8 s8 ∧ tn (i + 1) s8.heap ∧ (∀ b ∈ fp, H8 b = none) ∧ s8.heap.get? s2.heap.objs.size = some { cls := .type "list", data := .seq its.toArray cap } ∧ H8 s2.heap.objs.size = none := by
        intro s8 H8 I8
        have pk : ∀ b ∈ fp, ∀ o, s5.heap.get? b = some o → s8.heap.get? b = some o ∧ H8 b = none := fun b hb o e => by
          have z := I8.pin (b, o) (List.mem_append_right _ (List.mem_append_right _ (mem_pinsAt hb e)))
          exact ⟨z.1, z.2.1⟩
        have zD := I8.pin (s2.heap.objs.size, { cls := .type "list", data := .seq its.toArray cap }) (List.mem_append_right _ (List.mem_append_left _ (List.mem_append_right _ (List.mem_singleton.mpr rfl))))
        refine ⟨(I8.pins_of fun p hp => I8.pin p (List.mem_append_right _ (List.mem_append_left _ (List.mem_append_left _ hp)))).weak ?_ fun j v e => ?_, T.keep _ _ _ st5 fun b hb o e => (pk b hb o e).1, fun b hb => ?_, zD.1, zD.2.1⟩
        · exact I3.len.trans I8.len.symm
        · have hge : own.length ≤ j := by
            refine Nat.le_of_not_lt fun q => ?_
            unfold blkSt at e
            rw [List.getElem?_append_left (by rw [List.length_replicate]; exact q), List.getElem?_replicate, if_pos q] at e
            cases e
          have z := congrArg (fun l => l[j - own.length]?) eσ
          simp only [List.getElem?_drop] at z
          rw [show own.length + (j - own.length) = j by omega] at z
          rw [z]
          exact e
        · obtain ⟨o, e, _⟩ := T.obj _ _ st5 b hb
          exact (pk b hb o e).2
      cases ok with
      | false =>
        obtain ⟨m', hm, w7⟩ := (if_neg Bool.false_ne_true) ▸ q7
        obtain ⟨I8, st8, fr8, e8, n8⟩ := back I7
        exact wpAny_pure ⟨rfl, m', hm, i + 1, ys, its, cap, H7, I8, st8, fr8, e8, n8, rv, hz, w7⟩
      | true =>
        have q7' := (if_pos rfl) ▸ q7
        refine wpAny_bind (wpAny_bind (wpAny_mono (he _ _ _ _ _ s7 σ6 H7 _ I7 q7') (fun y s8 ⟨v8, H8, I8, r8, m', hm, w8⟩ => ?_) fun _ _ z => z.elim))
        obtain ⟨I9, st9, fr9, e9, n9⟩ := back I8
        have hl := rv.length
        refine wpAny_bind (wpAny_list_append_plain (items := its.toArray) ⟨cap, e9⟩ (fun h' hl' sb => ?_) (by rw [List.size_toArray, ← hl]; exact hz))
        obtain ⟨cap', e'⟩ := hl'
        refine wpAny_pure (wpAny_pure ⟨rfl, m', hm, i + 1, ys ++ [v8], its ++ [y], cap', H8, ?_, ?_, fr9, ?_, n9, Vals.append rv (.cons r8 .nil), ?_, w8⟩)
        · exact I9.turned (t' := s8.toks) (fun b o hb e => (sb.2 b hb).trans e) n9 hDC (.inl List.mem_cons_self) cellD pinD
        · exact T.keep _ _ _ st9 fun b hb o e => (sb.2 b (Nat.ne_of_lt (hfp b hb))).trans e
        · rw [e']
          congr 3
          simp
        · rw [List.length_append]
          exact hlt
  exact codeAny_compStart_list loop (T.self _ 0 _ _ _ (T.keep _ _ _ st2 fun b hb o e => old _ _ (by rw [← ehp]; exact Heap.get?_push_of_some _ e)) loop)
theorem pe_comp {tg elt iter : Expr} {own caps : List Str} {κ : List Nat} {sc : Scope} {cl : List (Str × Addr)} {pos : Pos} {wi : TI} {g : TG} {te : TE} (hcalm : X.calm = true) (S : BlkSc X caps sc cl) (hκ : κ.map (fun k => X.N[k]?) = caps.map some)
    (hi : PI X tg iter wi) (hg : ∀ s₀ H₀ C ex, PG (blk X (own ++ caps) sc cl s₀ H₀ C ex) tg g) (he : ∀ s₀ H₀ C ex, PE (blk X (own ++ caps) sc cl s₀ H₀ C ex) elt te)
    (hs : ∀ x, foldedSetIterable iter X.env x = pure x := by intro _; rfl) : PE X (.ListComp elt [⟨tg, iter, [], 0⟩] sc pos) (tComp own.length κ wi g tYes te) :=
  pe_compG hcalm S hκ hi hg (fun s₀ H₀ C ex pins s σ H Q I h => wpAny_tests_nil ⟨H, I, h⟩) he hs
theorem pe_comp_if {tg elt iter c : Expr} {own caps : List Str} {κ : List Nat} {sc : Scope} {cl : List (Str × Addr)} {pos : Pos} {wi : TI} {g : TG} {tc : TT} {te : TE} (hcalm : X.calm = true) (S : BlkSc X caps sc cl) (hκ : κ.map (fun k => X.N[k]?) = caps.map some)
    (hi : PI X tg iter wi) (hg : ∀ s₀ H₀ C ex, PG (blk X (own ++ caps) sc cl s₀ H₀ C ex) tg g) (hc : ∀ s₀ H₀ C ex, PT (blk X (own ++ caps) sc cl s₀ H₀ C ex) c tc) (he : ∀ s₀ H₀ C ex, PE (blk X (own ++ caps) sc cl s₀ H₀ C ex) elt te)
    (hs : ∀ x, foldedSetIterable iter X.env x = pure x := by intro _; rfl) : PE X (.ListComp elt [⟨tg, iter, [c], 0⟩] sc pos) (tComp own.length κ wi g tc te) :=
  pe_compG hcalm S hκ hi hg (fun s₀ H₀ C ex pins s σ H Q I h => wpAny_tests_one (hc s₀ H₀ C ex pins s σ H Q I h)) he hs
end
end L2

namespace L2
open PySem PySem.Spec PyProof.Rows
section
variable {X : Cx}
/-! ### z[lo:hi] of a text -/
def rSlS : V → Option Int → Option Int → Hp → VK → Prop := fun x lo hi H Q => ∃ z, x = .str z ∧ z.length ≤ sizeLine ∧ Q (.str (Txt.slice z lo hi)) H
theorem sl_str : SlR X rSlS := by
  intro pins s σ H x v vl vu lo hi sl Q I rx hs pl pu h
  obtain ⟨z, rfl, hz, q⟩ := h
  obtain ⟨t, rfl⟩ := rx
  have fin : ∀ t' k, EP X pins σ Q (.str (Txt.slice z lo hi) t') { s with toks := k } := fun t' k => ⟨.str _, H, I.tok _, ⟨_, rfl⟩, q⟩
  refine ⟨"str", _, F.slot_str_getitem.lookup, typeIs_str _ _ _, ?_⟩
  cases pl with
  | none =>
    cases pu with
    | none => exact wpAny_getItem_str_slice (l := none) (u := none) (st := none) hs rfl (post_val_or_str ⟨Nat.le_trans (Txt.slice_le z _ _) hz, fin⟩)
    | int j tj => exact wpAny_getItem_str_slice (l := none) (u := some (j, tj)) (st := none) hs rfl (post_val_or_str ⟨Nat.le_trans (Txt.slice_le z _ _) hz, fin⟩)
  | int i ti =>
    cases pu with
    | none => exact wpAny_getItem_str_slice (l := some (i, ti)) (u := none) (st := none) hs rfl (post_val_or_str ⟨Nat.le_trans (Txt.slice_le z _ _) hz, fin⟩)
    | int j tj => exact wpAny_getItem_str_slice (l := some (i, ti)) (u := some (j, tj)) (st := none) hs rfl (post_val_or_str ⟨Nat.le_trans (Txt.slice_le z _ _) hz, fin⟩)
theorem bootIsi : bootBuiltins "isinstance" = some (.builtin "isinstance") := by decide +kernel
/-! ### all(list of bools) -/
/-! ### isinstance(x, bool) of a bool, isinstance(x, int) -/
end
end L2
namespace L2
open PySem PySem.Spec PyProof.Rows
/-- the signs of z as values -/
def signsV (z : Str) : List V := z.cps.toList.map fun c => V.str ⟨#[c]⟩
end L2
namespace L2
open PySem PySem.Spec PyProof.Rows
/-- a comprehension by an invariant of the turns -/
theorem comp_by {J : It} {xs : List V} {n : Nat} {κ : List Nat} {g : TG} {tc : TT} {te : TE} {σ : St} {H : Hp} {Q : VK} (Pv : Nat → List V → Hp → Prop) (h0 : Pv 0 [] H) (hz : xs.length ≤ sizeLine) (hlen : ∀ i ys H2, Pv i ys H2 → ys.length ≤ i)
    (hgo : ∀ i x ys H2, xs[i]? = some x → Pv i ys H2 → J.go i H2) (hyl : ∀ i ys x H2 H', i < xs.length → Pv i ys H2 → J.yld i H2 x H' → H' = H2 ∧ xs[i]? = some x) (hst : ∀ ys H2, Pv xs.length ys H2 → J.stop xs.length H2)
    (hs : ∀ i x ys H2 (N : List V → Hp → Prop), (∀ ys' H', Pv (i + 1) ys' H' → N ys' H') → xs[i]? = some x → Pv i ys H2 → g x (blkSt n κ σ) H2 fun σ4 H4 => σ4.drop n = (blkSt n κ σ).drop n ∧ tc σ4 H4 fun b H5 => if b = true then te σ4 H5 fun v H6 => N (ys ++ [v]) H6 else N ys H5)
    (hQ : ∀ ys H2 D, Pv xs.length ys H2 → H2 D = none → Q (.ref D) (upd H2 D (.lst ys))) :
    CompRun n κ g tc te σ J H Q := by
  refine ⟨fun i m ys H2 => m = xs.length - i ∧ i ≤ xs.length ∧ Pv i ys H2, ⟨xs.length, rfl, Nat.zero_le _, h0⟩, ?_⟩
  rintro i m ys H2 ⟨rfl, hi, p⟩
  by_cases hlt : i < xs.length
  · have e : xs[i]? = some xs[i] := List.getElem?_eq_getElem hlt
    refine .inr ⟨hgo i _ ys H2 e p, Nat.lt_of_le_of_lt (hlen i ys H2 p) (Nat.lt_of_lt_of_le hlt hz), fun x H3 y => ?_⟩
    obtain ⟨rfl, ex⟩ := hyl i ys x H2 H3 hlt p y
    exact hs i x ys _ (fun ys' H' => ∃ m', m' < xs.length - i ∧ m' = xs.length - (i + 1) ∧ i + 1 ≤ xs.length ∧ Pv (i + 1) ys' H') (fun ys' H' p' => ⟨xs.length - (i + 1), by omega, rfl, hlt, p'⟩) ex p
  · obtain rfl : i = xs.length := by omega
    exact .inl ⟨hst ys H2 p, fun D hD => hQ ys H2 D p hD⟩
/-- a range's ints as values -/
def rangeV (lo : Int) (n : Nat) : List V := (List.range n).map fun i => V.int (lo + (i : Nat))
theorem rangeV_len (lo : Int) (n : Nat) : (rangeV lo n).length = n := by simp [rangeV]
theorem rangeV_get {lo : Int} {n i : Nat} {x : V} : (rangeV lo n)[i]? = some x ↔ i < n ∧ x = .int (lo + i) := by
  unfold rangeV
  rw [List.getElem?_map]
  by_cases h : i < n
  · rw [List.getElem?_range h]
    simp [h, eq_comm]
  · rw [List.getElem?_eq_none (by simp; omega)]
    simp [h]
theorem itr_go {lo : Int} {n : Nat} {H : Hp} {i : Nat} {x : V} (h : (rangeV lo n)[i]? = some x) : (Itr lo n).go i H := (rangeV_get.mp h).1
theorem itr_yld' {lo : Int} {n : Nat} {H H' : Hp} {i : Nat} {x : V} (hi : i < n) (h : (Itr lo n).yld i H x H') : H' = H ∧ (rangeV lo n)[i]? = some x := ⟨h.1, rangeV_get.mpr ⟨hi, h.2⟩⟩
section
variable {X : Cx}
end
end L2

namespace L2
open PySem PySem.Spec PyProof.Rows
/-! ### data: texts, numbers, tuples and lists of these, by the abstract heap -/
mutual
inductive Dat (K : PySem.W.Frag) (H : Hp) : V → PyData → Prop
  | non : Dat K H .non .none
  | bl (b : Bool) : Dat K H (.bl b) (.bool b)
  | int (i : Int) : Dat K H (.int i) (.int i)
  | str (x : Str) : Dat K H (.str x) (.str x)
  | tup {a : Addr} {xs : List V} {ds : List PyData} : SqT K H a xs → Dats K H xs ds → Dat K H (.ref a) (.tuple ds)
  | lst {a : Addr} {xs : List V} {ds : List PyData} : SqL K H a xs → Dats K H xs ds → Dat K H (.ref a) (.list ds)
inductive Dats (K : PySem.W.Frag) (H : Hp) : List V → List PyData → Prop
  | nil : Dats K H [] []
  | cons {x : V} {d : PyData} {xs : List V} {ds : List PyData} : Dat K H x d → Dats K H xs ds → Dats K H (x :: xs) (d :: ds)
end
theorem Same.tup {K : PySem.W.Frag} {H H' : Hp} {a : Addr} {xs : List V} (e : Same H H') (h : SqT K H a xs) : SqT K H' a xs := by
  rcases h with (h | ⟨o, h⟩) | h
  · exact .inl (.inl (e _ _ h))
  · exact .inl (.inr ⟨o, e _ _ h⟩)
  · exact .inr h
mutual
theorem Dat.same {K : PySem.W.Frag} {H H' : Hp} (e : Same H H') : ∀ {x : V} {d : PyData}, Dat K H x d → Dat K H' x d
  | _, _, .non => .non
  | _, _, .bl b => .bl b
  | _, _, .int i => .int i
  | _, _, .str x => .str x
  | _, _, .tup h r => .tup (e.tup h) (Dats.same e r)
  | _, _, .lst h r => .lst (e.seq h) (Dats.same e r)
theorem Dats.same {K : PySem.W.Frag} {H H' : Hp} (e : Same H H') : ∀ {xs : List V} {ds : List PyData}, Dats K H xs ds → Dats K H' xs ds
  | _, _, .nil => .nil
  | _, _, .cons h r => .cons (Dat.same e h) (Dats.same e r)
end
section
variable {X : Cx} {pins : List (Addr × Obj)} {σ : St} {H : Hp} {s : Shared}
mutual
theorem Dat.reads (I : Inv X pins σ H s) : ∀ {x : V} {d : PyData} {v : Value}, Dat X.K H x d → RelV x v → ∃ as, Reads s.heap v d as
  | _, _, _, .non, r => by cases r; exact ⟨_, .none⟩
  | _, _, _, .bl b, r => by cases r; exact ⟨_, .bool b⟩
  | _, _, _, .int i, r => by obtain ⟨t, rfl⟩ := r; exact ⟨_, .int i t⟩
  | _, _, _, .str x, r => by obtain ⟨t, rfl⟩ := r; exact ⟨_, .str x t⟩
  | _, _, _, .tup hq ds, r => by
    cases r
    obtain ⟨its, rv, p, _⟩ := I.tuple hq
    obtain ⟨as, q⟩ := Dats.reads I ds rv
    obtain ⟨o, e, c, n, dt⟩ := p
    exact ⟨as, .tuple e c dt (by simpa using q)⟩
  | _, _, _, .lst hq ds, r => by
    cases r
    obtain ⟨its, rv, p, _⟩ := I.list hq
    obtain ⟨as, q⟩ := Dats.reads I ds rv
    obtain ⟨o, n, e, c, _, dt⟩ := p
    exact ⟨_, .list e c dt (by simpa using q)⟩
theorem Dats.reads (I : Inv X pins σ H s) : ∀ {xs : List V} {ds : List PyData} {vs : List Value}, Dats X.K H xs ds → Vals xs vs → ∃ as, ReadsAll s.heap vs ds as
  | _, _, _, .nil, r => by cases r; exact ⟨_, .nil⟩
  | _, _, _, .cons h t, r => by
    cases r with
    | cons r1 r2 =>
      obtain ⟨as, q⟩ := Dat.reads I h r1
      obtain ⟨bs, q2⟩ := Dats.reads I t r2
      exact ⟨_, .cons q q2⟩
end
end
section
variable {X : Cx}
def rEqD (K : PySem.W.Frag) (neg : Bool) : R2 := fun x y H Q => ∃ dx dy, Dat K H x dx ∧ Dat K H y dy ∧ SeqAt.shaped dx = true ∧ SeqAt.shaped dy = true ∧ Q (.bl (if neg then !PyData.eqv dx dy else PyData.eqv dx dy)) H
theorem op_eqD (hu : X.A.units + 64 < cLine) : OpR X (compareOp .Eq) (rEqD X.K false) := by
  intro pins s σ H x y v u Q I rx ry h
  obtain ⟨dx, dy, hx, hy, sx, sy, q⟩ := h
  obtain ⟨as, ra⟩ := Dat.reads I hx rx
  obtain ⟨bs, rb⟩ := Dat.reads I hy ry
  exact eq_dataH ra rb sx sy hu ⟨.bl _, H, I, rfl, q⟩
theorem op_neD (hu : X.A.units + 64 < cLine) : OpR X (compareOp .NotEq) (rEqD X.K true) := by
  intro pins s σ H x y v u Q I rx ry h
  obtain ⟨dx, dy, hx, hy, sx, sy, q⟩ := h
  obtain ⟨as, ra⟩ := Dat.reads I hx rx
  obtain ⟨bs, rb⟩ := Dat.reads I hy ry
  exact ne_dataH ra rb sx sy hu ⟨.bl _, H, I, rfl, q⟩
end
end L2

namespace L2
open PySem PySem.Spec PyProof.Rows
/-! ### x in a list of data -/
section
variable {X : Cx}
theorem canLayAll_mem {ds : List PyData} (h : PyData.canLayAll0 ds = true) {d : PyData} (hd : d ∈ ds) : d.canLay0 = true := PyData.canLay0_of_mem ds d h hd
theorem readsAll_get {h : Heap} : ∀ {vs : List Value} {ds : List PyData} {as : List Addr}, ReadsAll h vs ds as → ∀ v ∈ vs, ∃ d ∈ ds, ∃ bs, Reads h v d bs
  | _, _, _, .nil, v, hv => nomatch hv
  | _, _, _, .cons r t, v, hv => by
    rcases List.mem_cons.mp hv with rfl | hv
    · exact ⟨_, List.mem_cons_self, _, r⟩
    · obtain ⟨d, hd, bs, q⟩ := readsAll_get t v hv
      exact ⟨d, List.mem_cons_of_mem _ hd, bs, q⟩
open Classical in
/-- the answer at an item, by the data that lies there -/
noncomputable def eqAtD (h : Heap) (d : PyData) (v : Value) : Bool := if q : ∃ e, ∃ bs, Reads h v e bs then PyData.eqv q.choose d else false
theorem eqAtD_of {h : Heap} {d e : PyData} {v : Value} {as : List Addr} (hl : e.canLay0 = true) (r : Reads h v e as) : eqAtD h d v = PyData.eqv e d := by
  unfold eqAtD
  have q : ∃ e, ∃ bs, Reads h v e bs := ⟨e, as, r⟩
  rw [dif_pos q]
  obtain ⟨bs, r2⟩ := q.choose_spec
  rw [SeqAt.Reads.unique e _ v as bs hl r r2]
theorem any_eqAtD {h : Heap} {d : PyData} : ∀ {vs : List Value} {ds : List PyData} {as : List Addr}, ReadsAll h vs ds as → PyData.canLayAll0 ds = true → vs.any (eqAtD h d) = ds.any fun e => PyData.eqv e d
  | _, _, _, .nil, _ => rfl
  | _, _, _, .cons (d := e) (ds := es) r t, hl => by
    have hl' : e.canLay0 = true ∧ PyData.canLayAll0 es = true := by simpa only [PyData.canLayAll0, Bool.and_eq_true] using hl
    rw [List.any_cons, List.any_cons, eqAtD_of hl'.1 r, any_eqAtD t hl'.2]
def rInD (K : PySem.W.Frag) (neg : Bool) : R2 := fun x y H Q => ∃ p xs ds d, y = .ref p ∧ SqL K H p xs ∧ Dats K H xs ds ∧ Dat K H x d ∧ PyData.canLayAll0 ds = true ∧ d.canLay0 = true ∧ d.depth ≤ 60 ∧
  Q (.bl (if neg then !(ds.any fun e => PyData.eqv e d) else ds.any fun e => PyData.eqv e d)) H
theorem inD_items (hu : X.A.units + 64 < cLine) {pins : List (Addr × Obj)} {σ : St} {H : Hp} {s : Shared} {x : V} {v : Value} {p : Addr} {xs : List V} {ds : List PyData} {d : PyData} (I : Inv X pins σ H s) (rx : RelV x v)
    (hq : SqL X.K H p xs) (hds : Dats X.K H xs ds) (hd : Dat X.K H x d) (hl : PyData.canLayAll0 ds = true) (hl2 : d.canLay0 = true) (hdp : d.depth ≤ 60) :
    ∃ its : List Value, PlainL s.heap p its.toArray ∧ (∀ y, y ∈ its.toArray → SeqAt.EqAt X.A.in1 s y v (eqAtD s.heap d y)) ∧ its.toArray.any (eqAtD s.heap d) = ds.any fun e => PyData.eqv e d := by
  obtain ⟨its, rv, pl, _⟩ := I.list hq
  obtain ⟨as, ra⟩ := Dats.reads I hds rv
  obtain ⟨bs, rb⟩ := Dat.reads I hd rx
  refine ⟨its, pl, fun y hy => ?_, ?_⟩
  · obtain ⟨e, he, cs, re⟩ := readsAll_get ra y (by simpa using hy)
    have hle := canLayAll_mem hl he
    rw [eqAtD_of hle re]
    refine SeqAt.eqAt_reads e d X.A.in1 s y v cs bs re rb hle hl2 ?_
    have h1 : min e.depth d.depth ≤ d.depth := Nat.min_le_right _ _
    have h2 : X.A.in1.units ≤ X.A.units + 1 := by first | exact Nat.le_refl _ | (show X.A.units + 1 ≤ X.A.units + 1; exact Nat.le_refl _) | (show X.A.units ≤ X.A.units + 1; exact Nat.le_succ _)
    omega
  · rw [show its.toArray.any (eqAtD s.heap d) = its.any (eqAtD s.heap d) by simp]
    exact any_eqAtD ra hl
theorem op_notInD (hu : X.A.units + 64 < cLine) : OpR X (compareOp .NotIn) (rInD X.K true) := by
  intro pins s σ H x y v u Q I rx ry h
  obtain ⟨p, xs, ds, d, rfl, hq, hds, hd, hl, hl2, hdp, q⟩ := h
  cases ry
  obtain ⟨its, pl, he, ea⟩ := inD_items hu I rx hq hds hd hl hl2 hdp
  refine SeqAt.notIn_listAt (eqAtD s.heap d) pl.isList he ⟨.bl _, H, I, rfl, ?_⟩
  rw [ea]
  exact q
/-! ### z * n of a text -/
theorem op_mulS : OpR X (binaryOp .Mult) (fun x y H Q => ∃ z n, x = .str z ∧ y = .int n ∧ MulOk z n ∧ Q (.str (Txt.mul z n)) H) := by
  intro pins s σ H x y v u Q I rx ry h
  obtain ⟨z, n, rfl, rfl, hm, q⟩ := h
  obtain ⟨t, rfl⟩ := rx
  obtain ⟨t', rfl⟩ := ry
  exact SB.mul hm fun t' k => ⟨.str _, H, I.tok _, ⟨_, rfl⟩, q⟩
theorem mulOk_small {z : Str} {n : Int} (h0 : 0 ≤ n) (h1 : n ≤ 1000) (h2 : z.length ≤ 1000) : MulOk z n := by
  refine ⟨?_, fun h3 _ => ?_, fun _ _ => ?_⟩
  · rw [decide_eq_false (by omega), decide_eq_false (by omega)] <;> rfl
  · have hn : 0 < n := by omega
    have hm : (z.length : Int) * n ≤ 1000 * 1000 := Int.mul_le_mul (by omega) h1 h0 (by decide)
    have e : (z.length : Int) ≤ (2 ^ 63 - 1) / n := Int.le_ediv_of_mul_le hn (by omega)
    omega
  · unfold Builtin.Str.tooLong sizeLine
    refine decide_eq_false ?_
    have : z.length * n.toNat ≤ 1000 * 1000 := Nat.mul_le_mul h2 (by omega)
    omega
end
end L2

/-! kinds as trees: the mathematics, and how a kind lies on the abstract heap -/
namespace Kk
open PySem L2
inductive Kd where
  | num (n : Int)
  | name (q t : Str)
  | pair (a b : Kd)
  deriving DecidableEq
def Kd.words : Kd → Nat
  | .num _ => 1
  | .name _ _ => 1
  | .pair a b => 1 + a.words + b.words
def Kd.leaves : Kd → List Kd
  | .num n => [.num n]
  | .name q t => [.name q t]
  | .pair a b => a.leaves ++ b.leaves
def Kd.leaf : Kd → Bool
  | .pair _ _ => false
  | _ => true
theorem words_leaves : ∀ k : Kd, k.words + 1 = 2 * k.leaves.length
  | .num _ => rfl
  | .name _ _ => rfl
  | .pair a b => by
    have h1 := words_leaves a
    have h2 := words_leaves b
    show 1 + a.words + b.words + 1 = 2 * (a.leaves ++ b.leaves).length
    rw [List.length_append]
    omega
theorem leaves_pos : ∀ k : Kd, 0 < k.leaves.length
  | .num _ => Nat.zero_lt_one
  | .name _ _ => Nat.zero_lt_one
  | .pair a b => by
    have h1 := leaves_pos a
    show 0 < (a.leaves ++ b.leaves).length
    rw [List.length_append]
    omega
theorem leaves_of_leaf {k : Kd} (h : k.leaf = true) : k.leaves = [k] := by
  cases k with
  | num _ => rfl
  | name _ _ => rfl
  | pair _ _ => cases h
/-- a kind lies at v -/
inductive KdAt (K : PySem.W.Frag) (H : Hp) : V → Kd → Prop
  | num {a : Addr} {n : Int} : SqT K H a [.str "num", .int n] → KdAt K H (.ref a) (.num n)
  | name {a : Addr} {q t : Str} : SqT K H a [.str "name", .str q, .str t] → KdAt K H (.ref a) (.name q t)
  | pair {a : Addr} {x y : V} {k l : Kd} : SqT K H a [.str "pair", x, y] → KdAt K H x k → KdAt K H y l → KdAt K H (.ref a) (.pair k l)
theorem KdAt.same {K : PySem.W.Frag} {H H' : Hp} (e : Same H H') : ∀ {x : V} {k : Kd}, KdAt K H x k → KdAt K H' x k
  | _, _, .num h => .num (e.tup h)
  | _, _, .name h => .name (e.tup h)
  | _, _, .pair h a b => .pair (e.tup h) (a.same e) (b.same e)
inductive KdsAt (K : PySem.W.Frag) (H : Hp) : List V → List Kd → Prop
  | nil : KdsAt K H [] []
  | cons {x : V} {k : Kd} {xs : List V} {ks : List Kd} : KdAt K H x k → KdsAt K H xs ks → KdsAt K H (x :: xs) (k :: ks)
theorem KdsAt.same {K : PySem.W.Frag} {H H' : Hp} (e : Same H H') : ∀ {xs : List V} {ks : List Kd}, KdsAt K H xs ks → KdsAt K H' xs ks
  | _, _, .nil => .nil
  | _, _, .cons a b => .cons (a.same e) (b.same e)
theorem KdsAt.length {K : PySem.W.Frag} {H : Hp} : ∀ {xs : List V} {ks : List Kd}, KdsAt K H xs ks → xs.length = ks.length
  | _, _, .nil => rfl
  | _, _, .cons _ b => congrArg (· + 1) b.length
theorem KdsAt.append {K : PySem.W.Frag} {H : Hp} : ∀ {xs ys : List V} {ks ls : List Kd}, KdsAt K H xs ks → KdsAt K H ys ls → KdsAt K H (xs ++ ys) (ks ++ ls)
  | _, _, _, _, .nil, h => h
  | _, _, _, _, .cons a b, h => .cons a (b.append h)
end Kk

namespace L2
open PySem PySem.Spec PyProof.Rows
/-! ### exceptions: how one lies behind a call, how it is made, how it leaves a frame -/
section
variable {P : Program} {w : World}
theorem ObjOk.there {H : Hp} {h : Heap} {a : Addr} {o : HO} (x : ObjOk P w H h a o) : ∃ u, h.get? a = some u := by
  cases o with
  | lst xs => obtain ⟨_, _, _, _, e⟩ := x; exact ⟨_, e⟩
  | tup xs => obtain ⟨_, _, _, ob, e, _⟩ := x; exact ⟨_, e⟩
  | dK kvs => obtain ⟨_, _, _, _, o, _, _, e, _⟩ := x; exact ⟨_, e⟩
  | dT kvs => obtain ⟨_, _, _, _, o, _, _, e, _⟩ := x; exact ⟨_, e⟩
  | set S n => obtain ⟨o, _, _, _, e, _⟩ := x; exact ⟨_, e⟩
  | ins C dx fs => obtain ⟨_, _, _, e, _⟩ := x; exact ⟨_, e⟩
  | own y => exact x
  | xd fs => obtain ⟨_, ⟨_, _, _, e, _⟩, _⟩ := x; exact ⟨_, e⟩
  | rng lo hi => obtain ⟨_, _, _, e⟩ := x; exact ⟨_, e⟩
  | frz ob u => obtain ⟨e, _⟩ := x; exact ⟨_, e⟩
  | tbl ps => exact ⟨_, (show h.get? a = some _ from x)⟩
  | met f y => exact ⟨_, (show h.get? a = some _ from x)⟩
  | ext φ => obtain ⟨_, e, _⟩ := x; exact e
/-- an exception x of class cls flies behind a call: H, s ahead of the call, H', s' behind it. What the callers have, and what is tracked, stands in a heap B that nothing of the flight touches -/
structure Fly (P : Program) (w : World) (outer : List Env) (H : Hp) (s : Shared) (x : Addr) (cls : Value) (H' : Hp) (s' : Shared) : Prop where
  os : s'.os = s.os
  bare : AllBare s'.gens
  un : Un (frs outer) [] H H' s.heap s'.heap
  hok : HOk P w H' s'.heap
  fl : ∃ B a0, Heap.FlyingW B outer x cls a0 s'.heap ∧ (∀ b o, H' b = some o → ∃ u, B.get? b = some u) ∧ ∀ b o, s.heap.get? b = some o → b ∉ frs outer → ∃ u, B.get? b = some u
  free : H' x = none
def CX1 (P : Program) (w : World) : CXT := fun outer H s E e s' => ∃ x cls H', e = .ref x ∧ Fly P w outer H s x cls H' s' ∧ E cls none H'
end
section
variable {X : Cx} {pins : List (Addr × Obj)} {σ : St} {H H' : Hp} {s s' : Shared} {x : Addr} {cls : Value} {E : Value → Shared → Prop} {Q : Unit → Shared → Prop}
theorem Inv.notSt (I : Inv X pins σ H s) {b : Addr} (h1 : b ≠ X.env.locals) (h2 : b ∉ X.fs) : b ∉ frs X.stack := fun z => (List.mem_cons.mp (I.stkSub b z)).elim h1 h2
theorem Inv.oldL (I : Inv X pins σ H s) {b : Addr} {o : Obj} (e : X.s₀.heap.get? b = some o) : b ≠ X.env.locals := Nat.ne_of_lt (Nat.lt_of_lt_of_le (Heap.lt_size e) I.ok.above)
theorem Fly.leave (I : Inv X pins σ H s) (hst : X.stack = X.env :: X.outer) (hfr : X.env.frame = some X.env.locals) (hex : X.ex = []) (f : Fly X.prog X.w X.stack H s x cls H' s')
    (hQ : ∀ s'', Fly X.prog X.w X.outer X.H₀ X.s₀ x cls H' s'' → Q () s'') : wpAny (model X.prog X.w) X.A (leaving X.env (.ref x)) Q E s' := by
  obtain ⟨B, a0, fl, c1, c2⟩ := f.fl
  rw [hst] at fl
  have nx : ∀ b : Addr, b ∉ X.ex := fun b => by rw [hex]; simp
  refine wpAny_leaves_onW (by rw [I.ok.frames, hst]) hfr fl fun h' fl' up => hQ _ ?_
  have st : ∀ b o, B.get? b = some o → h'.get? b = some o := fl'.1
  have same : ∀ b u v, B.get? b = some u → s'.heap.get? b = some v → u = v := fun b u v h1 h2 => by
    have h3 := fl.1 b u h1
    rw [h2] at h3
    exact (Option.some.inj h3).symm
  have slot : ∀ b o, X.s₀.heap.get? b = some o → X.H₀ b = none → b ∈ X.fs → ∃ sl, h'.get? b = some { o with slots := sl } := fun b o e n hb => by
    obtain ⟨sl, e1⟩ := I.base.slot b o e n hb (nx b)
    obtain ⟨sl2, e2⟩ := f.un.any e1 (I.base.free b o e n (nx b)) (by simp)
    obtain ⟨_, of, ho, hnf⟩ := I.ok.funs.mem hb
    rw [e] at ho
    cases ho
    obtain ⟨sl3, e3⟩ := up b _ e2 hnf
    exact ⟨sl3, e3⟩
  refine ⟨f.os.trans I.os, f.bare, ⟨fun b o e n hb _ => ?_, fun b o e n hb _ => slot b o e n hb, fun b o e n _ => ?_, fun b o e _ => ?_, fun b xs e => f.un.tups b xs (I.base.tups b xs e), fun b o u e => f.un.frzs b o u (I.base.frzs b o u e), fun b ps e => ?_⟩, fun a o e => ?_, ⟨B, a0, fl', c1, fun b o e hb => ?_⟩, f.free⟩
  · have e1 := I.base.keep b o e n hb (nx b)
    have n1 := I.base.free b o e n (nx b)
    have hb' := I.notSt (I.oldL e) hb
    have e2 := f.un.keep b o e1 n1 hb' (by simp)
    obtain ⟨u, hu⟩ := c2 b o e1 hb'
    exact same b u o hu e2 ▸ st b u hu
  · obtain ⟨o', e1⟩ := I.base.there b o e (nx b)
    exact f.un.free b o' e1 (I.base.free b o e n (nx b)) (by simp)
  · by_cases hb : b ∈ X.fs
    · obtain ⟨sl, e1⟩ := slot b o e (I.ok.frf b hb) hb
      exact ⟨_, e1⟩
    · obtain ⟨o', e1⟩ := I.base.there b o e (nx b)
      obtain ⟨u, hu⟩ := c2 b o' e1 (I.notSt (I.oldL e) hb)
      exact ⟨u, st b u hu⟩
  · obtain ⟨m1, e1⟩ := I.base.tbls b ps e
    obtain ⟨m2, e2⟩ := f.un.tbls b _ e1
    exact ⟨m1 ++ m2, by rw [e2, Array.append_assoc]⟩
  · refine (f.hok a o e).stay (fun b u hb q => ?_) (fun _ q => q) fun _ _ q => q
    have t : ∃ o', H' b = some o' := by
      rcases hb with z | z
      · exact ⟨o, by rw [z]; exact e⟩
      · exact ⟨_, z⟩
    obtain ⟨o', e'⟩ := t
    obtain ⟨v, hv⟩ := c1 b o' e'
    exact same b v u hv q ▸ st b v hv
  · obtain ⟨o', e1⟩ := I.base.there b o e (nx b)
    exact c2 b o' e1 (I.notSt (I.oldL e) hb)
/-- just made, it leaves the frame that raised it -/
theorem Fly.made {h1 : Heap} {vs : List Value} (I : Inv X pins σ H s) (hst : X.stack = X.env :: X.outer) (hfr : X.env.frame = some X.env.locals) (hex : X.ex = []) (hx : Heap.MadeExcOf s.heap h1 x cls vs)
    (hQ : ∀ s'', Fly X.prog X.w X.outer X.H₀ X.s₀ x cls H s'' → Q () s'') : wpAny (model X.prog X.w) X.A (leaving X.env (.ref x)) Q E { s with heap := h1 } := by
  have nx : ∀ b : Addr, b ∉ X.ex := fun b => by rw [hex]; simp
  have hl : s.heap.FunFrames (PySem.W.hideAll s.heap (frs X.stack)) (X.env :: X.outer) :=
    PySem.W.funFrames_hide (base := X.base) (by rw [← hst]; exact I.stack) fun env he a hf => by
      rw [hst]
      exact List.mem_filterMap.mpr ⟨env, he, hf⟩
  refine wpAny_leaves_madeW (h := s.heap) (by rw [I.ok.frames, hst]) hfr (fun b o q => PySem.W.of_hideAll _ q) hl hx fun h' t fl _ _ up => hQ _ ?_
  have st : ∀ b o, s.heap.get? b = some o → b ∉ frs X.stack → h'.get? b = some o := fun b o e hb => fl.1 b o (PySem.W.hideAll_get _ e hb)
  have slot : ∀ b o, X.s₀.heap.get? b = some o → X.H₀ b = none → b ∈ X.fs → ∃ sl, h'.get? b = some { o with slots := sl } := fun b o e n hb => by
    obtain ⟨sl, e1⟩ := I.base.slot b o e n hb (nx b)
    have e2 := hx.keeps b _ e1
    obtain ⟨_, of, ho, hnf⟩ := I.ok.funs.mem hb
    rw [e] at ho
    cases ho
    obtain ⟨sl3, e3⟩ := up b _ e2 hnf
    exact ⟨sl3, e3⟩
  have trk : ∀ b o, H b = some o → b ∉ frs X.stack := fun b o e z => by rw [I.stkFree b z] at e; cases e
  refine ⟨I.os, I.bare, ⟨fun b o e n hb _ => st b o (I.base.keep b o e n hb (nx b)) (I.notSt (I.oldL e) hb), fun b o e n hb _ => slot b o e n hb, fun b o e n _ => I.base.free b o e n (nx b), fun b o e _ => ?_, I.base.tups, I.base.frzs, I.base.tbls⟩, fun a o e => ?_, ⟨_, _, fl, fun b o e => ?_, fun b o e hb => ?_⟩, ?_⟩
  · by_cases hb : b ∈ X.fs
    · obtain ⟨sl, e1⟩ := slot b o e (I.ok.frf b hb) hb
      exact ⟨_, e1⟩
    · obtain ⟨o', e1⟩ := I.base.there b o e (nx b)
      exact ⟨o', st b o' e1 (I.notSt (I.oldL e) hb)⟩
  · refine (I.hok a o e).stay (fun b u hb q => st b u q ?_) (fun _ q => q) fun _ _ q => q
    rcases hb with z | z
    · rw [z]; exact trk a o e
    · exact trk b _ z
  · obtain ⟨u, hu⟩ := (I.hok b o e).there
    exact ⟨u, PySem.W.hideAll_get _ hu (trk b o e)⟩
  · obtain ⟨o', e1⟩ := I.base.there b o e (nx b)
    exact ⟨o', PySem.W.hideAll_get _ e1 (I.notSt (I.oldL e) hb)⟩
  · cases q : H x with
    | none => rfl
    | some o =>
      obtain ⟨u, hu⟩ := (I.hok x o q).there
      have := hx.new
      rw [hu] at this
      cases this
end
section
variable {P : Program} {w : World} {K : PySem.W.Frag} {mg : Str → Option Value} {base : Heap} {N : List Str} {qual : Str} {scope : Scope} {f : Addr} {cd : Value} {A : Around} {outer : List Env} {s : Shared} {H : Hp} {E : XK}
/-- an exception of a callee leaves this def too -/
theorem pass1 : Passes (CX1 P w) (cxOf (CX1 P w) P w K mg base N qual scope f cd A outer s H E) E := fun pins σ H1 s1 e s' I h => by
  obtain ⟨x, cls, H', rfl, fl, hE⟩ := h
  exact Fly.leave I rfl rfl rfl fl fun s'' g => ⟨x, cls, H', rfl, g, hE⟩
end
/-! ### raise -/
theorem ownExc_of {K : PySem.W.Frag} {h : Heap} {mg : Str → Option Value} {c : Str} {C : Addr} {bmB : List Value} {newId : String} (kin : K.In h) (hm : mg c = some (.ref C)) (q : PySem.W.excIn K C bmB newId = true) : OwnCls c C bmB newId mg h := by
  refine ⟨hm, ?_⟩
  unfold PySem.W.excIn at q
  split at q
  next ddx cdx slx look =>
    split at q
    next C2 tl z0 z1 z2 z3 nn z5 hmro hsl =>
      simp only [Bool.not_eq_true', Bool.and_eq_true, beq_iff_eq] at q
      obtain ⟨⟨⟨⟨⟨e1, e2⟩, hdel⟩, htl⟩, hok⟩, hni⟩ := q
      obtain ⟨nm, bs, mro, ns, qn, hd, sn, sub, ab, col, del⟩ := cdx
      obtain ⟨sll⟩ := slx
      dsimp only at hmro hdel hok hni hsl
      subst e1 e2 hmro hdel hsl
      exact ⟨tl, ns, nm, qn, bs, hd, sn, sub, ab, col, ddx, z0, z1, z2, z3, z5, _, kin _ _ look, .of_isNs (PySem.W.isNs_of_in kin hok), PySem.W.nsMap_none_of_in kin hok hni, PySem.W.tail_of_in kin htl⟩
    next => cases q
  next => cases q
abbrev bmVE : List Value := [.type "ValueError", .type "Exception", .type "BaseException", .type "object"]
/-- raise C(..), C an own class under ValueError without an __init__ -/
theorem ps_raise {X : Cx} {c : Str} {C : Addr} {e₀ : Expr} {es : List Expr} {np cpos pos : Pos} {ta : TA} {W : St → Hp → Prop} (hc : X.calm = true) (hg : Gl X c) (hm : X.mg c = some (.ref C)) (q : PySem.W.excIn X.K C bmVE "ValueError.__new__" = true)
    (ha : PA X (e₀ :: es) ta) (hW : ∀ (pins : List (Addr × Obj)) (σ : St) (H : Hp) (s : Shared) (e : Addr) (h1 : Heap) (vs : List Value), Inv X pins σ H s → W σ H → Heap.MadeExcOf s.heap h1 e (.ref C) vs → X.xe (.ref e) { s with heap := h1 })
    (hd : (c == ("__debug__" : Str)) = false := by decide) (he : starEach (e₀ :: es) X.env = (false, eval e₀ X.env) :: starEach es X.env := by rfl) (hpl : (backTo cpos (starEach es X.env)).any (·.1) = false := by rfl) :
    PS X (.Raise (some (.Call (.Name c np) (e₀ :: es) [] cpos)) none pos) (fun _ σ H => ta σ H fun vs H1 => vs.length ≤ sizeLine ∧ W σ H1) := by
  intro pins s σ H D I h
  obtain ⟨tl, N, nm, qq, bs, hdct, sn, sub, ab, col, dd, k0, k1, k2, k3, k5, mN, hC, hN, hni, T⟩ := (ownExc_of I.mod.kin hm q).obj
  refine wpAny_Raise_call_subU (C := C) (nm := nm) (q := qq) (N := N) (bs := bs) (bm := tl) (hdct := hdct) (sn := sn) (sub := sub) (ab := ab) (col := col) (dd := dd) (k0 := k0) (k1 := k1) (k2 := k2) (k3 := k3) (k5 := k5)
    PySem.F.excBase_ValueError (by decide +kernel) PySem.F.excBase_ValueError (mN := mN) (T.hasType PySem.F.excBase_ValueError.hasBase) (I.ok.hd hc) ?_ hni (ld_glob I hg hm ⟨rfl, ?_⟩ hd)
  · rw [he]
    show (false || (backTo cpos (starEach es X.env)).any (·.1)) = false
    rw [hpl]
    rfl
  · have h2 := ha cpos pins s σ H _ I h
    rw [he] at h2 ⊢
    refine Calls.evalArgs_plain (wpAny_mono h2 (fun us s2 ⟨vs, H1, I1, rv, hl, hw⟩ => ⟨rfl, ?_, I1.bk _ _ hC, hN.keeps I1.bk, T.keeps I1.bk, fun h' e hx => hW pins σ H1 s2 e h' us I1 hw hx⟩) fun _ _ z => z)
    rw [← rv.length]
    exact hl
section
variable {P : Program} {w : World} {K : PySem.W.Frag} {mg : Str → Option Value} {base : Heap}
theorem ps_raise1 {N : List Str} {qual : Str} {scope : Scope} {f : Addr} {cd : Value} {A : Around} {outer : List Env} {s : Shared} {H : Hp} {E : XK} {c : Str} {C : Addr} {e₀ : Expr} {es : List Expr} {np cpos pos : Pos} {ta : TA}
    (hg : Gl (cxOf (CX1 P w) P w K mg base N qual scope f cd A outer s H E) c) (hm : mg c = some (.ref C)) (q : PySem.W.excIn K C bmVE "ValueError.__new__" = true) (ha : PA (cxOf (CX1 P w) P w K mg base N qual scope f cd A outer s H E) (e₀ :: es) ta)
    (hd : (c == ("__debug__" : Str)) = false := by decide) (he : starEach (e₀ :: es) (envOfC qual scope s.heap.objs.size f cd) = (false, eval e₀ (envOfC qual scope s.heap.objs.size f cd)) :: starEach es (envOfC qual scope s.heap.objs.size f cd) := by rfl)
    (hpl : (backTo cpos (starEach es (envOfC qual scope s.heap.objs.size f cd))).any (·.1) = false := by rfl) :
    PS (cxOf (CX1 P w) P w K mg base N qual scope f cd A outer s H E) (.Raise (some (.Call (.Name c np) (e₀ :: es) [] cpos)) none pos) (fun _ σ H => ta σ H fun vs H1 => vs.length ≤ sizeLine ∧ E (.ref C) none H1) :=
  ps_raise (X := cxOf (CX1 P w) P w K mg base N qual scope f cd A outer s H E) (W := fun _ H1 => E (.ref C) none H1) rfl hg hm q ha (fun pins σ H s e h1 vs I hw hx => Fly.made I rfl rfl rfl hx fun s'' g => ⟨e, .ref C, H, rfl, g, hw⟩) hd he hpl
/-- THE RULE for a def that may raise -/
theorem Fun.okX {x qual : Str} {st : Stmt} {f : Addr} {fd : FuncData} {N ps : List Str} {k : Nat} {sp : Sp} (F : Fun K x qual st f fd) (S : FnScope N ps (defScope st)) (len : ∀ vs H Q E, sp vs H Q E → vs.length = ps.length)
    (hbody : ∀ (cdv : Value) (A : Around) (outer : List Env) (s : Shared) (H : Hp) (vs : List V) (Q : VK) (E : XK), Room k (A.deeper (envOfC qual (defScope st) s.heap.objs.size f cdv)) → sp vs H Q E →
      ∃ t, PSs (cxOf (CX1 P w) P w K mg base N qual (defScope st) f cdv A outer s H E) (defBody st) t ∧ t { nx := fun _ H' => Q .non H', rt := Q } (start N vs) H) : FnOk P w K mg base (CX1 P w) (k + 1) f fd ps sp := by
  obtain ⟨oc, od, kV, doc, pm, an, cdv, ct, osl, rfl, lk, hcd⟩ := F.ex
  exact fn_of lk hcd S len fun A outer s H vs Q E hr hsp => hbody cdv A outer s H vs Q E hr hsp
end
end L2

namespace L2
open PySem PySem.Spec PyProof.Rows
/-! ### try: what flies is looked at, lands, is handled -/
section
variable {X : Cx} {pins : List (Addr × Obj)} {σ : St} {H H' : Hp} {s s' : Shared} {x : Addr} {cls : Value}
/-- still flying: the frames' slots and the flight's own records may have changed -/
theorem Fly.on {h' : Heap} (f : Fly X.prog X.w X.stack H s x cls H' s') (I : Inv X pins σ H s) {B : Heap} {a0 a1 : Value} (fl : Heap.FlyingW B X.stack x cls a0 s'.heap) (c1 : ∀ b o, H' b = some o → ∃ u, B.get? b = some u)
    (c2 : ∀ b o, s.heap.get? b = some o → b ∉ frs X.stack → ∃ u, B.get? b = some u) (fl' : Heap.FlyingW B X.stack x cls a1 h') (up : s'.heap.UpToSlots h') : Fly X.prog X.w X.stack H s x cls H' { s' with heap := h' } := by
  have st : ∀ b o, B.get? b = some o → h'.get? b = some o := fl'.1
  have same : ∀ b u v, B.get? b = some u → s'.heap.get? b = some v → u = v := fun b u v h1 h2 => by
    have h3 := fl.1 b u h1
    rw [h2] at h3
    exact (Option.some.inj h3).symm
  have slot : ∀ b o, s.heap.get? b = some o → H b = none → b ∈ frs X.stack → ∃ sl, h'.get? b = some { o with slots := sl } := fun b o e n hb => by
    obtain ⟨sl2, e2⟩ := f.un.any e n (by simp)
    obtain ⟨_, of, ho, hnf⟩ := I.stack.mem hb
    rw [e] at ho
    cases ho
    obtain ⟨sl3, e3⟩ := up b _ e2 hnf
    exact ⟨sl3, e3⟩
  refine ⟨f.os, f.bare, ⟨fun b o e n hb _ => ?_, fun b o e n hb _ => slot b o e n hb, f.un.free, fun b o e _ => ?_, f.un.tups, f.un.frzs, f.un.tbls⟩, fun a o e => ?_, ⟨B, a1, fl', c1, c2⟩, f.free⟩
  · have e2 := f.un.keep b o e n hb (by simp)
    obtain ⟨u, hu⟩ := c2 b o e hb
    exact same b u o hu e2 ▸ st b u hu
  · by_cases hb : b ∈ frs X.stack
    · obtain ⟨sl, e1⟩ := slot b o e (I.stkFree b hb) hb
      exact ⟨_, e1⟩
    · obtain ⟨u, hu⟩ := c2 b o e hb
      exact ⟨u, st b u hu⟩
  · refine (f.hok a o e).stay (fun b u hb q => ?_) (fun _ q => q) fun _ _ q => q
    have t : ∃ o', H' b = some o' := by
      rcases hb with z | z
      · exact ⟨o, by rw [z]; exact e⟩
      · exact ⟨_, z⟩
    obtain ⟨o', e'⟩ := t
    obtain ⟨v, hv⟩ := c1 b o' e'
    exact same b v u hv q ▸ st b v hv
theorem Fly.inv (f : Fly X.prog X.w X.stack H s x cls H' s') (I : Inv X pins σ H s) : Inv X pins σ H' s' := I.call' (ch := []) f.os f.un f.hok f.bare fun b z => absurd z (by simp)
theorem Fly.there (f : Fly X.prog X.w X.stack H s x cls H' s') : ∃ ob, s'.heap.get? x = some ob ∧ ob.cls = cls := by
  obtain ⟨B, a0, fl, _⟩ := f.fl
  exact fl.there
theorem Fly.again {A : Around} {E : Value → Shared → Prop} {Q : Unit → Shared → Prop} (f : Fly X.prog X.w X.stack H s x cls H' s') (I : Inv X pins σ H s) (hQ : ∀ s'', Fly X.prog X.w X.stack H s x cls H' s'' → Q () s'') :
    wpAny (model X.prog X.w) A (setFlight (.ref x) none) Q E s' := by
  obtain ⟨B, a0, fl, c1, c2⟩ := f.fl
  exact lands_againW fl fun h' fl' up => hQ _ (f.on I fl c1 c2 fl' up)
theorem Fly.look {E E2 : Value → Shared → Prop} {Q : Unit → Shared → Prop} (f : Fly X.prog X.w X.stack H s x cls H' s') (I : Inv X pins σ H s) (hst : X.stack = X.env :: X.outer) (hfr : X.env.frame = some X.env.locals)
    (hQ : ∀ s'', Fly X.prog X.w X.stack H s x cls H' s'' → Q () s'') : wpAny (model X.prog X.w) X.A (noteFrame (.ref x) X.env) (fun _ s2 => wpAny (model X.prog X.w) X.A (setFlight (.ref x) none) Q E2 s2) E s' := by
  obtain ⟨B, a0, fl, c1, c2⟩ := f.fl
  have fl0 := fl
  rw [hst] at fl
  refine wpAny_looks_onW (by rw [I.ok.frames, hst]) hfr fl fun h' hd up => ?_
  refine wpAny_landsW hd fun h2 fl2 up2 => ?_
  rw [← hst] at fl2
  exact hQ _ (f.on I fl0 c1 c2 fl2 (up.trans up2))
end
/-! ### the context within an except suite; within a try -/
abbrev Cx.inE (X : Cx) (e : Addr) : Cx := { X with A := X.A.mark (some (.ref e)), calm := false }
section
variable {X : Cx} {pins : List (Addr × Obj)} {σ : St} {H : Hp} {s : Shared}
theorem Cx.Ok.inE {e : Addr} (ok : X.Ok) : (X.inE e).Ok := ⟨ok.mod, ok.kind, ok.glob, ok.blt, ok.above, ok.inj, ok.has, ok.cab, fun z => absurd z (by simp), ok.frames, ok.stk, ok.exf, ok.bs, ok.bsz, ok.noex, ok.exfs, ok.funs, ok.frf⟩
theorem Inv.inE {e : Addr} (I : Inv X pins σ H s) : Inv (X.inE e) pins σ H s := ⟨I.ok.inE, I.os, I.bare, I.base, I.loc, I.cell, I.free, I.freeC, I.pin, I.hok, I.len⟩
theorem Inv.outE {e : Addr} {E : Value → Shared → Prop} (ok : X.Ok) (I : Inv ((X.inE e).wish E) pins σ H s) : Inv X pins σ H s := ⟨ok, I.os, I.bare, I.base, I.loc, I.cell, I.free, I.freeC, I.pin, I.hok, I.len⟩
theorem SP.outE {e : Addr} {E : Value → Shared → Prop} {D : Ends} {f : Flow} {s' : Shared} (ok : X.Ok) (h : SP ((X.inE e).wish E) pins D f s') : SP X pins D f s' := by
  cases f with
  | next => obtain ⟨σ', H', I, q⟩ := h; exact ⟨σ', H', I.outE ok, q⟩
  | brk => obtain ⟨σ', H', I, q⟩ := h; exact ⟨σ', H', I.outE ok, q⟩
  | cont => obtain ⟨σ', H', I, q⟩ := h; exact ⟨σ', H', I.outE ok, q⟩
  | ret u => obtain ⟨v, σ', H', I, r, q⟩ := h; exact ⟨v, σ', H', I.outE ok, r, q⟩
end
abbrev TH := Ends → Value → Addr → St → Hp → Prop
def PH (X : Cx) (hs : List ExceptHandler) (t : TH) : Prop :=
  ∀ (pins : List (Addr × Obj)) (σ : St) (H H' : Hp) (s s' : Shared) (D : Ends) (cls : Value) (e : Addr), Inv X pins σ H s → Fly X.prog X.w X.stack H s e cls H' s' → t D cls e σ H' →
    wpAny (model X.prog X.w) X.A (handleBy (.ref e) X.env hs) (SP X pins D) X.xe s'
theorem ph_nil {X : Cx} : PH X [] (fun _ _ _ _ _ => False) := fun _ _ _ _ _ _ _ _ _ _ _ h => h.elim
/-- what a try wants of an exception within it -/
def etry (X : Cx) (hs : List ExceptHandler) (pins : List (Addr × Obj)) (D : Ends) : Value → Shared → Prop := fun e s1 =>
  wpAny (model X.prog X.w) X.A (noteFrame e X.env) (fun _ s2 => wpAny (model X.prog X.w) X.A (setFlight e none) (fun _ s3 => wpAny (model X.prog X.w) X.A (handleBy e X.env hs) (SP X pins D) X.xe s3) X.xe s2) X.xe s1
abbrev Cx.tryIn (X : Cx) (hs : List ExceptHandler) (pins : List (Addr × Obj)) (D : Ends) : Cx := { X with pn := X.pn ++ pins, xe := etry X hs pins D }
section
variable {X : Cx} {hs : List ExceptHandler} {pins pins' : List (Addr × Obj)} {D D' : Ends} {σ : St} {H : Hp} {s : Shared}
theorem Cx.Ok.tryIn (ok : X.Ok) : (X.tryIn hs pins D).Ok := ⟨ok.mod, ok.kind, ok.glob, ok.blt, ok.above, ok.inj, ok.has, ok.cab, ok.hd, ok.frames, ok.stk, ok.exf, ok.bs, ok.bsz, ok.noex, ok.exfs, ok.funs, ok.frf⟩
theorem Cx.Ok.tryOut (ok : (X.tryIn hs pins D).Ok) : X.Ok := ⟨ok.mod, ok.kind, ok.glob, ok.blt, ok.above, ok.inj, ok.has, ok.cab, ok.hd, ok.frames, ok.stk, ok.exf, ok.bs, ok.bsz, ok.noex, ok.exfs, ok.funs, ok.frf⟩
theorem Inv.tryIn (I : Inv X pins σ H s) : Inv (X.tryIn hs pins D) [] σ H s := ⟨I.ok.tryIn, I.os, I.bare, I.base, I.loc, I.cell, I.free, I.freeC, fun p hp => I.pin p (by simpa using hp), I.hok, I.len⟩
theorem Inv.tryOut (I : Inv (X.tryIn hs pins D) pins' σ H s) : Inv X pins σ H s := ⟨I.ok.tryOut, I.os, I.bare, I.base, I.loc, I.cell, I.free, I.freeC, fun p hp => I.pin p (List.mem_append_left _ hp), I.hok, I.len⟩
theorem SP.tryOut {f : Flow} {s' : Shared} (h : SP (X.tryIn hs pins D') [] D f s') : SP X pins D f s' := by
  cases f with
  | next => obtain ⟨σ', H', I, q⟩ := h; exact ⟨σ', H', I.tryOut, q⟩
  | brk => obtain ⟨σ', H', I, q⟩ := h; exact ⟨σ', H', I.tryOut, q⟩
  | cont => obtain ⟨σ', H', I, q⟩ := h; exact ⟨σ', H', I.tryOut, q⟩
  | ret u => obtain ⟨v, σ', H', I, r, q⟩ := h; exact ⟨v, σ', H', I.tryOut, r, q⟩
end
/-- try: body, except ..: .. -/
theorem ps_try {X : Cx} {body : List Stmt} {h₀ : ExceptHandler} {hs : List ExceptHandler} {pos : Pos} {tb : Ends → TS} (hb : ∀ pins D, PSs (X.tryIn (h₀ :: hs) pins D) body (tb D)) : PS X (.Try body (h₀ :: hs) [] [] pos) (fun D σ H => tb D D σ H) := by
  intro pins s σ H D I h
  refine wpAny_Try_except (wpAny_mono (hb pins D [] s σ H D I.tryIn h) (fun f s1 q => ?_) fun _ _ z => z)
  have q' := SP.tryOut q
  cases f with
  | next => exact wpAny_execs_nil q'
  | brk => exact q'
  | cont => exact q'
  | ret u => exact q'
/-- an exception of a callee within a try comes to its handlers -/
theorem passT {X : Cx} {hs : List ExceptHandler} {pins : List (Addr × Obj)} {D : Ends} {th : TH} (hst : X.stack = X.env :: X.outer) (hfr : X.env.frame = some X.env.locals) (hh : PH X hs th) :
    ∀ (pins' : List (Addr × Obj)) (σ : St) (H : Hp) (s : Shared) (e : Value) (s' : Shared), Inv (X.tryIn hs pins D) pins' σ H s → CX1 X.prog X.w X.stack H s (fun cls _ H' => ∀ x, H' x = none → th D cls x σ H') e s' → (X.tryIn hs pins D).xe e s' := by
  intro pins' σ H s e s' I h
  obtain ⟨x, cls, H', rfl, f, hE⟩ := h
  have I0 : Inv X pins σ H s := I.tryOut
  exact Fly.look f I0 hst hfr fun s'' f2 => hh pins σ H H' s s'' D cls x I0 f2 (hE x f.free)
section
variable {X : Cx} {CX : CXT} {k : Nat} {f C : Addr} {fd : FuncData} {ps : List Str} {sp : Sp} {dvs : List V} {ds : List Value} {E : St → XK} {x m : Str} {p pos apos : Pos} {e o : Expr} {es : List Expr} {ta : TE} {t : TA}
/-- a call whose wish of an exception looks at the state -/
theorem pe_callE (F : FnOk X.prog X.w X.K X.mg X.base CX k f fd ps sp) (hr : Room k X.A) (hg : Gl X x) (hm : X.mg x = some (.ref f)) (hk : PySem.W.keepIn X.K (.ref f) = true) (hb : Binds X.K fd ps ds) (hd : Vals dvs ds)
    (hx : ∀ (pins : List (Addr × Obj)) (σ : St) (H : Hp) (s : Shared) (e : Value) (s' : Shared), Inv X pins σ H s → CX X.stack H s (E σ) e s' → X.xe e s') (ha : PA X (e :: es) t)
    (hdb : (x == ("__debug__" : Str)) = false := by decide) (he : starEach (e :: es) X.env = (false, eval e X.env) :: starEach es X.env := by rfl) (hpl : (backTo pos (starEach es X.env)).any (·.1) = false := by rfl) :
    PE X (.Call (.Name x p) (e :: es) [] pos) (fun σ H Q => t σ H fun vs H1 => sp (vs ++ dvs) H1 Q (E σ)) := by
  intro pins s σ H Q I h
  refine wpAny_Call_Name_kw (ld_glob I hg hm ?_ hdb)
  refine PySem.W.callWith_K (h₀ := X.base) I.ok.mod.kin hk (thn (ha pos pins s σ H _ I h) fun us s1 ⟨vs, H1, I1, r, q⟩ => ⟨I1.kIn, ?_⟩) he hpl
  have r2 : Vals (vs ++ dvs) (us ++ ds) := r.append hd
  have hl : (us ++ ds).length = ps.length := by rw [← r2.length]; exact F.len _ _ _ _ q
  refine wpAny_call (codeAny_mono (F.run X.A X.stack s1 H1 ⟨us, []⟩ (us ++ ds) (vs ++ dvs) Q (E σ) hr I1.env0 (hb s1 us I1.kIn hl) r2 q) fun r s' hq => ?_)
  cases r with
  | error e => exact hx pins σ H1 s1 e s' I1 hq
  | ok fl =>
    cases fl with
    | ret u => exact I1.after hq
    | next => exact False.elim hq
    | brk => exact False.elim hq
    | cont => exact False.elim hq
end
end L2

namespace L2
open PySem PySem.Spec PyProof.Rows
/-! ### f-strings of texts and numbers: a text comes, whichever -/
section
variable {X : Cx} {pos : Pos} {e : Expr} {es : List Expr} {te : TE}
abbrev TJ := St → Hp → (Hp → Prop) → Prop
def PJ (X : Cx) (es : List Expr) (t : TJ) : Prop :=
  ∀ (pins : List (Addr × Obj)) (s : Shared) (σ : St) (H : Hp) (acc : Str) (Z : Hp → Prop), acc.length + 100000 * es.length ≤ sizeLine → Inv X pins σ H s → t σ H Z →
    Joins (model X.prog X.w) X.A X.xe (evalEach es X.env) acc (fun out s1 => out.length ≤ sizeLine ∧ ∃ H1, Inv X pins σ H1 s1 ∧ Z H1) s
theorem pj_nil : PJ X [] (fun _ H Z => Z H) := fun _ _ _ H _ _ hz I h => ⟨Nat.le_trans (Nat.le_add_right _ _) hz, H, I, h⟩
theorem pj_cons {tj : TJ} (he : PE X e te) (hr : PJ X es tj) : PJ X (e :: es) (fun σ H Z => te σ H fun v H1 => ∃ y : Str, v = .str y ∧ y.length ≤ 100000 ∧ tj σ H1 Z) := by
  intro pins s σ H acc Z hz I h
  refine thn (he pins s σ H _ I h) fun u s1 ⟨v, H1, I1, r, y, hv, hy, q⟩ => ?_
  subst hv
  obtain ⟨t, rfl⟩ := r
  have e1 : (acc ++ y).length = acc.length + y.length := by
    show Array.size (acc.cps ++ y.cps) = _
    rw [Array.size_append]
    rfl
  have e2 : (e :: es).length = es.length + 1 := rfl
  rw [e2] at hz
  refine ⟨y, t, rfl, by omega, hr pins s1 σ H1 (acc ++ y) Z (by omega) I1 q⟩
theorem pe_fstr {v1 v2 : Expr} {rest : List Expr} {tj : TJ} (hj : PJ X (v1 :: v2 :: rest) tj) (hl : (v1 :: v2 :: rest).length ≤ 100) :
    PE X (.JoinedStr (v1 :: v2 :: rest) pos) (fun σ H Q => tj σ H fun H1 => ∀ z : Str, z.length ≤ sizeLine → Q (.str z) H1) := by
  intro pins s σ H Q I h
  have hz : Str.empty.length + 100000 * (v1 :: v2 :: rest).length ≤ sizeLine := by
    have e0 : Str.empty.length = 0 := rfl
    rw [sizeLine_eq, e0]
    rw [Nat.zero_add]
    exact Nat.le_trans (Nat.mul_le_mul_left _ hl) (Nat.le_of_ble_eq_true rfl)
  refine wpAny_JoinedStr ?_
  have j := hj pins s σ H Str.empty _ hz I h
  exact joins_mono _ _ (fun out s1 ⟨h1, H1, I1, q⟩ => ⟨h1, .str out, H1, I1.tok _, ⟨_, rfl⟩, q out h1⟩) _ j
where joins_mono {M : Model} {A : Around} {E : Value → Shared → Prop} : ∀ (parts : List (Sem Value)) (acc : Str) {Q Q' : Str → Shared → Prop}, (∀ out s, Q out s → Q' out s) → ∀ s, Joins M A E parts acc Q s → Joins M A E parts acc Q' s
  | [], acc, _, _, hq, s, h => hq _ _ h
  | x :: rest, acc, _, _, hq, s, h => thn (show wpAny _ _ _ _ _ _ from h) fun v s1 ⟨y, t, e1, e2, e3⟩ => ⟨y, t, e1, e2, joins_mono rest (acc ++ y) hq s1 e3⟩
/-- {e}: a text, or a number -/
theorem pe_fv (he : PE X e te) : PE X (.FormattedValue e (-1) none pos) (fun σ H Q => te σ H fun v H1 => (∃ y : Str, v = .str y ∧ y.length ≤ sizeLine ∧ Q (.str y) H1) ∨ ∃ i : Int, v = .int i ∧ i.natAbs.log2 < 1920 ∧ Q (.str (toString i)) H1) := by
  intro pins s σ H Q I h
  refine FormattedValue_plain (thn (he pins s σ H _ I h) fun u s1 ⟨v, H1, I1, r, q⟩ => ?_)
  rcases q with ⟨y, rfl, hy, q⟩ | ⟨i, rfl, hi, q⟩
  · obtain ⟨t, rfl⟩ := r
    exact formatField_str (fun t' tk => ⟨.str y, H1, I1.tok _, ⟨_, rfl⟩, q⟩) hy
  · obtain ⟨t, rfl⟩ := r
    exact formatField_int_small hi ⟨.str _, H1, I1.tok _, ⟨_, rfl⟩, q⟩
end
end L2

namespace L2
open PySem PySem.Spec PyProof.Rows
/-! ### dicts by texts and numbers: dict(d), d.setdefault(k, x), == and != of two dicts with the same pairs -/
section
variable {prog : Program} {w : World} {A : Around} {s : Shared} {E : Value → Shared → Prop} {K : Type} [DecidableEq K] {knd : KeyKind prog w K}
end
section
variable {X : Cx}
theorem valV_nodup {kvs : List (Key × V)} (hn : (kvs.map (·.1)).Nodup) : ∀ p ∈ kvs, valV kvs p.1 = some p.2 := by
  intro p hp
  induction kvs with
  | nil => cases hp
  | cons q r ih =>
    have hn := List.nodup_cons.mp (List.map_cons ▸ hn)
    unfold valV
    rw [List.find?_cons]
    by_cases e : q.1 = p.1
    · have eq : q = p := by
        rcases List.mem_cons.mp hp with z | z
        · exact z.symm
        · exact absurd (List.mem_map.mpr ⟨p, z, e.symm⟩) hn.1
      rw [decide_eq_true e, eq] <;> rfl
    · rw [decide_eq_false e]
      have hp' : p ∈ r := (List.mem_cons.mp hp).resolve_left fun z => e (by rw [z])
      exact ih hn.2 hp'
theorem call_dict_dK : CallR X (.type "dict") (fun xs H Q => ∃ a kvs, xs = [.ref a] ∧ H a = some (.dK kvs) ∧ ∀ l, H l = none → Q (.ref l) (upd H l (.dK kvs))) := by
  intro pins s σ H xs us Q I r h
  obtain ⟨a, kvs, rfl, ha, q⟩ := h
  obtain ⟨u, rfl, ru⟩ := vals1 r
  cases ru
  obtain ⟨z, hd, vs, rel, dd⟩ := dk_of I.hok ha
  refine PySem.kt_call_dict hd dd (by rw [← rel.length]; exact z) fun h' dd' hs => ?_
  have keep : ∀ b o, s.heap.get? b = some o → h'.get? b = some o := fun b o e => (hs.2 b (Nat.ne_of_lt (Heap.lt_size e))).trans (Heap.get?_push_of_some _ e)
  refine ⟨.ref s.heap.objs.size, _, I.laid (o := .dK kvs) (t' := s.toks) keep (Nat.le_refl _) ⟨z, beq_eq_false_iff_ne.mpr (Ne.symm (Nat.ne_of_lt I.big)), vs, rel, dd'⟩, rfl, q _ (I.hok.fresh (Nat.le_refl _))⟩
/-- the pairs of a dict on the heap have keys of their own -/
theorem dK_nodup {pins : List (Addr × Obj)} {σ : St} {H : Hp} {s : Shared} {a : Addr} {kvs : List (Key × V)} (I : Inv X pins σ H s) (e : H a = some (.dK kvs)) : (kvs.map (·.1)).Nodup := by
  obtain ⟨_, _, vs, rel, dd⟩ := dk_of I.hok e
  obtain ⟨_, _, _, _, _, _, _, _, hn⟩ := dd
  have ek : ∀ {l : List (Key × V)} {m : List (Key × Value)}, KV l m → l.map (·.1) = m.map (·.1) := fun {l m} p => by
    unfold KV at p
    induction p with
    | nil => rfl
    | cons h _ ih => rw [List.map_cons, List.map_cons, ih, h.1]
  rw [ek rel]
  exact hn
def rSameD (neg : Bool) : R2 := fun x y H Q => ∃ a b kvs, x = .ref a ∧ y = .ref b ∧ H a = some (.dK kvs) ∧ H b = some (.dK kvs) ∧ (∀ p ∈ kvs, ∃ c, p.2 = .ref c) ∧ Q (.bl (!neg)) H
theorem keq_all {A : Around} {s : Shared} {H : Hp} {kvs : List (Key × V)} {vs us : List (Key × Value)} (r1 : KV kvs us) (hr : ∀ p ∈ kvs, ∃ c, p.2 = .ref c) (hn : (kvs.map (·.1)).Nodup) : ∀ {l : List (Key × V)} {m : List (Key × Value)}, KV l m → (∀ p ∈ l, p ∈ kvs) → PySem.W.KeqHits A s us m true := by
  intro l m p
  unfold KV at p
  induction p with
  | nil => intro _; exact .nil
  | @cons a b as bs h t ih =>
    intro hm
    have ha := hm a List.mem_cons_self
    obtain ⟨c, hc⟩ := hr a ha
    have hv := valV_nodup hn a ha
    have hx := r1.val a.1
    rw [hv, hc] at hx
    obtain ⟨b1, b2⟩ := b
    obtain ⟨e1, e2⟩ := h
    rw [hc] at e2
    have e3 : b2 = Value.ref c := e2
    have e1' : a.1 = b1 := e1
    rw [e1'] at hx
    obtain ⟨y, hy, ry⟩ := RelO.some_of (v := V.ref c) (o := valueAt us b1) hx
    have e4 : y = Value.ref c := ry
    subst e3 e4
    exact PySem.W.KeqHits.hit (e := true) (b := true) hy (SeqAt.EqAt.same _) (ih fun p hp => hm p (List.mem_cons_of_mem _ hp))
theorem op_eqSame (hu : X.A.units + 1 < cLine) : OpR X (compareOp .Eq) (rSameD false) := by
  intro pins s σ H x y v u Q I rx ry h
  obtain ⟨a, b, kvs, rfl, rfl, ha, hb, hr, q⟩ := h
  cases rx
  cases ry
  obtain ⟨za, ka, va, ra, da⟩ := dk_of I.hok ha
  obtain ⟨zb, kb, vb, rb, db⟩ := dk_of I.hok hb
  refine PySem.W.keq_eq ka kb da db (by omega) (fun _ => keq_all (H := H) (vs := va) rb hr (dK_nodup I ha) ra fun p hp => hp) ?_
  rw [← ra.length, ← rb.length, beq_self_eq_true]
  exact ⟨.bl _, H, I, rfl, q⟩
def tDSetd (td ty tx : TE) : TE := fun σ H Q => td σ H fun x H1 => ∃ a, x = .ref a ∧ IsD H1 a ∧ ty σ H1 fun y H2 => tx σ H2 fun z H3 => ∃ kvs k, H3 a = some (.dK kvs) ∧ y = kV k ∧ kvs.length < sizeLine ∧
  ((∃ v, valV kvs k = some v ∧ Q v H3) ∨ (valV kvs k = none ∧ Q z (upd H3 a (.dK (putK kvs k z)))))
end
end L2

namespace L2
open PySem PySem.Spec PyProof.Rows
/-! ### the class of an exception that was caught, isinstance of it -/
/-- what the text's own exception classes are like -/
structure ExcCls (K : PySem.W.Frag) (D : Addr) : Prop where
  is : (match K.lookup D with | some ⟨_, _, .cls _, _⟩ => true | _ => false) = true
  ga : PySem.W.findIn K (.ref D) "__getattribute__" = some (some (.builtin "BaseException.__getattribute__"))
  gh : PySem.W.findIn K (.ref D) "__getattr__" = some none
  cl : PySem.W.findIn K (.ref D) "__class__" = some (some (.builtin "object.__class__"))
  sp : PySem.W.specialIn K (.builtin "object.__class__") "__get__" = some (some (.builtin "getset_descriptor.__get__"))
  tk : PySem.W.takesIn K (.builtin "object.__class__") = some true
  ob : PySem.W.mroIn K D (.type "object") = some true
  be : PySem.W.mroIn K D (.type "BaseException") = some true
section
variable {prog : Program} {w : World} {A : Around} {E : Value → Shared → Prop} {s : Shared} {K : PySem.W.Frag} {x D : Addr}
theorem find_data {M : Model} {h : Heap} {a g : Value} {nm : Str} (X : K.In h) (ha : PySem.W.findIn K (.ref D) nm = some (some a)) (hg : PySem.W.specialIn K a "__get__" = some (some g)) (ht : PySem.W.takesIn K a = some true) :
    PySem.W.Looks M h (Builtin.ObjectAttr.find (.ref x) (.ref D) nm) (.bind g a) := by
  have z1 := PySem.W.looks_findIn (M := M) X ha
  have z2 : PySem.W.Looks M h (Builtin.ObjectAttr.getOf (some a)) (some g) := PySem.W.looks_specialIn X hg
  have z3 := PySem.W.looks_takesIn (M := M) X ht
  have z4 : PySem.W.Looks M h (Builtin.ObjectAttr.dataDescriptor? (some a) (some g)) (some (g, a)) := z3.andThen .now
  exact z1.andThen (z2.andThen (z4.andThen (PySem.W.Looks.tag .now)))
theorem exc_get {tp : Value} {R : Result → Shared → Prop} (X : K.In s.heap) (LT : PySem.W.Looks (model prog w) s.heap (typeOf (.ref x)) (.ref D)) (hm : PySem.W.mroIn K D (.type "object") = some true) (h : R (.ok (.ret (.ref D))) s) :
    codeAny (model prog w) A (.call (.builtin "getset_descriptor.__get__") ⟨[.builtin "object.__class__", .ref x, tp], []⟩) R s := by
  obtain ⟨hh, gs, dr, tt, oss⟩ := s
  have LM := PySem.W.looks_mroIn (M := model prog w) X hm
  refine codeAny_call_builtin PySem.W.KF.slot_gs.plain PySem.W.KF.entry_gs (PySem.W.KF.slot_gs.check _ _ _ _ _ _ _ _ PySem.W.KF.type_class (PySem.W.KF.args_gs _ _ _) ?_)
  unfold Builtin.«getset_descriptor.__get__» Builtin.Getset_descriptor.descrGet
  rw [PySem.W.dga_obj]
  refine wpAny_bind (wpAny_pure ?_)
  unfold Builtin.Getset_descriptor.descrGetter Builtin.Getset_descriptor.descrCheckInstance Builtin.Getset_descriptor.descrNameAndClass isInstance
  simp only [PySem.W.KF.owner_class]
  repeat lk
  refine ⟨Code.quiet_builtin _ (by decide +kernel), codeAny_builtin PySem.W.KF.entry_class ?_⟩
  unfold Builtin.«object.__class__» shownTypeOf
  repeat lk
  exact h
theorem exc_gaCall {tk : Tok} {R : Result → Shared → Prop} (c : ExcCls K D) (X : K.In s.heap) (LT : PySem.W.Looks (model prog w) s.heap (typeOf (.ref x)) (.ref D)) (h : R (.ok (.ret (.ref D))) s) :
    codeAny (model prog w) A (.call (.builtin "BaseException.__getattribute__") ⟨[.ref x, .str "__class__" tk], []⟩) R s := by
  obtain ⟨hh, gs, dr, tt, oss⟩ := s
  have LF := find_data (M := model prog w) (x := x) X c.cl c.sp c.tk
  have LI : PySem.W.Looks (model prog w) hh (isInstance (.ref x) (.type "BaseException")) true := LT.andThen (PySem.W.looks_mroIn (M := model prog w) X c.be)
  have hk : builtinKind "BaseException.__getattribute__" = some Manifest.AttrKind.slot := by decide +kernel
  have hsp : splitId "BaseException.__getattribute__" = some ("BaseException", "__getattribute__") := by decide +kernel
  refine codeAny_call_builtin PySem.F.attr_ValueError.ga.plain PySem.F.entry_bexc_ga ?_
  simp only [checkBuiltinCall, hk, hsp]
  have hargs := PySem.F.args_bexc_ga (.ref x) (.str "__class__" tk)
  refine wpAny_bind (LI.at ?_)
  first
    | (rw [if_neg (by decide)]; refine wpAny_of_eq hargs ?_)
    | refine wpAny_of_eq hargs ?_
  unfold Builtin.«object.__getattribute__»
  refine wpAny_bind (wpAny_pure (wpAny_bind (wpAny_pure (wpAny_bind (LT.at (wpAny_bind (LF.at ?_)))))))
  show wpAny _ _ (holding [.builtin "object.__class__"] (call (.builtin "getset_descriptor.__get__") [.builtin "object.__class__", .ref x, .ref D]) >>= ret) _ _ _
  exact wpAny_bind (wpAny_holding (wpAny_call (exc_get X LT c.ob (wpAny_pure h))))
theorem exc_class {Q : Option Value → Shared → Prop} (c : ExcCls K D) (X : K.In s.heap) (LT : PySem.W.Looks (model prog w) s.heap (typeOf (.ref x)) (.ref D)) (h : Q (some (.ref D)) { s with toks := s.toks + 1 }) :
    wpAny (model prog w) A (getAttr? (.ref x) "__class__") Q E s := by
  obtain ⟨hh, gs, dr, tt, oss⟩ := s
  have LG := PySem.W.looks_findIn (M := model prog w) X c.ga
  have LH := PySem.W.looks_findIn (M := model prog w) X c.gh
  have hb := PySem.F.attr_ValueError.ga.bind (.ref x)
  unfold getAttr? getAttrBy? getAttrBy
  refine wpAny_bind (wpAny_mkText (wpAny_bind (wpAny_attempt (wpAny_holding (wpAny_bind (LT.at (wpAny_bind (LG.at ?_))))))))
  show wpAny _ _ (getAttrByItsOwn _ _ _ _ _ _) _ _ _
  unfold getAttrByItsOwn hookBefore
  refine wpAny_bind (LH.at ?_)
  refine wpAny_bind (wpAny_attempt (wpAny_holding ?_))
  show wpAny _ _ (boundAndCalled _ _ _) _ _ _
  unfold boundAndCalled
  refine wpAny_bind (wpAny_of_eq hb ?_)
  show wpAny _ _ (call (.builtin "BaseException.__getattribute__") [.ref x, .str "__class__" tt]) _ _ _
  refine wpAny_call (exc_gaCall (s := ⟨hh, gs, dr, tt + 1, oss⟩) c X LT ?_)
  refine PySem.W.handed_on rfl ?_
  exact wpAny_pure h
def excAt (x : Addr) (cls : Value) (h : Heap) : Prop := ∃ o, h.get? x = some o ∧ o.cls = cls
theorem excAt_ty {cls : Value} (M : Model) (h : Heap) (p : excAt x cls h) : PySem.W.Looks M h (typeOf (.ref x)) cls := by
  obtain ⟨o, h1, h2⟩ := p
  rw [← h2]
  exact (PySem.W.Looks.ld h1).andThen .now
theorem kitx_exc (c : ExcCls K D) : PySem.W.KitX K (.ref x) (.ref D) (excAt x (.ref D)) where
  ty := fun M h _ p => excAt_ty M h p
  it := fun _ _ X _ => by
    have q := c.is
    split at q
    · rename_i ho
      intro A' Q' E' s' k z
      unfold isType loadHead
      exact wpAny_bind (wpAny_loadPart (k _ _ (X _ _ ho)) (wpAny_pure z))
    · cases q
  ne := fun _ t _ _ _ _ X ht => by
    cases hb : (Value.ref D == Value.ref t) with
    | false => rfl
    | true =>
      obtain rfl : D = t := Value.ref.inj (beq_iff_eq.mp hb)
      have q := c.is
      split at q
      · next ho => exact nomatch (X _ _ ho).symm.trans ht
      · cases q
  ca := fun X p k => exc_class c X (excAt_ty _ _ p) k
end
section
variable {X : Cx}
/-- isinstance(e, C) of a caught exception -/
theorem call_isiX {D : Addr} (c : ExcCls X.K D) : CallR X (.builtin "isinstance") (fun xs H Q => ∃ e y u b, xs = [.ref e, y] ∧ RelV y u ∧ (∀ u', RelV y u' → u' = u) ∧ H e = some (.ext (excAt e (.ref D))) ∧ PySem.W.kitOne X.K (.ref D) u = some b ∧ Q (.bl b) H) := by
  intro pins s σ H xs us Q I rv h
  obtain ⟨e, y, u, b, rfl, _, hu, he, hk, q⟩ := h
  obtain ⟨u1, u2, rfl, r1, r2⟩ := rv.two
  cases r1
  rw [hu u2 r2]
  obtain ⟨p, _, _⟩ := (show ObjOk X.prog X.w H s.heap e (.ext (excAt e (.ref D))) from I.hok e _ he)
  exact PySem.W.kia_one (kitx_exc c) I.kIn p hk (fun z => nomatch z) fun tk => ⟨.bl b, H, I.tok _, rfl, q⟩
end
/-! ### except .. as n -/
section
variable {X : Cx} {pins : List (Addr × Obj)} {σ : St} {H H' : Hp} {s s' : Shared} {x : Addr} {cls : Value}
theorem Fly.new (I : Inv X pins σ H s) (f : Fly X.prog X.w X.stack H s x cls H' s') : s.heap.get? x = none := by
  cases e : s.heap.get? x with
  | none => rfl
  | some o =>
    obtain ⟨B, a0, fl, c1, c2⟩ := f.fl
    by_cases hb : x ∈ frs X.stack
    · obtain ⟨_, of, ho, hnf⟩ := fl.2.2.1.mem hb
      obtain ⟨oe, vs, hoe, _, hd, _⟩ := fl.first
      rw [ho] at hoe
      cases hoe
      exact absurd hd (hnf vs)
    · obtain ⟨u, hu⟩ := c2 x o e hb
      have := fl.2.1
      rw [hu] at this
      cases this
/-- what was not tracked, and is not the callers', is tracked from here on -/
theorem Inv.track {o : HO} (I : Inv X pins σ H s) (hn : X.s₀.heap.get? x = none) (hl : x ≠ X.env.locals) (hc : ∀ y c, X.env.cells.lookup y = some c → c ≠ x) (hp : ∀ p ∈ X.pn ++ pins, p.1 ≠ x) (hx : H x = none) (ho : ObjOk X.prog X.w (upd H x o) s.heap x o) :
    Inv X pins σ (upd H x o) s := by
  have ne : ∀ b u, H b = some u → b ≠ x := fun b u e z => by rw [z, hx] at e; cases e
  have old : ∀ b ob, X.s₀.heap.get? b = some ob → b ≠ x := fun b ob e z => by rw [z, hn] at e; cases e
  refine ⟨I.ok, I.os, I.bare, ⟨I.base.keep, I.base.slot, fun b ob e n hb => by rw [upd_ne (old b ob e)]; exact I.base.free b ob e n hb, I.base.there, fun b xs e => ?_, fun b ob u e => ?_, fun b ps e => ?_⟩, I.loc, I.cell, by rw [upd_ne (Ne.symm hl)]; exact I.free, fun y c e => by rw [upd_ne (hc y c e)]; exact I.freeC y c e, fun p hpp => ?_, fun b u e => ?_, I.len⟩
  · have z := I.base.tups b xs e
    rw [upd_ne (ne _ _ z)]
    exact z
  · have z := I.base.frzs b ob u e
    rw [upd_ne (ne _ _ z)]
    exact z
  · obtain ⟨m, z⟩ := I.base.tbls b ps e
    exact ⟨m, by rw [upd_ne (ne _ _ z)]; exact z⟩
  · obtain ⟨a1, a2, a3, a4, a5⟩ := I.pin p hpp
    exact ⟨a1, by rw [upd_ne (hp p hpp)]; exact a2, a3, a4, a5⟩
  · by_cases eb : b = x
    · subst eb
      rw [upd_same] at e
      cases e
      exact ho
    · rw [upd_ne eb] at e
      refine (I.hok b u e).stay (fun _ _ _ q => q) (fun c q => ?_) fun c xs q => ?_
      · rw [upd_ne (ne _ _ q)]; exact q
      · rw [upd_ne (ne _ _ q)]; exact q
theorem Fly.track (I : Inv X pins σ H s) (hex : X.ex = []) (f : Fly X.prog X.w X.stack H s x cls H' s') : Inv X pins σ (upd H' x (.ext (excAt x cls))) s' := by
  have hn := f.new I
  have I1 := f.inv I
  obtain ⟨ob, hob, hcl⟩ := f.there
  have ne : ∀ b o, s.heap.get? b = some o → b ≠ x := fun b o e z => by rw [z, hn] at e; cases e
  refine I1.track ?_ ?_ ?_ ?_ f.free ⟨⟨ob, hob, hcl⟩, ⟨ob, hob⟩, fun h1 h2 p k => ?_⟩
  · cases e : X.s₀.heap.get? x with
    | none => rfl
    | some o =>
      obtain ⟨o', e1⟩ := I.base.there x o e (by rw [hex]; simp)
      rw [hn] at e1
      cases e1
  · obtain ⟨m, ⟨o, _, _, ho, _⟩, _⟩ := I.loc
    exact (ne _ _ ho).symm
  · intro y c e
    obtain ⟨v, o, ho, _⟩ := I.cell y c e
    exact ne _ _ ho
  · intro p hp
    exact ne _ _ (I.pin p hp).1
  · obtain ⟨o, e1, e2⟩ := p
    exact ⟨o, k o e1, e2⟩
theorem unbind_ok {M : Model} {A : Around} {E : Value → Shared → Prop} {i : Nat} {n : Str} {v : V} {Q : Unit → Shared → Prop} (I : Inv X pins σ H s) (hN : X.N.Nodup) (hi : X.N[i]? = some n) (hk : X.env.scope.names.lookup n = some .local) (hv : σ[i]? = some (some v))
    (h : ∀ s', Inv X pins (σ.set i none) H s' → Q () s') : wpAny M A (unbindName X.env n) Q E s := by
  obtain ⟨m, hn, hl⟩ := id I.loc
  obtain ⟨u, r, lk⟩ := hl i n v hi hv (.inl hk)
  have kk : X.env.kindOf n = some .local := hk
  have hcls : (X.env.scope.kind == .class || (X.env.scope.kind == .module && X.env.locals != X.env.globals)) = false := by rw [I.ok.kind]; rfl
  have hiσ : i < σ.length := by rw [I.len]; exact (List.getElem?_eq_some_iff.mp hi).1
  have cne := I.cne
  have e0 : m n = some u := by
    rcases lk with ⟨_, e⟩ | ⟨k, _⟩
    · exact e
    · rw [kk] at k
      rcases k with z | z <;> cases z
  refine wpAny_unbindName_local kk hn e0 hcls fun h' u' hn' hs => ?_
  obtain ⟨oL, _, _, hoL, _⟩ := id hn
  refine h _ ⟨I.ok, I.os, I.bare, ⟨fun b o e nn hb hx => ?_, fun b o e nn hb hx => ?_, I.base.free, fun b o e hx => ?_, I.base.tups, I.base.frzs, I.base.tbls⟩, ⟨_, hn', fun j y v' e1 e2 e3 => ?_⟩, fun y c e => ?_, I.free, I.freeC, fun p hp => ?_, fun b ob e => ?_, by rw [List.length_set]; exact I.len⟩
  · exact (hs.2 b (Nat.ne_of_lt (Nat.lt_of_lt_of_le (Heap.lt_size e) I.ok.above))).trans (I.base.keep b o e nn hb hx)
  · obtain ⟨sl, e1⟩ := I.base.slot b o e nn hb hx
    exact ⟨sl, (hs.2 b (Nat.ne_of_lt (Nat.lt_of_lt_of_le (Heap.lt_size e) I.ok.above))).trans e1⟩
  · obtain ⟨o', e1⟩ := I.base.there b o e hx
    exact ⟨o', (hs.2 b (Nat.ne_of_lt (Nat.lt_of_lt_of_le (Heap.lt_size e) I.ok.above))).trans e1⟩
  · by_cases hj : j = i
    · subst hj
      rw [List.getElem?_set_self hiσ] at e2
      cases e2
    · rw [List.getElem?_set_ne (Ne.symm hj)] at e2
      obtain ⟨u2, r2, q⟩ := hl j y v' e1 e2 e3
      refine ⟨u2, r2, ?_⟩
      rcases q with ⟨k, e⟩ | ⟨k, c, e, z⟩
      · refine .inl ⟨k, ?_⟩
        have : y ≠ n := fun e => hj (nodup_ix hN e1 (e ▸ hi))
        simp [this, e]
      · exact .inr ⟨k, c, e, z.sameBut hs (cne y c e)⟩
  · obtain ⟨w', z⟩ := I.cell y c e
    exact ⟨w', z.sameBut hs (cne y c e)⟩
  · obtain ⟨e, nn, ne, nf, d⟩ := I.pin p hp
    exact ⟨(hs.2 p.1 ne).trans e, nn, ne, nf, d⟩
  · refine (I.hok b ob e).stay (fun c w' hc q => (hs.2 c ?_).trans q) (fun _ q => q) fun _ _ q => q
    rintro rfl
    rcases hc with rfl | hc
    · rw [I.free] at e; cases e
    · rw [I.free] at hc; cases hc
/-- behind the suite the name is gone -/
def Ends.gone (D : Ends) (i : Nat) : Ends := { nx := fun σ H => D.nx (σ.set i none) H, rt := D.rt, bk := fun σ H => D.bk (σ.set i none) H, ct := fun σ H => D.ct (σ.set i none) H }
theorem gone_ok {A : Around} {E : Value → Shared → Prop} {i : Nat} {n : Str} {pos : Pos} {D : Ends} {f : Flow} (hN : X.N.Nodup) (hi : X.N[i]? = some n) (hk : X.env.scope.names.lookup n = some .local) (h : SP X pins (D.gone i) f s) :
    wpAny (model X.prog X.w) A (do bindName X.env n .none; unbindBehindTheSuite X.env n pos) (fun _ s3 => SP X pins D f s3) E s := by
  have go : ∀ {σ' : St} {H' : Hp} {Z : Shared → Prop}, Inv X pins σ' H' s → (∀ s2, Inv X pins (σ'.set i none) H' s2 → Z s2) →
      wpAny (model X.prog X.w) A (do bindName X.env n .none; unbindBehindTheSuite X.env n pos) (fun _ s3 => Z s3) E s := fun {σ' H' Z} I hz => by
    have hiσ : i < σ'.length := by rw [I.len]; exact (List.getElem?_eq_some_iff.mp hi).1
    refine wpAny_bind (wpAny_bindName (store_ok I hN hi (.inl hk) (v := .non) rfl (fun s1 I1 => ?_) (.inr hk)))
    unfold unbindBehindTheSuite
    refine wpAny_onRaise (unbind_ok I1 hN hi hk (by rw [List.getElem?_set_self hiσ]) fun s2 I2 => ?_)
    rw [List.set_set] at I2
    exact hz s2 I2
  cases f with
  | next => obtain ⟨σ', H', I, q⟩ := h; exact go I fun s2 I2 => ⟨_, H', I2, q⟩
  | brk => obtain ⟨σ', H', I, q⟩ := h; exact go I fun s2 I2 => ⟨_, H', I2, q⟩
  | cont => obtain ⟨σ', H', I, q⟩ := h; exact go I fun s2 I2 => ⟨_, H', I2, q⟩
  | ret u => obtain ⟨v, σ', H', I, r, q⟩ := h; exact go I fun s2 I2 => ⟨v, _, H', I2, r, q⟩
end
/-- except d as n: suite -/
theorem ph_as {X : Cx} {d n : Str} {i : Nat} {vd : Value} {np pos : Pos} {b₀ : Stmt} {suite : List Stmt} {rest : List ExceptHandler} {th : TS} {tr : TH} (hex : X.ex = []) (hN : X.N.Nodup) (hi : X.N[i]? = some n) (hk : X.env.scope.names.lookup n = some .local)
    (hg : Gl X d) (hm : X.mg d = some vd) (hb : ∀ e, PSs (X.inE e).nox (b₀ :: suite) th) (hr : PH X rest tr) (hd : (d == ("__debug__" : Str)) = false := by decide) :
    PH X (.ExceptHandler (some (.Name d np)) (some n) (b₀ :: suite) pos :: rest)
      (fun D cls e σ H => ∃ b, PySem.W.exmOne X.K cls vd = some b ∧ if b = true then th (D.gone i) (σ.set i (some (.ref e))) (upd H e (.ext (excAt e cls))) else tr D cls e σ H) := by
  intro pins σ H H' s s' D cls e I f h
  obtain ⟨b, hx, h⟩ := h
  have I1 := f.inv I
  obtain ⟨ob, hob, hcl⟩ := f.there
  have LT : PySem.W.Looks (model X.prog X.w) s'.heap (typeOf (.ref e)) cls := excAt_ty _ _ ⟨ob, hob, hcl⟩
  refine wpAny_handleBy_cons (codeAny_handlers_test (Calls.Name_function_global I1.ok.kind hg (Calls.loadGlobal_global (by rw [I1.ok.glob]; exact I1.mod.glob.keeps I1.bk) hm ?_) hd)) (by intro q; cases q)
  refine (PySem.W.exm_one I1.kIn LT hx).here ?_
  cases b with
  | false => exact hr pins σ H H' s s' D cls e I f h
  | true =>
    refine codeAny_handlers_suite_as (f.again I fun s2 f2 => ?_)
    have I2 := f2.track I hex
    refine store_ok I2 hN hi (.inl hk) (v := .ref e) rfl (fun s3 I3 => ?_) (.inr hk)
    exact wpAny_mono (hb e pins s3 _ _ (D.gone i) (I3.inE.wish _) h) (fun fl s4 q => gone_ok hN hi hk (SP.outE I1.ok q)) fun _ _ z => False.elim z
end L2

namespace L2
open PySem PySem.Spec PyProof.Rows
/-! ### a def with defaults -/
structure FunD (K : PySem.W.Frag) (x qual : Str) (st : Stmt) (dV : Value) (f : Addr) (fd : FuncData) : Prop where
  ex : ∃ (oc : Value) (od : Option Addr) (kV doc pm : Value) (an : Option Addr) (cdv ct : Value) (osl : Array (Option Value)),
    fd = PySem.W.fnOf x qual (defArgs st) (defBody st) (defScope st) dV kV doc pm an cdv ct ∧ K.lookup f = some ⟨oc, od, .func fd, osl⟩ ∧ PySem.W.codeIn K cdv qual = true
  kp : PySem.W.keepIn K (.ref f) = true
section
variable {P : Program} {w : World} {K : PySem.W.Frag} {mg : Str → Option Value} {base : Heap}
theorem FunD.okX {x qual : Str} {st : Stmt} {dV : Value} {f : Addr} {fd : FuncData} {N ps : List Str} {k : Nat} {sp : Sp} (F : FunD K x qual st dV f fd) (S : FnScope N ps (defScope st)) (len : ∀ vs H Q E, sp vs H Q E → vs.length = ps.length)
    (hbody : ∀ (cdv : Value) (A : Around) (outer : List Env) (s : Shared) (H : Hp) (vs : List V) (Q : VK) (E : XK), Room k (A.deeper (envOfC qual (defScope st) s.heap.objs.size f cdv)) → sp vs H Q E →
      ∃ t, PSs (cxOf (CX1 P w) P w K mg base N qual (defScope st) f cdv A outer s H E) (defBody st) t ∧ t { nx := fun _ H' => Q .non H', rt := Q } (start N vs) H) : FnOk P w K mg base (CX1 P w) (k + 1) f fd ps sp := by
  obtain ⟨oc, od, kV, doc, pm, an, cdv, ct, osl, rfl, lk, hcd⟩ := F.ex
  exact fn_of lk hcd S len fun A outer s H vs Q E hr hsp => hbody cdv A outer s H vs Q E hr hsp
/-- how the arguments bind, the defaults in a tuple of the text's; h: by the items, for each list of arguments -/
theorem FunD.binds {x qual : Str} {st : Stmt} {T : Addr} {f : Addr} {fd : FuncData} {ps : List Str} {oT : Value} {dT : Option Addr} {its : Array Value} {nT : Nat} {sT : Array (Option Value)} {ds : List Value} (F : FunD K x qual st (.ref T) f fd) (lT : K.lookup T = some ⟨oT, dT, .seq its nT, sT⟩)
    (h : ∀ (kV doc pm : Value) (an : Option Addr) (cdv ct : Value) (us : List Value), (us ++ ds).length = ps.length → ∃ k : Option (Array Value) → Sem (List (Str × Value)),
      bindArgs (PySem.W.fnOf x qual (defArgs st) (defBody st) (defScope st) (.ref T) kV doc pm an cdv ct) ⟨us, []⟩ = seqItems? (.ref T) >>= k ∧ k (some its) = pure (ps.zip (us ++ ds))) : Binds K fd ps ds := by
  obtain ⟨oc, od, kV, doc, pm, an, cdv, ct, osl, rfl, lk, hcd⟩ := F.ex
  intro s us kin hl
  obtain ⟨k, h1, h2⟩ := h kV doc pm an cdv ct us hl
  exact BindsTo.of_defaults rfl (kin _ _ lT) rfl h1 h2
end
end L2

/-! x = [.. for .. in ..]: the store stands inside the comprehension's run -/
namespace L2
open PySem PySem.Spec PyProof.Rows
section
variable {X : Cx}
theorem ps_compG {i0 : Nat} {y0 : Str} {py0 spos : Pos} {tg elt iter : Expr} {ifs : List Expr} {own caps : List Str} {κ : List Nat} {sc : Scope} {cl : List (Str × Addr)} {pos : Pos} {wi : TI} {g : TG} {tc : TT} {te : TE} (hN : X.N.Nodup) (hi0 : X.N[i0]? = some y0) (hy0 : Loc X.env.scope y0) (hcalm : X.calm = true) (S : BlkSc X caps sc cl) (hκ : κ.map (fun k => X.N[k]?) = caps.map some)
    (hi : PI X tg iter wi) (hg : ∀ s₀ H₀ C ex, PG (blk X (own ++ caps) sc cl s₀ H₀ C ex) tg g)
    (hc : ∀ s₀ H₀ C ex (pins : List (Addr × Obj)) (s : Shared) (σ : St) (H : Hp) (Q : Bool → Hp → Prop), Inv (blk X (own ++ caps) sc cl s₀ H₀ C ex) pins σ H s → tc σ H Q →
      wpAny (model X.prog X.w) X.A (forIn ifs true fun c r => if r = true then do let ok ← isTrue c (compEnvC sc cl C X.env) (eval c (compEnvC sc cl C X.env)); pure (ForInStep.yield ok) else pure (ForInStep.yield r)) (TP (blk X (own ++ caps) sc cl s₀ H₀ C ex) pins σ Q) (fun _ _ => False) s)
    (he : ∀ s₀ H₀ C ex, PE (blk X (own ++ caps) sc cl s₀ H₀ C ex) elt te)
    (hs : ∀ x, foldedSetIterable iter X.env x = pure x := by intro _; rfl) (hsw : swapsWith (.ListComp elt [⟨tg, iter, ifs, 0⟩] sc pos) (some (.Name y0 py0)) spos.line X.env = pure true := by rfl)
    (hf0 : X.fn y0 = true ∨ X.env.scope.names.lookup y0 = some .local := by first | exact .inl rfl | exact .inr rfl | assumption) :
    PS X (.Assign [.Name y0 py0] (.ListComp elt [⟨tg, iter, ifs, 0⟩] sc pos) spos) (tAsg (tComp own.length κ wi g tc te) (gName i0)) := by
  intro pins s σ H D0 I h
  rw [exec_Assign_Name_used _ _ _ _ hsw]
  refine wpAny_bind (wpAny_standAt (wpAny_bind ?_))
  show wpAny _ X.A (do let _ ← comprehension (.ListComp elt [⟨tg, iter, ifs, 0⟩] sc pos) sc X.env _ (newList []) false (eval iter X.env) (some (assign (.Name y0 py0) X.env))) _ _ s
  refine wpAny_bind (wpAny_mono (wpAny_comprehension_free (use := some (assign (.Name y0 py0) X.env)) (Q := fun _ s' => SP X pins D0 .next s') rfl hs S.clos S.kind S.names (thn (hi pins s σ H _ I h) fun v s1 h1 => thn h1 fun itv s2 h2 => ?_))
    (fun _ s' hq => wpAny_pure (wpAny_pure hq)) fun _ _ e => e)
  obtain ⟨it, fp, tn, J, H2, e, I2, T, st2, f2, W, ⟨m0, w0⟩, turn⟩ := h2
  subst e
  have hfp : ∀ b ∈ fp, b < s2.heap.objs.size := fun b hb => by
    obtain ⟨o, e, _⟩ := T.obj _ _ st2 b hb
    exact Heap.lt_size e
  refine wpAny_newObj_type (wpAny_newFunctionEnv S.nocell (fun y hy => nomatch hy) (fun h₁ hns hsb => ?_) S.kind)
  generalize ehp : s2.heap.push { cls := .type "list", dict := none, data := .seq ([] : List Value).toArray } = hp at hns hsb ⊢
  have hsz : hp.objs.size = s2.heap.objs.size + 1 := by rw [← ehp, Heap.size_push]
  have hDC : s2.heap.objs.size ≠ hp.objs.size := by rw [hsz]; exact Nat.ne_of_lt (Nat.lt_succ_self _)
  have old : ∀ b o, hp.get? b = some o → h₁.get? b = some o := fun b o e => (hsb.2 b (Nat.ne_of_lt (Heap.lt_size e))).trans (Heap.get?_push_of_some _ e)
  have eD : h₁.get? s2.heap.objs.size = some { cls := .type "list", data := .seq ([] : List Value).toArray } := old _ _ (by rw [← ehp]; exact Heap.get?_push_size _ rfl)
  have I0 := Inv.block (own := own) (h₁ := h₁) (tk := s2.toks + ([] : List (Str × Value)).length) S hκ I2 f2 hfp ehp.symm hns old
  have stkD : s2.heap.objs.size ∉ frs X.stack := fun z => (List.mem_cons.mp (I2.stkSub _ z)).elim (Nat.ne_of_gt I2.lt) (I2.nofs (Nat.le_refl _))
  have cellD : ∀ x c, cl.lookup x = some c → c ≠ s2.heap.objs.size := fun x c q => by
    obtain ⟨v, z⟩ := I2.cell x c (S.subc q)
    exact Nat.ne_of_lt z.lt
  have pinD : ∀ p ∈ X.pn ++ pins, p.1 ≠ s2.heap.objs.size := fun p hp => Nat.ne_of_lt (Heap.lt_size (I2.pin p hp).1)
  have stkF : ∀ b ∈ fp, b ∉ frs X.stack := fun b hb z => (List.mem_cons.mp (I2.stkSub _ z)).elim (f2 b hb).2.1 (f2 b hb).2.2.1
  -- the loop
  have loop : codeAny (model X.prog X.w) X.A (.compLoop (.ListComp elt [⟨tg, iter, ifs, 0⟩] sc pos) 0 (.ref it) (.ref s2.heap.objs.size) (compEnvC sc cl hp.objs.size X.env))
      (compPost (model X.prog X.w) X.A X.xe (some (assign (.Name y0 py0) X.env)) (fun _ s' => SP X pins D0 .next s') (.ref s2.heap.objs.size) hp.objs.size) { s2 with heap := h₁, toks := s2.toks + ([] : List (Str × Value)).length } := by
    refine codeAny_loop rfl (fun n s' => ∃ (i : Nat) (ys : List V) (its : List Value) (cap : Nat) (H' : Hp), Inv (blk X (own ++ caps) sc cl { s2 with heap := hp } H2 hp.objs.size (s2.heap.objs.size :: fp)) pins (blkSt own.length κ σ) H' s' ∧ tn i s'.heap ∧ (∀ b ∈ fp, H' b = none) ∧
      s'.heap.get? s2.heap.objs.size = some { cls := .type "list", data := .seq its.toArray cap } ∧ H' s2.heap.objs.size = none ∧ Vals ys its ∧ ys.length ≤ sizeLine ∧ W i n ys H') (fun n s3 hI => ?_) m0
      ⟨0, [], [], 0, H2, I0, T.keep _ _ _ st2 fun b hb o e => old _ _ (by rw [← ehp]; exact Heap.get?_push_of_some _ e), fun b hb => (f2 b hb).1, eD, I2.hok.fresh (Nat.le_refl _), .nil, Nat.zero_le _, w0⟩
    obtain ⟨i, ys, its, cap, H3, I3, st3, fr3, eD3, nD3, rv, hz, w3⟩ := hI
    show wpAny _ X.A ((compTurn (.ListComp elt [⟨tg, iter, ifs, 0⟩] sc pos) 0 (.ref it) (.ref s2.heap.objs.size) (compEnvC sc cl hp.objs.size X.env)).onRaise fun x => do noteFrame x (compEnvC sc cl hp.objs.size X.env); theTreesLotGoes x) _ _ s3
    refine wpAny_noted ?_
    rw [compTurn_list]
    -- the list that grows is pinned
    have I3' : Inv (blk X (own ++ caps) sc cl { s2 with heap := hp } H2 hp.objs.size (s2.heap.objs.size :: fp)) (pins ++ [(s2.heap.objs.size, { cls := .type "list", data := .seq its.toArray cap })]) (blkSt own.length κ σ) H3 s3 := by
      refine I3.pins_of fun p hp => (List.mem_append.mp hp).elim (fun z => I3.pin p (List.mem_append_right _ z)) fun z => ?_
      obtain rfl := List.mem_singleton.mp z
      exact ⟨eD3, nD3, hDC, stkD, fun v q => by cases q⟩
    have fpk : ∀ {H' : Hp}, (∀ b ∈ fp, H' b = none) → ∀ b ∈ fp, FpOk (blk X (own ++ caps) sc cl { s2 with heap := hp } H2 hp.objs.size (s2.heap.objs.size :: fp)) (pins ++ [(s2.heap.objs.size, { cls := .type "list", data := .seq its.toArray cap })]) H' b := fun {H'} hn b hb =>
      ⟨hn b hb, by show b ≠ hp.objs.size; rw [hsz]; exact Nat.ne_of_lt (Nat.lt_succ_of_lt (hfp b hb)), stkF b hb, .inl (List.mem_cons_of_mem _ hb), fun x c q => (f2 b hb).2.2.2.2.1 x c (S.subc q), fun p hp => by
        rw [← List.append_assoc] at hp
        rcases List.mem_append.mp hp with z | z
        · exact (f2 b hb).2.2.2.2.2 p z
        · obtain rfl := List.mem_singleton.mp z
          exact Nat.ne_of_gt (hfp b hb)⟩
    rcases turn i n ys H3 w3 with ⟨stop, fin⟩ | ⟨go, hlt, step⟩
    · refine wpAny_bind (wpAny_standAt (wpAny_bind (thn (T.done (blk X (own ++ caps) sc cl { s2 with heap := hp } H2 hp.objs.size (s2.heap.objs.size :: fp)) rfl rfl rfl hcalm i _ s3 _ H3 _ I3' (fpk fr3) st3 stop) fun r s4 ⟨hr, I4⟩ => ?_)))
      subst hr
      refine wpAny_pure ?_
      obtain ⟨m, hm, _⟩ := I4.loc
      have eD4 := (I4.pin (s2.heap.objs.size, { cls := .type "list", data := .seq its.toArray cap }) (List.mem_append_right _ (List.mem_append_right _ (List.mem_singleton.mpr rfl)))).1
      have I5 : Inv X pins σ (upd H3 s2.heap.objs.size (.lst ys)) { s4 with heap := s4.heap } := Inv.unblock I2 f2 ehp.symm I4 eD4 nD3 rv hz (Heap.SameBut.refl ..)
      have neL : hp.objs.size ≠ X.env.locals := by rw [hsz]; exact Nat.ne_of_gt (Nat.lt_succ_of_lt I2.lt)
      have neC : ∀ x c, X.env.cells.lookup x = some c → c ≠ hp.objs.size := fun x c q => by
        obtain ⟨v, z⟩ := I2.cell x c q
        rw [hsz]
        exact Nat.ne_of_lt (Nat.lt_succ_of_lt z.lt)
      have frC : upd H3 s2.heap.objs.size (.lst ys) hp.objs.size = none := by rw [upd_ne (Ne.symm hDC)]; exact I4.free
      show wpAny (model X.prog X.w) X.A (assign (.Name y0 py0) X.env (.ref s2.heap.objs.size)) _ X.xe s4
      refine wpAny_assign_Name (store_ok2 (v := .ref s2.heap.objs.size) I5 hN hi0 hy0 rfl (fun s5 I6 ⟨a, sb, ha⟩ => ?_) hf0)
      have hCa : hp.objs.size ≠ a := by
        rcases ha with ha | ha
        · rw [ha]; exact neL
        · exact Ne.symm (neC _ _ ha)
      refine ⟨m, hm.sameBut sb hCa, fun h' sb' => ⟨_, _, I6.turned (t' := s5.toks) (fun b o hb e => (sb'.2 b hb).trans e) frC neL (.inr ?_) neC (fun p hp' => ?_), fin _ nD3⟩⟩
      · exact Nat.le_trans I2.sz (by rw [hsz]; exact Nat.le_succ _)
      · have := Heap.lt_size (I2.pin p hp').1
        rw [hsz]
        exact Nat.ne_of_lt (Nat.lt_succ_of_lt this)
    · refine wpAny_bind (wpAny_standAt (wpAny_bind (thn (T.item (blk X (own ++ caps) sc cl { s2 with heap := hp } H2 hp.objs.size (s2.heap.objs.size :: fp)) rfl rfl rfl hcalm i _ s3 _ H3 _ I3' (fpk fr3) st3 go) fun r s4 ⟨u, hr, h4⟩ => ?_)))
      subst hr
      refine wpAny_bind (thn h4 fun _ s5 ⟨x, H5, I5, r5, y5, st5, fr5⟩ => ?_)
      have I5' := I5.pinned (fpk fr5) (T.obj _ _ st5)
      refine wpAny_bind (wpAny_mono (hg _ _ _ _ _ s5 _ H5 x u _ I5' r5 (step x H5 y5)) (fun _ s6 ⟨σ6, H6, I6, eσ, q6⟩ => ?_) fun _ _ z => z.elim)
      refine wpAny_bind (wpAny_mono (hc _ _ _ _ _ s6 σ6 H6 _ I6 q6) (fun ok s7 ⟨H7, I7, q7⟩ => ?_) fun _ _ z => z.elim)
      -- back to the invariant: what was pinned is as it was
      have back : ∀ {s8 : Shared} {H8 : Hp}, Inv (blk X (own ++ caps) sc cl { s2 with heap := hp } H2 hp.objs.size (s2.heap.objs.size :: fp)) ((pins ++ [(s2.heap.objs.size, { cls := .type "list", data := .seq its.toArray cap })]) ++ pinsAt fp s5.heap) σ6 H8 s8 →
          Inv (blk X (own ++ caps) sc cl { s2 with heap := hp } H2 hp.objs.size (s2.heap.objs.size :: fp)) pins (blkSt own.length κ σ) H8 s8 ∧ tn (i + 1) s8.heap ∧ (∀ b ∈ fp, H8 b = none) ∧ s8.heap.get? s2.heap.objs.size = some { cls := .type "list", data := .seq its.toArray cap } ∧ H8 s2.heap.objs.size = none := by
        intro s8 H8 I8
        have pk : ∀ b ∈ fp, ∀ o, s5.heap.get? b = some o → s8.heap.get? b = some o ∧ H8 b = none := fun b hb o e => by
          have z := I8.pin (b, o) (List.mem_append_right _ (List.mem_append_right _ (mem_pinsAt hb e)))
          exact ⟨z.1, z.2.1⟩
        have zD := I8.pin (s2.heap.objs.size, { cls := .type "list", data := .seq its.toArray cap }) (List.mem_append_right _ (List.mem_append_left _ (List.mem_append_right _ (List.mem_singleton.mpr rfl))))
        refine ⟨(I8.pins_of fun p hp => I8.pin p (List.mem_append_right _ (List.mem_append_left _ (List.mem_append_left _ hp)))).weak ?_ fun j v e => ?_, T.keep _ _ _ st5 fun b hb o e => (pk b hb o e).1, fun b hb => ?_, zD.1, zD.2.1⟩
        · exact I3.len.trans I8.len.symm
        · have hge : own.length ≤ j := by
            refine Nat.le_of_not_lt fun q => ?_
            unfold blkSt at e
            rw [List.getElem?_append_left (by rw [List.length_replicate]; exact q), List.getElem?_replicate, if_pos q] at e
            cases e
          have z := congrArg (fun l => l[j - own.length]?) eσ
          simp only [List.getElem?_drop] at z
          rw [show own.length + (j - own.length) = j by omega] at z
          rw [z]
          exact e
        · obtain ⟨o, e, _⟩ := T.obj _ _ st5 b hb
          exact (pk b hb o e).2
      cases ok with
      | false =>
        obtain ⟨m', hm, w7⟩ := (if_neg Bool.false_ne_true) ▸ q7
        obtain ⟨I8, st8, fr8, e8, n8⟩ := back I7
        exact wpAny_pure ⟨rfl, m', hm, i + 1, ys, its, cap, H7, I8, st8, fr8, e8, n8, rv, hz, w7⟩
      | true =>
        have q7' := (if_pos rfl) ▸ q7
        refine wpAny_bind (wpAny_bind (wpAny_mono (he _ _ _ _ _ s7 σ6 H7 _ I7 q7') (fun y s8 ⟨v8, H8, I8, r8, m', hm, w8⟩ => ?_) fun _ _ z => z.elim))
        obtain ⟨I9, st9, fr9, e9, n9⟩ := back I8
        have hl := rv.length
        refine wpAny_bind (wpAny_list_append_plain (items := its.toArray) ⟨cap, e9⟩ (fun h' hl' sb => ?_) (by rw [List.size_toArray, ← hl]; exact hz))
        obtain ⟨cap', e'⟩ := hl'
        refine wpAny_pure (wpAny_pure ⟨rfl, m', hm, i + 1, ys ++ [v8], its ++ [y], cap', H8, ?_, ?_, fr9, ?_, n9, Vals.append rv (.cons r8 .nil), ?_, w8⟩)
        · exact I9.turned (t' := s8.toks) (fun b o hb e => (sb.2 b hb).trans e) n9 hDC (.inl List.mem_cons_self) cellD pinD
        · exact T.keep _ _ _ st9 fun b hb o e => (sb.2 b (Nat.ne_of_lt (hfp b hb))).trans e
        · rw [e']
          congr 3
          simp
        · rw [List.length_append]
          exact hlt
  exact codeAny_compStart_list loop (T.self _ 0 _ _ _ (T.keep _ _ _ st2 fun b hb o e => old _ _ (by rw [← ehp]; exact Heap.get?_push_of_some _ e)) loop)
theorem ps_comp {i0 : Nat} {y0 : Str} {py0 spos : Pos} {tg elt iter : Expr} {own caps : List Str} {κ : List Nat} {sc : Scope} {cl : List (Str × Addr)} {pos : Pos} {wi : TI} {g : TG} {te : TE} (hN : X.N.Nodup) (hi0 : X.N[i0]? = some y0) (hy0 : Loc X.env.scope y0) (hcalm : X.calm = true) (S : BlkSc X caps sc cl) (hκ : κ.map (fun k => X.N[k]?) = caps.map some)
    (hi : PI X tg iter wi) (hg : ∀ s₀ H₀ C ex, PG (blk X (own ++ caps) sc cl s₀ H₀ C ex) tg g) (he : ∀ s₀ H₀ C ex, PE (blk X (own ++ caps) sc cl s₀ H₀ C ex) elt te)
    (hs : ∀ x, foldedSetIterable iter X.env x = pure x := by intro _; rfl) (hsw : swapsWith (.ListComp elt [⟨tg, iter, [], 0⟩] sc pos) (some (.Name y0 py0)) spos.line X.env = pure true := by rfl)
    (hf0 : X.fn y0 = true ∨ X.env.scope.names.lookup y0 = some .local := by first | exact .inl rfl | exact .inr rfl | assumption) :
    PS X (.Assign [.Name y0 py0] (.ListComp elt [⟨tg, iter, [], 0⟩] sc pos) spos) (tAsg (tComp own.length κ wi g tYes te) (gName i0)) :=
  ps_compG hN hi0 hy0 hcalm S hκ hi hg (fun s₀ H₀ C ex pins s σ H Q I h => wpAny_tests_nil ⟨H, I, h⟩) he hs hsw hf0
end
end L2

namespace L2
open PySem PySem.Spec PyProof.Rows
/-! ### reversed(list), enumerate(tuple) walked by a loop -/
section
variable {X : Cx} {pins : List (Addr × Obj)} {σ : St} {H : Hp} {s : Shared} {h' : Heap}
/-- two records of ours have turned, a new object is laid and tracked -/
theorem Inv.turned2 {t' : Nat} {e j p : Addr} {o : HO} (I : Inv X pins σ H s) (k : ∀ b ob, b ≠ e → b ≠ j → s.heap.get? b = some ob → h'.get? b = some ob) (fe : FpOk X pins H e) (fj : FpOk X pins H j) (hp : s.heap.objs.size ≤ p)
    (new : ObjOk X.prog X.w (upd H p o) h' p o) : Inv X pins σ (upd H p o) { s with heap := h', toks := t' } := by
  have hn : H p = none := I.hok.fresh hp
  have nn : ∀ b u, H b = some u → b ≠ e ∧ b ≠ j := fun b u q => ⟨fun z => (by rw [z, fe.1] at q; cases q), fun z => (by rw [z, fj.1] at q; cases q)⟩
  have nc : ∀ b, b ∉ [e, j] → b ≠ e ∧ b ≠ j := fun b hb => ⟨fun z => hb (by simp [z]), fun z => hb (by simp [z])⟩
  have lt : ∀ b ob, s.heap.get? b = some ob → b ≠ p := fun b ob q z => absurd (Nat.lt_of_lt_of_le (Heap.lt_size q) (by rw [z]; exact hp)) (Nat.lt_irrefl _)
  refine I.step (g' := s.gens) (d' := s.drawn) (ch := [e, j]) (fun b hb => ?_) (fun b ob _ _ hc q _ => k b ob (nc b hc).1 (nc b hc).2 q) (fun b ob _ _ hc q _ => ⟨ob.slots, k b ob (nc b hc).1 (nc b hc).2 q⟩) (fun b ob hc q n => by rw [upd_ne (lt b ob q)]; exact n)
    (fun b ob hc q => ⟨ob, k b ob (nc b hc).1 (nc b hc).2 q⟩) (fun b xs q => by rw [upd_ne (ne_of_none q hn)]; exact q) (fun b ob u q => by rw [upd_ne (ne_of_none q hn)]; exact q) (fun b ps q => ⟨#[], by rw [upd_ne (ne_of_none q hn), q]; simp⟩) (fun m hm => ?_) (fun b u q => ?_) I.bare
  · rcases List.mem_cons.mp hb with rfl | hb
    · exact ⟨fe.2.2.2.1, fe.2.1, fe.2.2.2.2.1, fe.2.2.2.2.2⟩
    · obtain rfl := List.mem_singleton.mp hb
      exact ⟨fj.2.2.2.1, fj.2.1, fj.2.2.2.2.1, fj.2.2.2.2.2⟩
  · obtain ⟨ob, es, ep, q, r⟩ := hm
    exact ⟨ob, es, ep, k _ ob (Ne.symm fe.2.1) (Ne.symm fj.2.1) q, r⟩
  · by_cases hb : b = p
    · subst hb
      rw [upd_same] at q
      cases q
      exact new
    · rw [upd_ne hb] at q
      refine (I.hok b u q).stay (fun c v hc z => ?_) (fun c z => by rw [upd_ne (ne_of_none z hn)]; exact z) fun c xs z => by rw [upd_ne (ne_of_none z hn)]; exact z
      rcases hc with hc | hc
      · rw [hc] at z ⊢
        exact k b v (nn b u q).1 (nn b u q).2 z
      · exact k c v (nn c _ hc).1 (nn c _ hc).2 z
end
/-- the items of the list at a, n of them, from the last to the first -/
def Itv (K : PySem.W.Frag) (a : Addr) (n : Nat) : It :=
  ⟨fun i H => ∃ xs x, SqL K H a xs ∧ xs.length = n ∧ i < n ∧ xs[n - 1 - i]? = some x, fun i H x H' => H' = H ∧ ∀ xs, SqL K H a xs → xs[n - 1 - i]? = some x, fun i _ => i = n⟩
section
variable {X : Cx} {tg : Expr}
def iRev (K : PySem.W.Frag) (ta : TA) : TI := fun σ H R => ta σ H fun vs H1 => ∃ a xs, vs = [.ref a] ∧ SqL K H1 a xs ∧ R (Itv K a xs.length) H1
end
/-! enumerate of a tuple: the library has it of lists and texts -/
section
variable {prog : Program} {w : World} {A : Around} {E : Value → Shared → Prop} {s : Shared}
open AutoSeq1 (wpAny_loadPart') in
end
/-- (0, first), (1, second) .. of the tuple at t: each a new tuple -/
def Iten (K : PySem.W.Frag) (t : Addr) : It :=
  ⟨fun i H => ∃ xs x, SqT K H t xs ∧ xs[i]? = some x, fun i H x H' => ∃ p y, H p = none ∧ x = .ref p ∧ H' = upd H p (.tup [.int i, y]) ∧ ∀ xs, SqT K H t xs → xs[i]? = some y, fun i H => ∃ xs, SqT K H t xs ∧ xs.length ≤ i⟩
section
variable {X : Cx}
def iEnT (K : PySem.W.Frag) (ta : TA) : TI := fun σ H R => ta σ H fun vs H1 => ∃ a xs, vs = [.ref a] ∧ SqT K H1 a xs ∧ R (Iten K a) H1
end
end L2

/-! ### list(d.items()): the pairs of a dict by texts and numbers, each a new tuple -/
namespace L2
open PySem PySem.Spec PyProof.Rows
theorem key_rel {P : Program} {w : World} {k : Key} {u : Value} (h : (mixKind P w).is k u = true) : RelV (kV k) u := by
  rw [mixKind_is] at h
  rcases keyIs_shape h with ⟨i, t, rfl, rfl⟩ | ⟨x, t, rfl, rfl⟩
  · exact ⟨t, rfl⟩
  · exact ⟨t, rfl⟩
section
variable {X : Cx} {pins : List (Addr × Obj)} {σ : St} {H H' : Hp} {s : Shared} {h' : Heap}
/-- many objects laid at once -/
theorem Inv.laids {t' : Nat} (I : Inv X pins σ H s) (k : ∀ b u, s.heap.get? b = some u → h'.get? b = some u) (old : ∀ b, b < s.heap.objs.size → H' b = H b)
    (new : ∀ b u, s.heap.objs.size ≤ b → H' b = some u → ObjOk X.prog X.w H' h' b u) : Inv X pins σ H' { s with heap := h', toks := t' } := by
  have lt : ∀ b u, H b = some u → b < s.heap.objs.size := fun b u q => Nat.lt_of_not_le fun z => by rw [I.hok.fresh z] at q; cases q
  refine I.step (g' := s.gens) (d' := s.drawn) (ch := []) (fun _ z => nomatch z) (fun b ob _ _ _ q _ => k b ob q) (fun b ob _ _ _ q _ => ⟨ob.slots, k b ob q⟩) (fun b ob _ q n => by rw [old b (Heap.lt_size q)]; exact n)
    (fun b ob _ q => ⟨ob, k b ob q⟩) (fun b xs q => by rw [old b (lt _ _ q)]; exact q) (fun b ob u q => by rw [old b (lt _ _ q)]; exact q) (fun b ps q => ⟨#[], by rw [old b (lt _ _ q), q]; simp⟩) (fun m hm => ?_) (fun b u q => ?_) I.bare
  · obtain ⟨ob, es, ep, q, r⟩ := hm
    exact ⟨ob, es, ep, k _ ob q, r⟩
  · by_cases hb : b < s.heap.objs.size
    · rw [old b hb] at q
      exact (I.hok b u q).stay (fun c v _ z => k c v z) (fun c z => by rw [old c (lt _ _ z)]; exact z) fun c xs z => by rw [old c (lt _ _ z)]; exact z
    · exact new b u (Nat.le_of_not_lt hb) q
end
/-- tuples laid at the addresses -/
def layT (H : Hp) : List Addr → List (Key × V) → Hp
  | a :: as, p :: ps => upd (layT H as ps) a (.tup [kV p.1, p.2])
  | _, _ => H
theorem layT_old {H : Hp} {b : Addr} : ∀ {as : List Addr} {ps : List (Key × V)}, b ∉ as → layT H as ps b = H b
  | [], _, _ => rfl
  | _ :: _, [], _ => rfl
  | a :: as, p :: ps, h => by
    show upd (layT H as ps) a _ b = H b
    rw [upd_ne (fun e => h (by rw [e]; exact List.mem_cons_self))]
    exact layT_old fun z => h (List.mem_cons_of_mem _ z)
theorem layT_at {H : Hp} : ∀ {as : List Addr} {ps : List (Key × V)} {b : Addr} {u : HO}, b ∈ as → as.length = ps.length → layT H as ps b = some u → ∃ (j : Nat) (p : Key × V), as[j]? = some b ∧ ps[j]? = some p ∧ u = .tup [kV p.1, p.2]
  | [], _, _, _, h, _, _ => nomatch h
  | _ :: _, [], _, _, _, h, _ => nomatch h
  | a :: as, p :: ps, b, u, hb, hl, h => by
    by_cases e : b = a
    · subst e
      have h' : upd (layT H as ps) b (.tup [kV p.1, p.2]) b = some u := h
      rw [upd_same] at h'
      cases h'
      exact ⟨0, p, rfl, rfl, rfl⟩
    · have h' : upd (layT H as ps) a (.tup [kV p.1, p.2]) b = some u := h
      rw [upd_ne e] at h'
      have hb' : b ∈ as := (List.mem_cons.mp hb).resolve_left e
      obtain ⟨j, p', h1, h2, h3⟩ := layT_at hb' (Nat.succ.inj hl) h'
      exact ⟨j + 1, p', h1, h2, h3⟩
theorem layT_pairs {H : Hp} : ∀ {as : List Addr} {ps : List (Key × V)}, as.Pairwise (· < ·) → as.length = ps.length → Paired (fun (p : Key × V) (k : Addr) => layT H as ps k = some (.tup [kV p.1, p.2])) ps as
  | [], [], _, _ => .nil
  | _ :: _, [], _, h => nomatch h
  | [], _ :: _, _, h => nomatch h
  | a :: as, p :: ps, hr, hl => by
    cases hr with
    | cons h1 h2 =>
    refine .cons upd_same ?_
    have ih := layT_pairs (H := H) h2 (Nat.succ.inj hl)
    have go : ∀ {qs : List (Key × V)} {bs : List Addr}, (∀ b ∈ bs, a < b) → Paired (fun (p : Key × V) (k : Addr) => layT H as ps k = some (.tup [kV p.1, p.2])) qs bs → Paired (fun (q : Key × V) (k : Addr) => layT H (a :: as) (p :: ps) k = some (.tup [kV q.1, q.2])) qs bs := fun {qs bs} hb z => by
      induction z with
      | nil => exact .nil
      | @cons x y xs ys e _ ih =>
        refine .cons ?_ (ih fun b hb' => hb b (List.mem_cons_of_mem _ hb'))
        show upd (layT H as ps) a _ y = _
        rw [upd_ne (Nat.ne_of_gt (hb y List.mem_cons_self))]
        exact e
    exact go h1 ih
theorem pair_get {α β : Type} {F : α → β → Prop} : ∀ {as : List α} {bs : List β}, Paired F as bs → ∀ {j : Nat} {a : α}, as[j]? = some a → ∃ b, bs[j]? = some b ∧ F a b
  | _, _, .nil, j, a, h => by simp at h
  | _, _, .cons x t, 0, a, h => by
    simp at h
    subst h
    exact ⟨_, rfl, x⟩
  | _, _, .cons x t, j + 1, a, h => by
    simp at h
    obtain ⟨b, hb, r⟩ := pair_get t h
    exact ⟨b, by simpa using hb, r⟩
/-- the view d.items() at v -/
def itemsAt (v d : Addr) (h : Heap) : Prop := h.IsItemsView v d
section
variable {X : Cx}
def rItems : V → List V → Hp → VK → Prop := fun x vs H Q => ∃ d kvs, x = .ref d ∧ vs = [] ∧ H d = some (.dK kvs) ∧ ∀ v, H v = none → Q (.ref v) (upd H v (.ext (itemsAt v d)))
theorem mt_items : MtR X "dict.items" rItems := by
  intro pins s σ H x vs v us Q I rx rv h
  obtain ⟨d, kvs, rfl, rfl, hd, q⟩ := h
  cases rx
  cases rv
  obtain ⟨z, hs, ys, rel, dd⟩ := dk_of I.hok hd
  refine call_meetsIn PySem.F.slot_dict_items dd.typeIs PySem.F.entry_dict_items (PySem.F.args_dict_items_1 _) (meets_dict_items (mixKind X.prog X.w) d hs) ⟨⟨ys, dd⟩, ?_⟩
  have hv : (s.heap.push { cls := .type "dict_items", data := .fields #[.ref d] }).IsItemsView s.heap.objs.size d := ⟨_, Heap.get?_push_size _ rfl, rfl, rfl⟩
  refine ⟨.ref s.heap.objs.size, _, I.laid (t' := s.toks) (o := .ext (itemsAt s.heap.objs.size d)) (fun b o e => Heap.get?_push_of_some _ e) (Nat.le_refl _) ⟨hv, ⟨_, Heap.get?_push_size _ rfl⟩, fun h1 h2 p k => ?_⟩, rfl, q _ (I.hok.fresh (Nat.le_refl _))⟩
  obtain ⟨o, ho, r⟩ := p
  exact ⟨o, k o ho, r⟩
/-- list(d.items()) -/
theorem call_list_items (hc : X.calm = true) : CallR X (.type "list") (fun xs H Q => ∃ v d kvs, xs = [.ref v] ∧ H v = some (.ext (itemsAt v d)) ∧ H d = some (.dK kvs) ∧
    ∀ (H2 : Hp) (as : List Addr) (l : Addr), (∀ b u, H b = some u → H2 b = some u) → H l = none → (∀ a ∈ as, H a = none) → H2 l = some (.lst (as.map V.ref)) → Paired (fun (p : Key × V) (k : Addr) => H2 k = some (.tup [kV p.1, p.2])) kvs as → Q (.ref l) H2) := by
  intro pins s σ H xs us Q I r h
  obtain ⟨v, d, kvs, rfl, hv, hd, q⟩ := h
  obtain ⟨u, rfl, ru⟩ := vals1 r
  cases ru
  obtain ⟨z, hs, ys, rel, dd⟩ := dk_of I.hok hd
  obtain ⟨ep, dat⟩ := dd.dictAt
  have hview : s.heap.IsItemsView v d := (I.hok v _ hv).1
  have hl2 : kvs.length = ys.length := rel.length
  refine PySem.W.kdx_call (knd := mixKind X.prog X.w) (I.ok.hd hc) hview dat (by rw [← hl2]; exact z) fun h' tk acc c as hk hS hlen hG hacc => ?_
  have hlen' : as.length = kvs.length := by rw [hlen, hl2]
  have hge : ∀ a ∈ as, s.heap.objs.size ≤ a := fun a ha => Nat.le_of_lt (hG.above a ha)
  have hnS : s.heap.objs.size ∉ as := fun ha => Nat.lt_irrefl _ (hG.above _ ha)
  have vr : ∀ ks : List Addr, Vals (ks.map V.ref) (ks.map Value.ref) := fun ks => by
    induction ks with
    | nil => exact .nil
    | cons k ks ih => exact .cons rfl ih
  have old : ∀ b, b < s.heap.objs.size → upd (layT H as kvs) s.heap.objs.size (.lst (as.map V.ref)) b = H b := fun b hb => by
    rw [upd_ne (Nat.ne_of_lt hb)]
    exact layT_old fun ha => absurd (hge b ha) (Nat.not_le_of_lt hb)
  have I2 : Inv X pins σ (upd (layT H as kvs) s.heap.objs.size (.lst (as.map V.ref))) { s with heap := h', toks := tk } := by
    refine I.laids (t' := tk) hk old fun b u hb hu => ?_
    by_cases e : b = s.heap.objs.size
    · subst e
      rw [upd_same] at hu
      cases hu
      refine ⟨by rw [List.length_map, hlen']; exact z, as.map Value.ref, c, vr as, ?_⟩
      rw [hS, ← hacc]
    · rw [upd_ne e] at hu
      by_cases ha : b ∈ as
      · obtain ⟨j, p, h1, h2, rfl⟩ := layT_at ha hlen' hu
        obtain ⟨key, k, x, h3, h4, h5⟩ := hG.pairs j b h1
        have hp : p.1 = k ∧ RelV p.2 x := by
          have := pair_get rel h2
          obtain ⟨y, hy, e1, e2⟩ := this
          rw [h3] at hy
          cases hy
          exact ⟨e1, e2⟩
        refine ⟨by show 2 ≤ sizeLine; decide, [key, x], .cons (by rw [hp.1]; exact key_rel h4) (.cons hp.2 .nil), _, h5, rfl, _, rfl⟩
      · rw [layT_old ha] at hu
        rw [I.hok.fresh hb] at hu
        cases hu
  refine ⟨.ref s.heap.objs.size, _, I2, rfl, q _ as s.heap.objs.size (fun b u hb => ?_) (I.hok.fresh (Nat.le_refl _)) (fun a ha => I.hok.fresh (hge a ha)) upd_same ?_⟩
  · have lt : b < s.heap.objs.size := Nat.lt_of_not_le fun z => by rw [I.hok.fresh z] at hb; cases hb
    rw [old b lt]
    exact hb
  · have go : ∀ {qs : List (Key × V)} {bs : List Addr}, (∀ b ∈ bs, b ∈ as) → Paired (fun (p : Key × V) (k : Addr) => layT H as kvs k = some (.tup [kV p.1, p.2])) qs bs → Paired (fun (q : Key × V) (k : Addr) => upd (layT H as kvs) s.heap.objs.size (.lst (as.map V.ref)) k = some (.tup [kV q.1, q.2])) qs bs := fun {qs bs} hb z => by
      induction z with
      | nil => exact .nil
      | @cons x y xs ys e _ ih =>
        refine .cons ?_ (ih fun b hb' => hb b (List.mem_cons_of_mem _ hb'))
        rw [upd_ne (fun z => hnS (by rw [← z]; exact hb y List.mem_cons_self))]
        exact e
    exact go (fun _ z => z) (layT_pairs hG.rise hlen')
end
end L2

/-! ### a dict that a loop walks: frozen at its head, thawed behind it -/
namespace L2
open PySem PySem.Spec PyProof.Rows
section
variable {X : Cx} {pins : List (Addr × Obj)} {σ : St} {H : Hp} {s : Shared} {d : Addr} {o : Obj} {u : HO}
theorem Inv.thaw (I : Inv X pins σ H s) (e : H d = some (.frz o u)) (h0 : ∀ o' u', X.H₀ d ≠ some (.frz o' u')) : Inv X pins σ (upd H d u) s := by
  have nd : ∀ b, H b = none → b ≠ d := fun b n z => by rw [z, e] at n; cases n
  have no : ∀ b v, H b = some v → (∀ o u, v ≠ .frz o u) → b ≠ d := fun b v q n z => by rw [z, e] at q; cases q; exact n _ _ rfl
  refine ⟨I.ok, I.os, I.bare, ⟨I.base.keep, I.base.slot, fun b ob q n hx => ?_, I.base.there, fun b xs q => ?_, fun b ob v q => ?_, fun b ps q => ?_⟩, I.loc, I.cell, ?_, fun x c q => ?_, fun p hp => ?_, fun b v q => ?_, I.len⟩
  · have z := I.base.free b ob q n hx
    rw [upd_ne (nd b z)]
    exact z
  · have z := I.base.tups b xs q
    rw [upd_ne (no b _ z (fun _ _ => nofun))]
    exact z
  · have z := I.base.frzs b ob v q
    rw [upd_ne (fun w => h0 ob v (by rw [← w]; exact q))]
    exact z
  · obtain ⟨more, z⟩ := I.base.tbls b ps q
    exact ⟨more, by rw [upd_ne (no b _ z (fun _ _ => nofun))]; exact z⟩
  · rw [upd_ne (nd _ I.free)]
    exact I.free
  · rw [upd_ne (nd _ (I.freeC x c q))]
    exact I.freeC x c q
  · obtain ⟨h1, h2, h3⟩ := I.pin p hp
    exact ⟨h1, by rw [upd_ne (nd _ h2)]; exact h2, h3⟩
  · have own : ∀ a b, H b = some (.own a) → upd H d u b = some (.own a) := fun a b z => by rw [upd_ne (no b _ z (fun _ _ => nofun))]; exact z
    have tup : ∀ b xs, H b = some (.tup xs) → upd H d u b = some (.tup xs) := fun b xs z => by rw [upd_ne (no b _ z (fun _ _ => nofun))]; exact z
    by_cases hb : b = d
    · subst hb
      rw [upd_same] at q
      cases q
      exact (I.hok b _ e).2.stay (fun _ _ _ z => z) (own b) tup
    · rw [upd_ne hb] at q
      exact (I.hok b v q).stay (fun _ _ _ z => z) (own b) tup
end
def thawD (H₀ : Hp) (D : Ends) : Ends where
  nx := fun σ H => ∃ d o u, H d = some (.frz o u) ∧ (∀ o' u', H₀ d ≠ some (.frz o' u')) ∧ D.nx σ (upd H d u)
  rt := fun v H => ∃ d o u, H d = some (.frz o u) ∧ (∀ o' u', H₀ d ≠ some (.frz o' u')) ∧ D.rt v (upd H d u)
  bk := D.bk
  ct := D.ct
/-- a statement whose ends thaw -/
theorem ps_thaw {X : Cx} {st : Stmt} {t : TS} (h : PS X st t) : PS X st (fun D σ H => t (thawD X.H₀ D) σ H) := by
  intro pins s σ H D I q
  refine thn (h pins s σ H _ I q) fun f s1 z => ?_
  cases f with
  | next =>
    obtain ⟨σ', H', I', d, o, u, e, h0, q'⟩ := z
    exact ⟨σ', _, I'.thaw e h0, q'⟩
  | ret v =>
    obtain ⟨σ', x, H', I', r, d, o, u, e, h0, q'⟩ := z
    exact ⟨σ', x, _, I'.thaw e h0, r, q'⟩
  | brk => exact z
  | cont => exact z
/-- the pairs of the dict at d, which is o and stays so -/
def Itd (d : Addr) (o : Obj) (kvs : List (Key × V)) : It :=
  ⟨fun i H => H d = some (.frz o (.dK kvs)) ∧ i < kvs.length, fun i H x H' => ∃ a p, H a = none ∧ x = .ref a ∧ H' = upd H a (.tup [kV p.1, p.2]) ∧ kvs[i]? = some p, fun i H => H d = some (.frz o (.dK kvs)) ∧ kvs.length ≤ i⟩
theorem turn_items {P : Program} {w : World} {K : PySem.W.Frag} {es : List Expr} {k : Nat} {pos : Pos} {d it : Addr} {o : Obj} {kvs : List (Key × V)} {ys : List (Key × Value)} {ep : Nat} (rel : KV kvs ys) (hat : ∀ h : Heap, h.get? d = some o → h.DictAt (mixKind P w) d ys ep) :
    Turn P w K (.Tuple es k pos) (Itd d o kvs) [it] it (fun i h => ∃ ok ov, IsItemIter h it d i ys.length ep ok ov) where
  mem := by simp
  obj := fun i h st b hb => by
    obtain rfl : b = it := by simpa using hb
    obtain ⟨ok, ov, e⟩ := st
    exact ⟨_, e, fun v z => by cases z⟩
  keep := fun i h h' st k => by
    obtain ⟨ok, ov, e⟩ := st
    exact ⟨ok, ov, k it (by simp) _ e⟩
  item := by
    intro X hP hw hK hc i pins s σ H E I hf st hg
    subst hP hw hK
    obtain ⟨ok, ov, st⟩ := st
    obtain ⟨hd, hi⟩ := hg
    have fe := hf it (by simp)
    obtain ⟨f0, f1, f2, f3, f4, f5⟩ := id fe
    have ex : kvs[i]? = some kvs[i] := List.getElem?_eq_getElem hi
    obtain ⟨⟨k1, y⟩, hy, ek, ry⟩ := pair_get rel ex
    replace ek : kvs[i].1 = k1 := ek
    replace ry : RelV kvs[i].2 y := ry
    have lt : it < s.heap.objs.size := Heap.lt_size st
    refine wpAny_pyNext_items_item st (hat _ (I.hok d _ hd).1) hy fun key h1 hkey io t1 hz k1' => ⟨_, rfl, ?_⟩
    refine wpAny_letOwnedTupleGo_items io fun h2 i2 b2 => ?_
    have t2 : h2.get? s.heap.objs.size = some { cls := .type "tuple", data := .seq #[key, y] } := (b2.2 _ (Nat.ne_of_gt lt)).trans t1
    have hn : H s.heap.objs.size = none := I.hok.fresh (Nat.le_refl _)
    have I2 : Inv X pins σ (upd H s.heap.objs.size (.tup [kV kvs[i].1, kvs[i].2])) { s with heap := h2 } :=
      I.turned2 (t' := s.toks) (e := it) (j := it) (fun b ob x1 _ z => (b2.2 b x1).trans (k1' b ob x1 z)) fe fe (Nat.le_refl _) ⟨by show 2 ≤ sizeLine; decide, [key, y], .cons (by rw [ek]; exact key_rel hkey) (.cons ry .nil), _, t2, rfl, _, rfl⟩
    refine ⟨.ref s.heap.objs.size, _, I2, rfl, ⟨_, kvs[i], hn, rfl, rfl, ex⟩, ⟨_, _, i2⟩, fun b hb => ?_⟩
    obtain rfl : b = it := by simpa using hb
    rw [upd_ne (Nat.ne_of_lt lt)]
    exact f0
  done := by
    intro X hP hw hK hc i pins s σ H E I hf st hg
    subst hP hw hK
    obtain ⟨ok, ov, st⟩ := st
    obtain ⟨hd, hi⟩ := hg
    obtain ⟨f0, f1, f2, f3, f4, f5⟩ := hf it (by simp)
    have hl : kvs.length = ys.length := rel.length
    exact wpAny_pyNext_items_end (I.ok.hd hc) st (hat _ (I.hok d _ hd).1) (List.getElem?_eq_none (by omega)) fun h' eb => ⟨rfl, I.turned (t' := s.toks) (fun b o hb q => eb b o hb q) f0 f1 f3 f4 f5⟩
  self := fun _ _ _ _ _ st h => by
    obtain ⟨ok, ov, st⟩ := st
    exact PySem.W.kcp_self st h
section
variable {X : Cx}
def iItems (to : TE) : TI := fun σ H R => to σ H fun x H1 => ∃ d kvs, x = .ref d ∧ H1 d = some (.dK kvs) ∧ ∀ o, R (Itd d o kvs) (upd H1 d (.frz o (.dK kvs)))
theorem pi_items {o : Expr} {to : TE} {es : List Expr} {k : Nat} {tp apos cpos : Pos} (ho : PE X o to) (hbase : attributeBase o "items" X.env (eval o X.env) = eval o X.env := by rfl) (hline : (apos.endLine == cpos.line) = true := by rfl) :
    PI X (.Tuple es k tp) (.Call (.Attribute o "items" apos) [] [] cpos) (iItems to) := by
  intro pins s σ H R I h
  refine wpAny_Call_method0_late hbase hline (thn (ho pins s σ H _ I h) fun v s1 ⟨x, H1, I1, r1, d, kvs, ex, hd, q⟩ => ?_)
  subst ex
  obtain ⟨h1, h2⟩ := tyV_is (T := "dict") I1 r1 (.inr (.inr (.inl ⟨rfl, .inl ⟨kvs, hd⟩⟩)))
  cases r1
  obtain ⟨z, hs, ys, rel, dd⟩ := dk_of I1.hok hd
  refine ⟨"dict", "dict.items", PySem.F.plainAttrs_dict, PySem.F.slot_dict_items, PySem.F.type_dict_items, h1, h2, Calls.callWith_builtin rfl (PySem.evalArgs_none (call_meetsIn PySem.F.slot_dict_items dd.typeIs PySem.F.entry_dict_items (PySem.F.args_dict_items_1 _) (meets_dict_items (mixKind X.prog X.w) d hs) ⟨⟨ys, dd⟩, ?_⟩))⟩
  have hv : (s1.heap.push { cls := .type "dict_items", data := .fields #[.ref d] }).IsItemsView s1.heap.objs.size d := ⟨_, Heap.get?_push_size _ rfl, rfl, rfl⟩
  obtain ⟨ep, ob, en, e1, r1⟩ := dd.dictAt
  have hat : ∀ h : Heap, h.get? d = some ob → h.DictAt (mixKind X.prog X.w) d ys ep := fun h e => ⟨ob, en, e, r1⟩
  refine wpAny_pyIter_items (s := { s1 with heap := s1.heap.push { cls := .type "dict_items", data := .fields #[.ref d] } }) hv (hat _ (Heap.get?_push_of_some _ e1)) ?_
  have hd2 : ((s1.heap.push { cls := .type "dict_items", data := .fields #[.ref d] }).push { cls := .type "dict_itemiterator", data := .fields #[.none, .bool false, .ref d, .int 0 0, .int ys.length 0, .int ep 0, .none, .none] }).get? d = some ob := Heap.get?_push_of_some _ (Heap.get?_push_of_some _ e1)
  have I2 := I1.kept (t' := s1.toks) (h' := (s1.heap.push { cls := .type "dict_items", data := .fields #[.ref d] }).push { cls := .type "dict_itemiterator", data := .fields #[.none, .bool false, .ref d, .int 0 0, .int ys.length 0, .int ep 0, .none, .none] }) fun b u e => Heap.get?_push_of_some _ (Heap.get?_push_of_some _ e)
  have I3 := I2.write (x := d) (e := d) (o := .frz ob (.dK kvs)) (t' := s1.toks) (h' := (s1.heap.push { cls := .type "dict_items", data := .fields #[.ref d] }).push { cls := .type "dict_itemiterator", data := .fields #[.none, .bool false, .ref d, .int 0 0, .int ys.length 0, .int ep 0, .none, .none] }) (by rw [hd]; trivial) (.inl rfl) (fun _ _ _ e => e) ⟨ob, hd2⟩
    ⟨hd2, z, hs, ys, rel, dd.at fun o e => Heap.get?_push_of_some _ (Heap.get?_push_of_some _ e)⟩
  have hn : H1 ((s1.heap.push { cls := .type "dict_items", data := .fields #[.ref d] }).objs.size) = none := I1.hok.fresh (by rw [Heap.size_push]; exact Nat.le_succ _)
  refine ⟨_, [(s1.heap.push { cls := .type "dict_items", data := .fields #[.ref d] }).objs.size], _, _, _, rfl, I3, turn_items rel hat, ⟨_, _, Heap.get?_push_size _ rfl⟩, fun b hb => ?_, q ob⟩
  obtain rfl : b = (s1.heap.push { cls := .type "dict_items", data := .fields #[.ref d] }).objs.size := by simpa using hb
  refine I1.fpOk (by rw [Heap.size_push]; exact Nat.le_succ _) ?_
  rw [upd_ne (fun e => by rw [e, hd] at hn; cases hn)]
  exact hn
end
/-- a loop over d.items(), the dict frozen -/
theorem for_items {d : Addr} {o : Obj} {kvs : List (Key × V)} {g : TG} {tb : TS} {D : Ends} {σ : St} {H : Hp} (Pv : Nat → St → Hp → Prop) (h0 : Pv 0 σ H) (hl : ∀ i σ H, i ≤ kvs.length → Pv i σ H → H d = some (.frz o (.dK kvs)))
    (hs : ∀ i p a σ H, kvs[i]? = some p → H a = none → Pv i σ H → g (.ref a) σ (upd H a (.tup [kV p.1, p.2])) fun σ2 H2 => tb { D with nx := Pv (i + 1), ct := Pv (i + 1), bk := D.nx } σ2 H2) (hd : ∀ σ H, Pv kvs.length σ H → D.nx σ H) :
    ∃ W : Nat → Nat → St → Hp → Prop, (∃ m, W 0 m σ H) ∧ ∀ i m σ H, W i m σ H →
      ((Itd d o kvs).stop i H ∧ D.nx σ H) ∨ ((Itd d o kvs).go i H ∧ ∃ N : St → Hp → Prop, (∀ σ' H', N σ' H' → ∃ m', m' < m ∧ W (i + 1) m' σ' H') ∧ ∀ x H', (Itd d o kvs).yld i H x H' → g x σ H' fun σ2 H2 => tb { D with nx := N, ct := N, bk := D.nx } σ2 H2) := by
  refine ⟨fun i m σ H => m = kvs.length - i ∧ i ≤ kvs.length ∧ Pv i σ H, ⟨kvs.length, by simp, Nat.zero_le _, h0⟩, ?_⟩
  rintro i m σ H ⟨rfl, hi, p⟩
  have q := hl i σ H hi p
  by_cases hlt : i < kvs.length
  · refine .inr ⟨⟨q, hlt⟩, Pv (i + 1), fun σ' H' p' => ⟨kvs.length - (i + 1), by omega, rfl, hlt, p'⟩, fun x H' y => ?_⟩
    obtain ⟨b, z, hb, rfl, rfl, hz⟩ := y
    exact hs i z b σ H hz hb p
  · obtain rfl : i = kvs.length := by omega
    exact .inl ⟨⟨q, Nat.le_refl _⟩, hd σ H p⟩
end L2

/-! ### d.values() walked by a loop -/
namespace L2
open PySem PySem.Spec PyProof.Rows
/-- the values of the dict at d, which is o and stays so -/
def Itw (d : Addr) (o : Obj) (kvs : List (Key × V)) : It :=
  ⟨fun i H => H d = some (.frz o (.dK kvs)) ∧ i < kvs.length, fun i H x H' => H' = H ∧ ∃ p, kvs[i]? = some p ∧ x = p.2, fun i H => H d = some (.frz o (.dK kvs)) ∧ kvs.length ≤ i⟩
theorem turn_values {P : Program} {w : World} {K : PySem.W.Frag} {tg : Expr} {d it : Addr} {o : Obj} {kvs : List (Key × V)} {ys : List (Key × Value)} {ep : Nat} (rel : KV kvs ys) (hat : ∀ h : Heap, h.get? d = some o → h.DictAt (mixKind P w) d ys ep) :
    Turn P w K tg (Itw d o kvs) [it] it (fun i h => h.IsValIter it d i ys.length ep) where
  mem := by simp
  obj := fun i h st b hb => by
    obtain rfl : b = it := by simpa using hb
    obtain ⟨o, e, c, hd⟩ := st
    exact ⟨o, e, fun v z => by rw [hd] at z; cases z⟩
  keep := fun i h h' st k => by
    obtain ⟨o, e, r⟩ := st
    exact ⟨o, k it (by simp) _ e, r⟩
  item := by
    intro X hP hw hK hc i pins s σ H E I hf st hg
    subst hP hw hK
    obtain ⟨hd, hi⟩ := hg
    obtain ⟨f0, f1, f2, f3, f4, f5⟩ := hf it (by simp)
    have ex : kvs[i]? = some kvs[i] := List.getElem?_eq_getElem hi
    obtain ⟨⟨k1, y⟩, hy, ek, ry⟩ := pair_get rel ex
    replace ry : RelV kvs[i].2 y := ry
    refine wpAny_pyNext_values_item st (hat _ (I.hok d _ hd).1) hy fun h' st' sb => ?_
    have I1 : Inv X pins σ H { s with heap := h' } := I.turned (t' := s.toks) (fun b o hb e => (sb.2 b hb).trans e) f0 f1 f3 f4 f5
    obtain ⟨o', e, c, dt⟩ := id st'
    exact ⟨y, rfl, go_of (s := { s with heap := h' }) e c dt (by decide) ⟨kvs[i].2, H, I1, ry, ⟨rfl, _, ex, rfl⟩, st', fun b hb => (hf b hb).1⟩⟩
  done := by
    intro X hP hw hK hc i pins s σ H E I hf st hg
    subst hP hw hK
    obtain ⟨hd, hi⟩ := hg
    obtain ⟨f0, f1, f2, f3, f4, f5⟩ := hf it (by simp)
    have hl : kvs.length = ys.length := rel.length
    exact wpAny_pyNext_values_end (I.ok.hd hc) st (hat _ (I.hok d _ hd).1) (List.getElem?_eq_none (by omega)) fun h' eb => ⟨rfl, I.turned (t' := s.toks) (fun b o hb q => eb b o hb q) f0 f1 f3 f4 f5⟩
  self := fun _ _ _ _ _ st h => wpAny_pyIter_valiter st h
section
variable {X : Cx} {tg : Expr}
def iValues (to : TE) : TI := fun σ H R => to σ H fun x H1 => ∃ d kvs, x = .ref d ∧ H1 d = some (.dK kvs) ∧ ∀ o, R (Itw d o kvs) (upd H1 d (.frz o (.dK kvs)))
theorem pi_values {o : Expr} {to : TE} {apos cpos : Pos} (ho : PE X o to) (hbase : attributeBase o "values" X.env (eval o X.env) = eval o X.env := by rfl) (hline : (apos.endLine == cpos.line) = true := by rfl) :
    PI X tg (.Call (.Attribute o "values" apos) [] [] cpos) (iValues to) := by
  intro pins s σ H R I h
  refine wpAny_Call_method0_late hbase hline (thn (ho pins s σ H _ I h) fun v s1 ⟨x, H1, I1, r1, d, kvs, ex, hd, q⟩ => ?_)
  subst ex
  obtain ⟨h1, h2⟩ := tyV_is (T := "dict") I1 r1 (.inr (.inr (.inl ⟨rfl, .inl ⟨kvs, hd⟩⟩)))
  cases r1
  obtain ⟨z, hs, ys, rel, dd⟩ := dk_of I1.hok hd
  refine ⟨"dict", "dict.values", PySem.F.plainAttrs_dict, PySem.F.slot_dict_values, PySem.F.type_dict_values, h1, h2, Calls.callWith_builtin rfl (PySem.evalArgs_none (call_meetsIn PySem.F.slot_dict_values dd.typeIs PySem.F.entry_dict_values (PySem.F.args_dict_values_1 _) (meets_dict_values (mixKind X.prog X.w) d hs) ⟨⟨ys, dd⟩, ?_⟩))⟩
  have hv : (s1.heap.push { cls := .type "dict_values", data := .fields #[.ref d] }).IsValuesView s1.heap.objs.size d := ⟨_, Heap.get?_push_size _ rfl, rfl, rfl⟩
  obtain ⟨ep, ob, en, e1, r1⟩ := dd.dictAt
  have hat : ∀ h : Heap, h.get? d = some ob → h.DictAt (mixKind X.prog X.w) d ys ep := fun h e => ⟨ob, en, e, r1⟩
  refine wpAny_pyIter_values (s := { s1 with heap := s1.heap.push { cls := .type "dict_values", data := .fields #[.ref d] } }) hv (hat _ (Heap.get?_push_of_some _ e1)) ?_
  have hd2 : ((s1.heap.push { cls := .type "dict_values", data := .fields #[.ref d] }).push { cls := .type "dict_valueiterator", data := .fields #[.ref d, .int 0 0, .int ys.length 0, .int ep 0] }).get? d = some ob := Heap.get?_push_of_some _ (Heap.get?_push_of_some _ e1)
  have I2 := I1.kept (t' := s1.toks) (h' := (s1.heap.push { cls := .type "dict_values", data := .fields #[.ref d] }).push { cls := .type "dict_valueiterator", data := .fields #[.ref d, .int 0 0, .int ys.length 0, .int ep 0] }) fun b u e => Heap.get?_push_of_some _ (Heap.get?_push_of_some _ e)
  have I3 := I2.write (x := d) (e := d) (o := .frz ob (.dK kvs)) (t' := s1.toks) (h' := (s1.heap.push { cls := .type "dict_values", data := .fields #[.ref d] }).push { cls := .type "dict_valueiterator", data := .fields #[.ref d, .int 0 0, .int ys.length 0, .int ep 0] }) (by rw [hd]; trivial) (.inl rfl) (fun _ _ _ e => e) ⟨ob, hd2⟩
    ⟨hd2, z, hs, ys, rel, dd.at fun o e => Heap.get?_push_of_some _ (Heap.get?_push_of_some _ e)⟩
  have hn : H1 ((s1.heap.push { cls := .type "dict_values", data := .fields #[.ref d] }).objs.size) = none := I1.hok.fresh (by rw [Heap.size_push]; exact Nat.le_succ _)
  refine ⟨_, [(s1.heap.push { cls := .type "dict_values", data := .fields #[.ref d] }).objs.size], _, _, _, rfl, I3, turn_values rel hat, ⟨_, Heap.get?_push_size _ rfl, rfl, rfl⟩, fun b hb => ?_, q ob⟩
  obtain rfl : b = (s1.heap.push { cls := .type "dict_values", data := .fields #[.ref d] }).objs.size := by simpa using hb
  refine I1.fpOk (by rw [Heap.size_push]; exact Nat.le_succ _) ?_
  rw [upd_ne (fun e => by rw [e, hd] at hn; cases hn)]
  exact hn
end
/-- a loop over d.values(), the dict frozen -/
theorem for_values {d : Addr} {o : Obj} {kvs : List (Key × V)} {g : TG} {tb : TS} {D : Ends} {σ : St} {H : Hp} (Pv : Nat → St → Hp → Prop) (h0 : Pv 0 σ H) (hl : ∀ i σ H, i ≤ kvs.length → Pv i σ H → H d = some (.frz o (.dK kvs)))
    (hs : ∀ i p σ H, kvs[i]? = some p → Pv i σ H → g p.2 σ H fun σ2 H2 => tb { D with nx := Pv (i + 1), ct := Pv (i + 1), bk := D.nx } σ2 H2) (hd : ∀ σ H, Pv kvs.length σ H → D.nx σ H) :
    ∃ W : Nat → Nat → St → Hp → Prop, (∃ m, W 0 m σ H) ∧ ∀ i m σ H, W i m σ H →
      ((Itw d o kvs).stop i H ∧ D.nx σ H) ∨ ((Itw d o kvs).go i H ∧ ∃ N : St → Hp → Prop, (∀ σ' H', N σ' H' → ∃ m', m' < m ∧ W (i + 1) m' σ' H') ∧ ∀ x H', (Itw d o kvs).yld i H x H' → g x σ H' fun σ2 H2 => tb { D with nx := N, ct := N, bk := D.nx } σ2 H2) := by
  refine ⟨fun i m σ H => m = kvs.length - i ∧ i ≤ kvs.length ∧ Pv i σ H, ⟨kvs.length, by simp, Nat.zero_le _, h0⟩, ?_⟩
  rintro i m σ H ⟨rfl, hi, p⟩
  have q := hl i σ H hi p
  by_cases hlt : i < kvs.length
  · refine .inr ⟨⟨q, hlt⟩, Pv (i + 1), fun σ' H' p' => ⟨kvs.length - (i + 1), by omega, rfl, hlt, p'⟩, fun x H' y => ?_⟩
    obtain ⟨rfl, z, hz, rfl⟩ := y
    exact hs i z σ _ hz p
  · obtain rfl : i = kvs.length := by omega
    exact .inl ⟨⟨q, Nat.le_refl _⟩, hd σ H p⟩
end L2

/-! ### a dict by texts and numbers walked by its keys -/
namespace L2
open PySem PySem.Spec PyProof.Rows
/-- the keys of the dict at d, which is o and stays so -/
def Itk (d : Addr) (o : Obj) (kvs : List (Key × V)) : It :=
  ⟨fun i H => H d = some (.frz o (.dK kvs)) ∧ i < kvs.length, fun i H x H' => H' = H ∧ ∃ p, kvs[i]? = some p ∧ x = kV p.1, fun i H => H d = some (.frz o (.dK kvs)) ∧ kvs.length ≤ i⟩
section
variable {X : Cx} {tg : Expr}
def iKeys (to : TE) : TI := fun σ H R => to σ H fun x H1 => ∃ d kvs, x = .ref d ∧ H1 d = some (.dK kvs) ∧ ∀ o, R (Itk d o kvs) (upd H1 d (.frz o (.dK kvs)))
end
/-- an expression whose end thaws (a comprehension over a dict) -/
theorem pe_thaw {X : Cx} {e : Expr} {t : TE} (h : PE X e t) : PE X e (fun σ H Q => t σ H fun v H' => ∃ d o u, H' d = some (.frz o u) ∧ (∀ o' u', X.H₀ d ≠ some (.frz o' u')) ∧ Q v (upd H' d u)) :=
  fun pins s σ H _ I q => thn (h pins s σ H _ I q) fun _ _ ⟨x, _, I', r, _, _, _, e, h0, q'⟩ => ⟨x, _, I'.thaw e h0, r, q'⟩
end L2

/-! ### a comprehension over a frozen dict; max of a list; isinstance by the type that lies there; a method's call whose wish of an exception looks at the state -/
namespace L2
open PySem PySem.Spec PyProof.Rows
theorem comp_items {d : Addr} {o : Obj} {kvs : List (Key × V)} {n : Nat} {κ : List Nat} {g : TG} {tc : TT} {te : TE} {σ : St} {H : Hp} {Q : VK} (Pv : Nat → List V → Hp → Prop) (h0 : Pv 0 [] H) (hz : kvs.length ≤ sizeLine) (hlen : ∀ i ys H2, Pv i ys H2 → ys.length ≤ i)
    (hl : ∀ i ys H2, Pv i ys H2 → H2 d = some (.frz o (.dK kvs)))
    (hs : ∀ i p a ys H2 (N : List V → Hp → Prop), (∀ ys' H', Pv (i + 1) ys' H' → N ys' H') → kvs[i]? = some p → H2 a = none → Pv i ys H2 → g (.ref a) (blkSt n κ σ) (upd H2 a (.tup [kV p.1, p.2])) fun σ4 H4 => σ4.drop n = (blkSt n κ σ).drop n ∧ tc σ4 H4 fun b H5 => if b = true then te σ4 H5 fun v H6 => N (ys ++ [v]) H6 else N ys H5)
    (hQ : ∀ ys H2 D, Pv kvs.length ys H2 → H2 D = none → Q (.ref D) (upd H2 D (.lst ys))) :
    CompRun n κ g tc te σ (Itd d o kvs) H Q := by
  refine ⟨fun i m ys H2 => m = kvs.length - i ∧ i ≤ kvs.length ∧ Pv i ys H2, ⟨kvs.length, rfl, Nat.zero_le _, h0⟩, ?_⟩
  rintro i m ys H2 ⟨rfl, hi, p⟩
  have hd := hl i ys H2 p
  by_cases hlt : i < kvs.length
  · refine .inr ⟨⟨hd, hlt⟩, Nat.lt_of_le_of_lt (hlen i ys H2 p) (Nat.lt_of_lt_of_le hlt hz), fun x H3 y => ?_⟩
    obtain ⟨a, z, ha, rfl, rfl, hz'⟩ := y
    exact hs i z a ys H2 (fun ys' H' => ∃ m', m' < kvs.length - i ∧ m' = kvs.length - (i + 1) ∧ i + 1 ≤ kvs.length ∧ Pv (i + 1) ys' H') (fun ys' H' p' => ⟨kvs.length - (i + 1), by omega, rfl, hlt, p'⟩) hz' ha p
  · obtain rfl : i = kvs.length := by omega
    exact .inl ⟨⟨hd, Nat.le_refl _⟩, fun D hD => hQ ys H2 D p hD⟩
section
variable {X : Cx}
theorem best_of {val : Nat → Int} : ∀ n : Nat, argBest (fun i j => decide (val i > val j)) n ≤ n ∧ ∀ j, j ≤ n → val j ≤ val (argBest (fun i j => decide (val i > val j)) n)
  | 0 => ⟨Nat.le_refl _, fun j hj => by
    obtain rfl : j = 0 := by omega
    exact Int.le_refl _⟩
  | n + 1 => by
    obtain ⟨h1, h2⟩ := best_of (val := val) n
    have e : argBest (fun i j => decide (val i > val j)) (n + 1) = if decide (val (n + 1) > val (argBest (fun i j => decide (val i > val j)) n)) = true then n + 1 else argBest (fun i j => decide (val i > val j)) n := rfl
    rw [e]
    by_cases c : val (n + 1) > val (argBest (fun i j => decide (val i > val j)) n)
    · rw [if_pos (decide_eq_true c)]
      refine ⟨Nat.le_refl _, fun j hj => ?_⟩
      by_cases ej : j = n + 1
      · rw [ej]; exact Int.le_refl _
      · have := h2 j (by omega)
        omega
    · rw [if_neg (fun z => c (of_decide_eq_true z))]
      refine ⟨by omega, fun j hj => ?_⟩
      by_cases ej : j = n + 1
      · rw [ej]; omega
      · exact h2 j (by omega)
theorem ints_of : ∀ {ns : List Int} {us : List Value}, Vals (ns.map V.int) us → us.length = ns.length ∧ ∀ (i : Nat) (v : Value), us[i]? = some v → ∃ t, v = .int ((ns[i]?).getD 0) t
  | [], _, r => by cases r; exact ⟨rfl, fun i v h => by simp at h⟩
  | n :: ns, _, r => by
    cases r with
    | cons r1 r2 =>
      obtain ⟨t, rfl⟩ := r1
      obtain ⟨h1, h2⟩ := ints_of r2
      refine ⟨by simp [h1], fun i v h => ?_⟩
      cases i with
      | zero =>
        simp at h
        exact ⟨t, h.symm⟩
      | succ i =>
        simp at h
        simpa using h2 i v h
/-- max(l), l a list of numbers, not empty -/
theorem call_maxL (hc : X.calm = true) : CallR X (.builtin "max") (fun xs H Q => ∃ (p : Addr) (ns : List Int), xs = [.ref p] ∧ SqL X.K H p (ns.map V.int) ∧ ns ≠ [] ∧ ∀ M, M ∈ ns → (∀ a ∈ ns, a ≤ M) → Q (.int M) H) := by
  intro pins s σ H xs us Q I r h
  obtain ⟨p, ns, rfl, hq, hne, q⟩ := h
  obtain ⟨u, rfl, rx⟩ := vals1 r
  cases rx
  obtain ⟨its, rv, pl, hz⟩ := I.list hq
  obtain ⟨hl, hi⟩ := ints_of rv
  have hlt : p < s.heap.objs.size := by obtain ⟨_, e, _⟩ := pl.isList; exact Heap.lt_size e
  have hpos : 0 < ns.length := List.length_pos_iff.mpr hne
  refine call_max_walk (wpAny_pyIter_list pl.isList ?_)
  refine ⟨s.heap.objs.size, [s.heap.objs.size, p], [s.heap.objs.size], its.toArray.size, _, _, _, rfl, Walks.list (A := X.A.in1) (I.ok.hd hc) _ p (Nat.ne_of_lt hlt) its.toArray,
    ⟨⟨_, Heap.get?_push_size _ rfl, rfl, rfl⟩, pl.isList.push _⟩, ?_, ?_, CmpOf.ints_gt (fun i => (ns[i]?).getD 0) (fun i v hv => hi i v (by simpa using hv)), fun v h' tk hP hk => ?_⟩
  · intro b hb
    rw [Heap.size_push]
    rcases List.mem_cons.mp hb with e | e
    · rw [e]; exact Nat.lt_succ_self _
    · rw [List.mem_singleton.mp e]; exact Nat.lt_succ_of_lt hlt
  · rw [List.size_toArray, hl]; exact hpos
  · obtain ⟨b1, b2⟩ := best_of (val := fun i => (ns[i]?).getD 0) (its.toArray.size - 1)
    have hP' : its.toArray[argBest (fun i j => decide ((ns[i]?).getD 0 > (ns[j]?).getD 0)) (its.toArray.size - 1)]? = some v := hP
    rw [List.size_toArray, hl] at b1 b2 hP'
    generalize argBest (fun i j => decide ((ns[i]?).getD 0 > (ns[j]?).getD 0)) (ns.length - 1) = z at b1 b2 hP'
    obtain ⟨t, rfl⟩ := hi z v (by simpa using hP')
    have hb : z < ns.length := by omega
    refine ⟨.int _, H, I.kept (LSm.kept_iter hk), ⟨t, rfl⟩, q _ ?_ fun a ha => ?_⟩
    · rw [List.getElem?_eq_getElem hb]
      exact List.getElem_mem hb
    · obtain ⟨j, hj, e⟩ := List.getElem_of_mem ha
      have := b2 j (by omega)
      rw [List.getElem?_eq_getElem hj, e] at this
      exact this
/-- isinstance(x, c), by the type that lies there -/
theorem call_isiT : CallR X (.builtin "isinstance") (fun xs H Q => ∃ x y u t b, xs = [x, y] ∧ (∀ u', RelV y u' → u' = u) ∧ TyOf X.K H x t ∧ PySem.W.kitOne X.K t u = some b ∧ Q (.bl b) H) := by
  intro pins s σ H xs us Q I rv h
  obtain ⟨x, y, u, t, b, rfl, hu, ty, hk, q⟩ := h
  obtain ⟨u1, u2, rfl, r1, r2⟩ := rv.two
  rw [hu u2 r2]
  exact isinst_ok I r1 ty hk fun tk => ⟨.bl b, H, I.tok _, rfl, q⟩
end
end L2
/-! ### rules with the fragment named (within a comprehension's block); a target of two names -/
namespace L2
open PySem PySem.Spec PyProof.Rows
section
variable {X : Cx} {K : PySem.W.Frag}
theorem eqK (h : X.K = K) (hu : X.A.units + 64 < cLine) : OpR X (compareOp .Eq) (rEqD K false) := by subst h; exact op_eqD hu
theorem ixTK (h : X.K = K) : IxR X (rIxT K) := by subst h; exact ix_tup
theorem ixLK (h : X.K = K) : IxR X (rIxL K) := by subst h; exact ix_list
theorem lenK (h : X.K = K) : CallR X (.builtin "len") (fun xs H Q => ∃ p ys, xs = [.ref p] ∧ (SqL K H p ys ∨ SqT K H p ys) ∧ Q (.int ys.length) H) := by subst h; exact call_len_seq
theorem maxK (h : X.K = K) (hc : X.calm = true) : CallR X (.builtin "max") (fun xs H Q => ∃ (p : Addr) (ns : List Int), xs = [.ref p] ∧ SqL K H p (ns.map V.int) ∧ ns ≠ [] ∧ ∀ M, M ∈ ns → (∀ a ∈ ns, a ≤ M) → Q (.int M) H) := by subst h; exact call_maxL hc
theorem listK (h : X.K = K) : CallR X (.type "list") (fun xs H Q => ∃ p ys, xs = [.ref p] ∧ (SqL K H p ys ∨ SqT K H p ys) ∧ ∀ l, H l = none → Q (.ref l) (upd H l (.lst ys))) := by subst h; exact call_list_of
theorem piLK {tg l : Expr} {tl : TE} (h : X.K = K) (hl : PE X l tl) : PI X tg l (iList K tl) := by subst h; exact pi_list hl
/-- t + u, whichever of them is empty: no new tuple then -/
def rCatA (K : PySem.W.Frag) : R2 := fun x y H Q => ∃ a b xs ys, x = .ref a ∧ y = .ref b ∧ SqT K H a xs ∧ SqT K H b ys ∧ ys ≠ [] ∧ xs.length + ys.length ≤ sizeLine ∧
  ∀ p H', Same H H' → SqT K H' p (xs ++ ys) → Q (.ref p) H'
theorem op_catA : OpR X (binaryOp .Add) (rCatA X.K) := by
  intro pins s σ H x y v u Q I rx ry h
  obtain ⟨a, b, xs, ys, rfl, rfl, ha, hb, hy, hz, q⟩ := h
  by_cases hx : xs = []
  · subst hx
    cases rx
    cases ry
    obtain ⟨its, r1, p1, _⟩ := I.tuple ha
    obtain ⟨its2, r2, p2, _⟩ := I.tuple hb
    cases r1
    obtain ⟨o1, e1, c1, n1, d1⟩ := p1
    obtain ⟨o2, e2, c2, n2, d2⟩ := p2
    obtain ⟨oc1, od1, dt1, sl1⟩ := o1
    obtain ⟨oc2, od2, dt2, sl2⟩ := o2
    dsimp only at c1 d1 c2 d2
    subst c1 d1 c2 d2
    exact concat_meets ⟨_, e1, rfl⟩ ⟨_, e2, rfl⟩ noFill_tuple_add seq_tuple_add PySem.F.slot_tuple_add PySem.F.entry_tuple_add (PySem.F.args_tuple_add_2 _ _)
      (tuple_addW0 a b _ its2.toArray n1 n2 od1 od2 sl1 sl2 rfl) ⟨e1, e2, .ref b, H, I, rfl, q b H (fun _ _ e => e) hb⟩
  · refine op_catT pins s σ H _ _ v u Q I rx ry ⟨a, b, xs, ys, rfl, rfl, ha, hb, hx, hz, fun z => absurd z hy, fun _ p hp => q p _ (fun b u e => by rw [upd_ne (ne_of_none e hp)]; exact e) (SqT.of upd_same)⟩
theorem pg_two {i j : Nat} {x y : Str} {k : Nat} {px py pt : Pos} (hK : X.K = K) (hc : X.calm = true) (hN : X.N.Nodup) (hi : X.N[i]? = some x) (hx : Loc X.env.scope x) (hfx : X.fn x = true ∨ X.env.scope.names.lookup x = some .local)
    (hj : X.N[j]? = some y) (hy : Loc X.env.scope y) (hfy : X.fn y = true ∨ X.env.scope.names.lookup y = some .local) : PG X (.Tuple [.Name x px, .Name y py] k pt) (gTup K 2 (gCons (gName i) (gCons (gName j) gNil))) := by
  subst hK
  exact pg_tup hc (pgs_cons (pg_name hN hi hx hfx) (pgs_cons (pg_name hN hj hy hfy) pgs_nil))
end
end L2
/-! ### {(..): v}: a display of one pair whose key is a tuple -/
namespace L2
open PySem PySem.Spec PyProof.Rows
def tDisp1T (tk tv : TE) : TE := fun σ H Q => ∀ p, H p = none → tk σ (upd H p (.dT [])) fun x H1 => tv σ H1 fun y H2 => ∃ b ks, x = .ref b ∧ H2 p = some (.dT []) ∧ H2 b = some (.tup (ks.map kV)) ∧ Q (.ref p) (upd H2 p (.dT (putK [] ks y)))
theorem pe_disp1T {X : Cx} {pos : Pos} {k v : Expr} {tk tv : TE} (hu : X.A.units + 1 < cLine) (hk : PE X k tk) (hv : PE X v tv) : PE X (.Dict [some k] [v] pos) (tDisp1T tk tv) := by
  intro pins s σ H Q I q
  have hn := I.hok.fresh (Nat.le_refl s.heap.objs.size)
  have I1 := I.laid (a := s.heap.objs.size) (o := .dT []) (h' := s.heap.push { cls := .type "dict", data := .dict #[] }) (t' := s.toks) (fun _ _ q => Heap.get?_push_of_some _ q) (Nat.le_refl _) (dt_empty s.heap I.big)
  have h1 := q _ hn
  refine wpAny_Dict_any rfl rfl (by intro z; cases z) (by show 1 ≤ 15; decide) (pairTrees_cons_walk (thn (hk pins _ σ _ _ I1 h1) fun u s1 ⟨x, H1, I2, rx, q1⟩ => thn (hv pins s1 σ H1 _ I2 q1) fun w2 s2 ⟨y, H2, I3, ry, b, ks, ex, ea, eb, q2⟩ => pairTrees_nil_walk ?_))
  subst ex
  cases rx
  obtain ⟨z, hd, xs, rel, dd⟩ := dt_of I3.hok ea
  cases rel
  have room : HeapKind.room (tupleKind (mixKind X.prog X.w)) X.A := (show X.A.units < cLine from Nat.lt_of_succ_lt hu)
  unfold storeAll
  rw [List.forIn_cons]
  refine wpAny_bind (wpAny_bind (wpAny_dictSet_heap (hsz := Nat.zero_le _) room (key_of I3.hok eb) dd fun h' dd' hs => wpAny_pure ?_))
  show wpAny _ _ (forIn [] PUnit.unit _) _ _ _
  rw [List.forIn_nil]
  refine wpAny_pure ⟨.ref s.heap.objs.size, _, ?_, rfl, q2⟩
  obtain ⟨o, es, ep, hq, h2, h3, h4, _, h5⟩ := dd'
  refine d_write I3 (by rw [ea]; exact True.intro) hs ⟨o, hq⟩ ⟨by have := length_putK ([] : List (List Key × V)) ks y; exact Nat.le_trans this (by show 0 + 1 ≤ sizeLine; decide), hd, _, (KT.put (H := H2) (kvs := []) (xs := []) .nil ks eb ry).keeps fun c ys ec => ?_, o, es, ep, hq, h2, h3, h4, h5⟩
  rw [upd_ne (ne_of ec ea (fun z => nomatch z))]
  exact ec
end L2

namespace K25
open PySem L2 Kk
def top (i : Nat) : Stmt := PySem.Challenge.pw_sealhouse_k25_faces_refined.main.body.getD i (.Pass ⟨0, 0, 0, 0⟩)
abbrev sWords : Stmt := top 5
theorem small {n : Nat} (h : n ≤ 1000) : n ≤ sizeLine := Nat.le_of_lt (small1000 h)
theorem same_new {H : Hp} {p : Addr} (h : H p = none) (o : HO) : Same H (upd H p o) := fun b u q => by rw [upd_ne (ne_of_none q h)]; exact q
def sumW (ks : List Kd) : Nat := (ks.map Kd.words).sum
theorem words_pos (k : Kd) : 0 < k.words := by
  have := words_leaves k
  have := leaves_pos k
  omega
theorem sumW_app (a b : List Kd) : sumW (a ++ b) = sumW a + sumW b := by
  unfold sumW
  rw [List.map_append, List.sum_append]
theorem sumW_one (k : Kd) : sumW [k] = k.words := Nat.add_zero _
theorem len_sumW : ∀ ks : List Kd, ks.length ≤ sumW ks
  | [] => Nat.le_refl _
  | k :: ks => by
    have h1 := len_sumW ks
    have h2 := words_pos k
    show ks.length + 1 ≤ k.words + sumW ks
    omega
theorem snoc {K : PySem.W.Frag} {H : Hp} : ∀ {us : List V} {v : V} {ks : List Kd}, KdsAt K H (us ++ [v]) ks → ∃ ls k, ks = ls ++ [k] ∧ KdsAt K H us ls ∧ KdAt K H v k
  | [], v, _, .cons a .nil => ⟨[], _, rfl, .nil, a⟩
  | u :: us, v, _, .cons a b => by
    obtain ⟨ls, k, rfl, h1, h2⟩ := snoc (us := us) b
    exact ⟨_ :: ls, k, rfl, .cons a h1, h2⟩
theorem snoc_get {us : List V} {v : V} : (us ++ [v])[(us ++ [v]).length - 1]? = some v := by simp
theorem one {K : PySem.W.Frag} {H : Hp} {v : V} {k : Kd} (h : KdAt K H v k) : KdsAt K H [v] [k] := .cons h .nil
def spWords (K : PySem.W.Frag) : Sp := fun vs H Q _ => ∃ (x : V) (k : Kd), vs = [x] ∧ KdAt K H x k ∧ k.words ≤ 900 ∧ ∀ H', Same H H' → Q (.int k.words) H'
section
variable {P : Program} {w : World} {K : PySem.W.Frag} {mg : Str → Option Value} {base : Heap}
theorem scWords : FnScope ["kind", "words", "left", "here"] ["kind"] (defScope sWords) := ⟨rfl, rfl, rfl, by decide +kernel, rfl, by decide +kernel, by decide +kernel⟩
theorem ok_words {f : Addr} {fd : FuncData} (F : Fun K "words_in" "words_in" sWords f fd) (ml : mg "len" = none) : FnOk P w K mg base CX0 1 f fd ["kind"] (spWords K) := by
  refine F.ok scWords (fun vs H Q E h => ?_) (fun cdv A outer s H vs Q E hr h => ?_)
  · obtain ⟨x, k, rfl, _⟩ := h
    rfl
  obtain ⟨x, k, rfl, hk, h9, q⟩ := h
  refine ⟨_, pss_cons (ps_set (i := 1) scWords.nd rfl (Or.inl rfl) pe_int)
    (pss_cons (ps_set (i := 2) scWords.nd rfl (Or.inl rfl) (pe_lst (pa_cons (pv 0) pa_nil)))
    (pss_cons (ps_while PassesOwn.never (pt_cmpR op_gt (pe_callB call_len_seq rfl ml PySem.boot_len (pa_cons (pv 2) pa_nil)) pe_int (nomark _))
      (pss_cons (ps_set (i := 3) scWords.nd rfl (Or.inl rfl) (pe_bm0 PySem.F.plainAttrs_list PySem.F.slot_list_pop PySem.F.type_list_pop mt_pop (pv 2)))
      (pss_cons (ps_aug (i := 1) scWords.nd rfl (Or.inl rfl) pe_int ip_add)
      (pss_one (ps_if (pt_cmpR op_eq (pe_ix ix_tup (pv 3) pe_int (fun _ _ => rfl)) pe_str (nomark _))
        (pss_cons (ps_expr (pe_bm PySem.F.plainAttrs_list PySem.F.slot_list_append PySem.F.type_list_append mt_append (pv 2) (pa_cons (pe_ix ix_tup (pv 3) pe_int (fun _ _ => rfl)) pa_nil)))
        (pss_one (ps_expr (pe_bm PySem.F.plainAttrs_list PySem.F.slot_list_append PySem.F.type_list_append mt_append (pv 2) (pa_cons (pe_ix ix_tup (pv 3) pe_int (fun _ _ => rfl)) pa_nil))))) pss_nil)))))
    (pss_one (ps_ret (pv 1))))), ?_⟩
  refine ⟨_, rfl, (by show 1 ≤ sizeLine; decide), fun l hl => ?_⟩
  have sL : ∀ o, Same H (upd H l o) := same_new hl
  refine while_by (fun σ H2 => ∃ (vs : List V) (ks : List Kd) (n : Nat) (h : Option V), σ = [some x, some (.int n), some (.ref l), h] ∧ H2 = upd H l (.lst vs) ∧ KdsAt K H vs ks ∧ n + sumW ks = k.words)
    (fun σ _ => match σ with | [_, some (.int n), _, _] => k.words - n.toNat | _ => 0) ⟨[x], [k], 0, none, rfl, rfl, one hk, by rw [sumW_one]; omega⟩ ?_ ?_
  · rintro σ H2 ⟨vs, ks, n, h, rfl, rfl, hv, hn⟩
    refine ⟨_, rfl, l, _, rfl, .inl (SqL.of upd_same), _, _, rfl, rfl, _, rfl, ?_⟩
    refine ite2 (fun c => ?_) (fun c => ?_)
    · have c' : (0 : Int) < (vs.length : Int) := of_decide_eq_true c
      have hne : vs ≠ [] := fun e => by rw [e] at c'; exact absurd c' (by decide)
      obtain ⟨us, v, rfl⟩ : ∃ us v, vs = us ++ [v] := ⟨_, _, (List.dropLast_concat_getLast hne).symm⟩
      obtain ⟨ls, j, rfl, hu, hj⟩ := snoc hv
      rw [sumW_app, sumW_one] at hn
      have hjp := words_pos j
      refine ⟨_, rfl, ?_, l, _, v, rfl, rfl, upd_same, snoc_get, ?_⟩
      · exact .inl ⟨rfl, _, SqL.of upd_same⟩
      rw [upd_upd, List.dropLast_concat]
      have hl2 := len_sumW ls
      have hul := hu.length
      refine ⟨_, rfl, _, _, rfl, rfl, ?_⟩
      have e1 : ((n : Int) + 1) = ((n + 1 : Nat) : Int) := by omega
      cases hj with
      | @num p m t =>
        refine ⟨_, rfl, _, _, _, _, rfl, rfl, (sL _).tup t, (show atI [V.str "num", .int m] 0 = some (.str "num") from rfl), rfl, _, rfl, ite2 (fun c => absurd c (by decide +kernel)) (fun _ => ?_)⟩
        have hw : (Kd.num m).words = 1 := rfl
        rw [hw] at hn
        refine ⟨⟨us, ls, n + 1, _, by rw [← e1] <;> rfl, rfl, hu, by omega⟩, ?_⟩
        show k.words - ((n : Int) + 1).toNat < k.words - (n : Int).toNat
        omega
      | @name p q t h =>
        refine ⟨_, rfl, _, _, _, _, rfl, rfl, (sL _).tup h, (show atI [V.str "name", .str q, .str t] 0 = some (.str "name") from rfl), rfl, _, rfl, ite2 (fun c => absurd c (by decide +kernel)) (fun _ => ?_)⟩
        have hw : (Kd.name q t).words = 1 := rfl
        rw [hw] at hn
        refine ⟨⟨us, ls, n + 1, _, by rw [← e1] <;> rfl, rfl, hu, by omega⟩, ?_⟩
        show k.words - ((n : Int) + 1).toNat < k.words - (n : Int).toNat
        omega
      | @pair p y z a b t ha hb =>
        have hw : (Kd.pair a b).words = 1 + a.words + b.words := rfl
        rw [hw] at hn hjp
        have h1 := words_pos a
        have h2 := words_pos b
        refine ⟨_, rfl, _, _, _, _, rfl, rfl, (sL _).tup t, (show atI [V.str "pair", y, z] 0 = some (.str "pair") from rfl), rfl, _, rfl, ite2 (fun _ => ?_) (fun c => absurd (by decide +kernel) c)⟩
        refine ⟨_, rfl, .inl ⟨rfl, _, SqL.of upd_same⟩, _, rfl, _, _, _, _, rfl, rfl, (sL _).tup t, (show atI [V.str "pair", y, z] 1 = some y from rfl), l, _, _, rfl, rfl, upd_same, Nat.lt_of_lt_of_le (Nat.lt_succ_self _) (small (by omega)), ?_⟩
        rw [upd_upd]
        refine ⟨_, rfl, .inl ⟨rfl, _, SqL.of upd_same⟩, _, rfl, _, _, _, _, rfl, rfl, (sL _).tup t, (show atI [V.str "pair", y, z] 2 = some z from rfl), l, _, _, rfl, rfl, upd_same, Nat.lt_of_lt_of_le (Nat.lt_succ_self _) (small (by rw [List.length_append]; show us.length + 1 + 1 ≤ 1000; omega)), ?_⟩
        rw [upd_upd]
        refine ⟨⟨us ++ [y] ++ [z], ls ++ [a] ++ [b], n + 1, _, by rw [← e1] <;> rfl, rfl, (hu.append (one ha)).append (one hb), by rw [sumW_app, sumW_app, sumW_one, sumW_one]; omega⟩, ?_⟩
        show k.words - ((n : Int) + 1).toNat < k.words - (n : Int).toNat
        omega
    · have c' : ¬ (0 : Int) < (vs.length : Int) := of_decide_eq_false (Bool.eq_false_iff.mpr c)
      have hv0 : vs = [] := List.length_eq_zero_iff.mp (by omega)
      subst hv0
      cases hv
      have e : n = k.words := hn
      subst e
      exact ⟨_, rfl, q _ (sL _)⟩
  · rintro σ H2 Q1 Q2 hq ⟨v, e1, a, xs, e2, hs, i, j, e3, e4, b, e5, h⟩
    exact ⟨v, e1, a, xs, e2, hs, i, j, e3, e4, b, e5, hq _ _ h⟩
end
theorem while_rel {c : TT} {tb : TS} {D : Ends} {σ : St} {H : Hp} (W : Nat → St → Hp → Prop) (m : Nat) (h0 : W m σ H)
    (hs : ∀ m σ H, W m σ H → c σ H fun b H1 => if b = true then tb { D with nx := fun σ' H' => ∃ m', m' < m ∧ W m' σ' H', ct := fun σ' H' => ∃ m', m' < m ∧ W m' σ' H', bk := D.nx } σ H1 else D.nx σ H1)
    (mono : ∀ σ H Q Q', (∀ b H1, Q b H1 → Q' b H1) → c σ H Q → c σ H Q') : tWhile c tb D σ H := by
  refine ⟨W, ⟨m, h0⟩, fun m σ H p => mono σ H _ _ (fun b H1 q => ?_) (hs m σ H p)⟩
  cases b with
  | true => exact ⟨_, fun σ' H' z => z, q⟩
  | false => exact q
def Kd.names : Kd → List (Str × Str)
  | .num _ => []
  | .name q t => [(q, t)]
  | .pair a b => Kd.names a ++ Kd.names b
def addN (acc : List (Str × Str)) (n : Str × Str) : List (Str × Str) := if n ∈ acc then acc else acc ++ [n]
def firsts (acc l : List (Str × Str)) : List (Str × Str) := l.foldl addN acc
def restN (ks : List Kd) : List (Str × Str) := (ks.reverse.map Kd.names).flatten
def keyN (n : Str × Str) : List Key := [.inr n.1, .inr n.2]
theorem keyN_inj {m n : Str × Str} (h : keyN m = keyN n) : m = n := by
  cases m; cases n
  simp [keyN] at h
  exact Prod.ext h.1 h.2
theorem sput {H H2 : Hp} {a : Addr} {o : HO} (e : Same H H2) (h : H a = none) : Same H (upd H2 a o) := fun b u q => by rw [upd_ne (ne_of_none q h)]; exact e b u q
def spNames (K : PySem.W.Frag) : Sp := fun vs H Q _ => ∃ (x : V) (k : Kd), vs = [x] ∧ KdAt K H x k ∧ k.words ≤ 900 ∧
  ∀ H' l (as : List Addr), Same H H' → H l = none → H' l = some (.lst (as.map V.ref)) → Paired (fun (n : Str × Str) (a : Addr) => H' a = some (.tup [.str n.1, .str n.2])) (firsts [] (Kd.names k)) as → Q (.ref l) H'
theorem bootList : bootBuiltins "list" = some (.type "list") := by decide +kernel
section
variable {P : Program} {w : World} {K : PySem.W.Frag} {mg : Str → Option Value} {base : Heap}
end
end K25
namespace K25
open PySem L2 Kk
abbrev sPut : Stmt := top 6
abbrev sBounded : Stmt := top 7
abbrev sOwn : Stmt := top 10
abbrev sPutFace : Stmt := top 11
abbrev sPutFun : Stmt := top 12
abbrev sRefined : Stmt := top 13
abbrev sCell : Stmt := top 15
abbrev sWord : Stmt := top 16
abbrev sTree : Stmt := top 17
abbrev sWordsL : Stmt := top 18
abbrev sPutL : Stmt := top 19
abbrev sSize : Stmt := top 20
abbrev sKinds : Stmt := top 21
abbrev sFuns : Stmt := top 22
abbrev sWiths : Stmt := top 23
abbrev sStep : Stmt := top 24
abbrev sSaid : Stmt := top 25
abbrev sLaw : Stmt := top 26
theorem at_int {ns : List Int} {i : Int} (h0 : 0 ≤ i) (h1 : i < ns.length) : ∃ v : Int, atI (ns.map V.int) i = some (.int v) := by
  have hk : i.toNat < List.length ns := by omega
  have e : i = ((i.toNat : Nat) : Int) := by omega
  have q : atI (ns.map V.int) ((i.toNat : Nat) : Int) = some (.int ns[i.toNat]) := atI_nat (by simp [hk])
  rw [← e] at q
  exact ⟨_, q⟩
theorem at_ex {α : Type} {xs : List α} {i : Int} (h0 : 0 ≤ i) (h1 : i < xs.length) : ∃ v, atI xs i = some v := by
  have hk : i.toNat < xs.length := by omega
  have e : i = ((i.toNat : Nat) : Int) := by omega
  have q : atI xs ((i.toNat : Nat) : Int) = some xs[i.toNat] := atI_nat (by simp)
  rw [← e] at q
  exact ⟨_, q⟩
def spCell (K : PySem.W.Frag) : Sp := fun vs H Q _ => ∃ (a : Addr) (ns : List Int) (k : Int), vs = [.ref a, .int k] ∧ SqL K H a (ns.map V.int) ∧ ns.length ≤ 63 ∧ 0 ≤ k ∧ k ≤ 1000 ∧ ∀ c : Int, Q (.int c) H
theorem sok_iff (z : Str) : PyData.strOk z = true ↔ ∀ c ∈ z.cps.toList, c < 0x110000 := by
  unfold PyData.strOk
  rw [Array.all_eq_true_iff_forall_mem]
  simp
theorem sok_app {a b : Str} (ha : PyData.strOk a = true) (hb : PyData.strOk b = true) : PyData.strOk (a ++ b) = true := by
  rw [sok_iff] at *
  intro c hc
  have hc' : c ∈ (a.cps ++ b.cps).toList := hc
  rw [Array.toList_append] at hc'
  rcases List.mem_append.mp hc' with h | h
  · exact ha c h
  · exact hb c h
theorem sok_slice {z : Str} (h : PyData.strOk z = true) (l u : Option Int) : PyData.strOk (Txt.slice z l u) = true := by
  unfold Txt.slice
  split
  · exact h
  · rw [sok_iff] at *
    intro c hc
    have hc' : c ∈ (Builtin.Str.strSliceIndices l u 1 z.length).filterMap (z.cps[·]?) := by simpa using hc
    obtain ⟨i, _, e⟩ := List.mem_filterMap.mp hc'
    exact h c (by simpa using Array.mem_of_getElem? e)
theorem sok_rep {x : Str} (h : PyData.strOk x = true) : ∀ (n : Nat) (acc : Array Nat), (∀ c ∈ acc.toList, c < 0x110000) → ∀ c ∈ ((List.replicate n x.cps).foldl (· ++ ·) acc).toList, c < 0x110000
  | 0, acc, ha => ha
  | n + 1, acc, ha => by
    rw [List.replicate_succ, List.foldl_cons]
    refine sok_rep h n _ fun c hc => ?_
    rw [Array.toList_append] at hc
    rcases List.mem_append.mp hc with q | q
    · exact ha c q
    · exact (sok_iff x).mp h c q
theorem sok_mul {x : Str} (h : PyData.strOk x = true) (n : Int) : PyData.strOk (Txt.mul x n) = true := by
  unfold Txt.mul
  split
  · decide +kernel
  · split
    · exact h
    · rw [sok_iff]
      exact sok_rep h _ _ (fun c hc => by simp at hc)
theorem sok_at {z : Str} {i : Int} {g : Nat} (h : PyData.strOk z = true) (hm : atI z.cps.toList i = some g) : PyData.strOk ⟨#[g]⟩ = true := by
  rw [sok_iff] at *
  intro c hc
  have : c = g := by simpa using hc
  subst this
  unfold atI at hm
  obtain ⟨j, _, e⟩ := Option.bind_eq_some_iff.mp hm
  exact h c (List.mem_of_getElem? e)
def Kd.sok : Kd → Bool
  | .num _ => true
  | .name q t => PyData.strOk q && PyData.strOk t
  | .pair a b => Kd.sok a && Kd.sok b
def Lf (k : Kd) : Prop := k.leaf = true ∧ Kd.sok k = true
def spWord : Sp := fun vs H Q _ => ∃ c : Int, vs = [.int c] ∧ ∀ (z : Str) H', Same H H' → z.length ≤ 26 → PyData.strOk z = true → Q (.str z) H'
def noWords : List Str := ["num", "pair", "lit", "as", "if", "let", "two", "first", "second"]
theorem noFlat : (noWords.map V.str).all flatV = true := by decide +kernel
theorem len_app (a b : Str) : (a ++ b).length = a.length + b.length := by
  show Array.size (a.cps ++ b.cps) = _
  rw [Array.size_append] <;> rfl
def strsOf : List Expr → Option (List Str)
  | [] => some []
  | .Constant (.str x) _ _ :: r => (strsOf r).map (x :: ·)
  | _ => none
theorem pa_strs {X : Cx} : ∀ {es : List Expr} {xs : List Str}, strsOf es = some xs → PA X es (fun _ H Q => Q (xs.map V.str) H)
  | [], xs, h => by
    have e : xs = [] := (Option.some.inj h).symm
    subst e
    exact pa_nil
  | .Constant (.str x) j p :: r, xs, h => by
    have h' : (strsOf r).map (x :: ·) = some xs := h
    cases e : strsOf r with
    | none => rw [e] at h'; cases h'
    | some ys =>
      rw [e] at h'
      have e2 : x :: ys = xs := Option.some.inj h'
      subst e2
      exact pa_cons (pe_str (x := x)) (pa_strs e)
section
variable {P : Program} {w : World} {K : PySem.W.Frag} {mg : Str → Option Value} {base : Heap}
theorem scCell : FnScope ["_law_script", "_law_k", "_law_number"] ["_law_script", "_law_k"] (defScope sCell) := ⟨rfl, rfl, rfl, by decide +kernel, rfl, by decide +kernel, by decide +kernel⟩
theorem ok_cell {f : Addr} {fd : FuncData} (F : Fun K "_law_cell" "_law_cell" sCell f fd) (ml : mg "len" = none) : FnOk P w K mg base CX0 1 f fd ["_law_script", "_law_k"] (spCell K) := by
  refine F.ok scCell (fun vs H Q E h => ?_) (fun cdv A outer s H vs Q E hr h => ?_)
  · obtain ⟨a, ns, k, rfl, _⟩ := h
    rfl
  obtain ⟨a, ns, k, rfl, hS, h63, h0, h1, q⟩ := h
  refine ⟨_, pss_cons (ps_if (pt_cmpR op_lt (pv 1) (pe_callB call_len_seq rfl ml PySem.boot_len (pa_cons (pv 0) pa_nil)) (nomark _))
      (pss_one (ps_ret (pe_ix ix_list (pv 0) (pv 1) (fun _ _ => rfl)))) pss_nil)
    (pss_cons (ps_set (i := 2) scCell.nd rfl (Or.inl rfl) (pe_op op_add (pe_op op_mul (pv 1) pe_int) pe_int))
    (pss_cons (ps_if (pt_cmpR op_gt (pe_callB call_len_seq rfl ml PySem.boot_len (pa_cons (pv 0) pa_nil)) pe_int (nomark _))
      (pss_one (ps_set (i := 2) scCell.nd rfl (Or.inl rfl) (pe_op op_mod (pe_op op_add (pe_op op_mul (pe_ix ix_list (pv 0) (pe_op op_mod (pe_op op_mul (pv 1) pe_int) (pe_callB call_len_seq rfl ml PySem.boot_len (pa_cons (pv 0) pa_nil))) (fun _ _ => rfl)) pe_int) (pe_op op_mul (pv 1) pe_int)) pe_int))) pss_nil)
    (pss_one (ps_ret (pe_op op_mod (pe_op op_mul (pv 2) (pv 2)) pe_int))))), ?_⟩
  have hl : (ns.map V.int).length = ns.length := List.length_map _
  refine ⟨_, rfl, _, rfl, a, _, rfl, .inl hS, _, _, rfl, rfl, _, rfl, ?_⟩
  refine ite2 (fun c => ?_) (fun c => ?_)
  · have c' : k < (((ns.map V.int).length : Nat) : Int) := of_decide_eq_true c
    rw [hl] at c'
    obtain ⟨v, hv⟩ := at_int (ns := ns) h0 c'
    exact ⟨_, rfl, _, rfl, a, _, _, _, rfl, rfl, hS, hv, q _⟩
  · refine ⟨_, rfl, _, _, rfl, rfl, .inr ⟨by omega, by omega⟩, _, _, rfl, rfl, ?_⟩
    refine ⟨_, rfl, a, _, rfl, .inl hS, _, _, rfl, rfl, _, rfl, ?_⟩
    refine ite2 (fun d => ?_) (fun d => ?_)
    · have d' : 0 < (((ns.map V.int).length : Nat) : Int) := of_decide_eq_true d
      rw [hl] at d'
      obtain ⟨v, hv⟩ := at_int (ns := ns) (i := k * 7 % (((ns.map V.int).length : Nat) : Int)) (by rw [hl]; exact Int.emod_nonneg _ (by omega)) (by rw [hl]; exact Int.emod_lt_of_pos _ d')
      refine ⟨_, rfl, _, rfl, _, _, rfl, rfl, .inr ⟨by omega, by omega⟩, _, rfl, a, _, rfl, .inl hS, _, _, rfl, rfl, (by rw [hl]; exact d'), a, _, _, _, rfl, rfl, hS, hv, ?_⟩
      refine ⟨_, _, rfl, rfl, .inr ⟨by omega, by omega⟩, _, rfl, _, _, rfl, rfl, .inr ⟨by omega, by omega⟩, _, _, rfl, rfl, _, _, rfl, rfl, (by show (0 : Int) < 2147483647; decide), ?_⟩
      have g0 := Int.emod_nonneg (v * 48271 + k * 7919) (show (2147483647 : Int) ≠ 0 by decide)
      have g1 := Int.emod_lt_of_pos (v * 48271 + k * 7919) (show (0 : Int) < 2147483647 by decide)
      refine ⟨_, rfl, _, rfl, _, _, rfl, rfl, ?_, _, _, rfl, rfl, (by show (0 : Int) < 2147483629; decide), q _⟩
      exact Or.inl ⟨Int.lt_of_lt_of_le (by decide) g0, Int.lt_trans g1 (by decide)⟩
    · exact ⟨_, rfl, _, rfl, _, _, rfl, rfl, .inl ⟨by omega, by omega⟩, _, _, rfl, rfl, (by show (0 : Int) < 2147483629; decide), q _⟩
theorem scWord : FnScope ["_law_cell_here", "_law_letters", "_law_size_here", "_law_left", "_law_word_here", "_law_at"] ["_law_cell_here"] (defScope sWord) := ⟨rfl, rfl, rfl, by decide +kernel, rfl, by decide +kernel, by decide +kernel⟩
theorem same_trans {H H1 H2 : Hp} (a : Same H H1) (b : Same H1 H2) : Same H H2 := fun x o e => b x o (a x o e)
end
end K25
namespace K25
open PySem L2 Kk
theorem sqt_upd {K : PySem.W.Frag} {H : Hp} {l a : Addr} {ys xs : List V} {o : HO} (h : H l = some (.lst ys)) (t : SqT K H a xs) : SqT K (upd H l o) a xs := by
  rcases t with (t | ⟨o', t⟩) | t
  · exact .inl (.inl (by rw [upd_ne (fun e => by rw [e, h] at t; cases t)]; exact t))
  · exact .inl (.inr ⟨o', by rw [upd_ne (fun e => by rw [e, h] at t; cases t)]; exact t⟩)
  · exact .inr t
theorem kd_keep {K : PySem.W.Frag} {H H' : Hp} (e : ∀ a xs, SqT K H a xs → SqT K H' a xs) : ∀ {x : V} {k : Kd}, KdAt K H x k → KdAt K H' x k
  | _, _, .num h => .num (e _ _ h)
  | _, _, .name h => .name (e _ _ h)
  | _, _, .pair h a b => .pair (e _ _ h) (kd_keep e a) (kd_keep e b)
theorem kds_keep {K : PySem.W.Frag} {H H' : Hp} (e : ∀ a xs, SqT K H a xs → SqT K H' a xs) : ∀ {xs : List V} {ks : List Kd}, KdsAt K H xs ks → KdsAt K H' xs ks
  | _, _, .nil => .nil
  | _, _, .cons a b => .cons (kd_keep e a) (kds_keep e b)
theorem sql_same {K : PySem.W.Frag} {H H' : Hp} {a : Addr} {xs : List V} (e : Same H H') (h : SqL K H a xs) : SqL K H' a xs := by
  rcases h with (h | ⟨o, h⟩) | h
  · exact .inl (.inl (e _ _ h))
  · exact .inl (.inr ⟨o, e _ _ h⟩)
  · exact .inr h
end K25
namespace K25
open PySem L2 Kk
def flat (ks : List Kd) : List Kd := (ks.map Kd.leaves).flatten
theorem flat_app (a b : List Kd) : flat (a ++ b) = flat a ++ flat b := by
  unfold flat
  rw [List.map_append, List.flatten_append]
theorem flat_one (k : Kd) : flat [k] = k.leaves := List.append_nil _
theorem kds_split {K : PySem.W.Frag} {H : Hp} : ∀ {us vs : List V} {ks : List Kd}, KdsAt K H (us ++ vs) ks → ∃ ls ms, ks = ls ++ ms ∧ KdsAt K H us ls ∧ KdsAt K H vs ms
  | [], _, _, h => ⟨[], _, rfl, .nil, h⟩
  | u :: us, vs, _, .cons a b => by
    obtain ⟨ls, ms, rfl, h1, h2⟩ := kds_split (us := us) b
    exact ⟨_ :: ls, ms, rfl, .cons a h1, h2⟩
theorem split_at {vs : List V} {n : Nat} (h : n + 1 < vs.length) : ∃ us x y ws, vs = us ++ [x, y] ++ ws ∧ us.length = n := by
  refine ⟨vs.take n, vs[n], vs[n + 1], vs.drop (n + 2), ?_, by rw [List.length_take]; omega⟩
  have e1 := (List.take_append_drop n vs).symm
  rw [List.drop_eq_getElem_cons (by omega), List.drop_eq_getElem_cons (by omega)] at e1
  rw [List.append_assoc]
  exact e1
theorem cut_to {vs : List V} {n : Nat} (h : n ≤ vs.length) : cutV vs none (some (n : Int)) = vs.take n := by
  unfold cutV
  rw [HT.sIx_none, HT.sIx_nat, Nat.min_eq_left h]
  rfl
theorem cut_from {vs : List V} {n : Nat} (h : n ≤ vs.length) : cutV vs (some (n : Int)) none = vs.drop n := by
  unfold cutV
  rw [HT.sIx_none, HT.sIx_nat, Nat.min_eq_left h, List.take_of_length_le (by rw [List.length_drop]; exact Nat.le_refl _)]
def spTree (K : PySem.W.Frag) : Sp := fun vs H Q _ => ∃ (p : Addr) (t : Int) (xs : List V) (ks : List Kd), vs = [.ref p, .int t] ∧ H p = some (.lst xs) ∧ KdsAt K H xs ks ∧ 1 ≤ ks.length ∧ ks.length ≤ 20 ∧
  ∀ H' v k, Same H H' → KdAt K H' v k → k.leaves = flat ks → Q v H'
section
variable {P : Program} {w : World} {K : PySem.W.Frag} {mg : Str → Option Value} {base : Heap}
theorem scTree : FnScope ["_law_leaves", "_law_turn", "_law_row", "_law_k"] ["_law_leaves", "_law_turn"] (defScope sTree) := ⟨rfl, rfl, rfl, by decide +kernel, rfl, by decide +kernel, by decide +kernel⟩
theorem ok_tree {f : Addr} {fd : FuncData} (F : Fun K "_law_tree" "_law_tree" sTree f fd) (ml : mg "len" = none) (mi : mg "list" = none) : FnOk P w K mg base CX0 1 f fd ["_law_leaves", "_law_turn"] (spTree K) := by
  refine F.ok scTree (fun vs H Q E h => ?_) (fun cdv A outer s H vs Q E hr h => ?_)
  · obtain ⟨p, t, xs, ks, rfl, _⟩ := h
    rfl
  obtain ⟨p, t, xs, ks, rfl, hp, hks, h1, h20, q⟩ := h
  refine ⟨_, pss_cons (ps_set (i := 2) scTree.nd rfl (Or.inl rfl) (pe_callTy call_list_of rfl mi bootList (pa_cons (pv 0) pa_nil)))
    (pss_cons (ps_while PassesOwn.never (pt_cmpR op_gt (pe_callB call_len_seq rfl ml PySem.boot_len (pa_cons (pv 2) pa_nil)) pe_int (nomark _))
      (pss_cons (ps_set (i := 3) scTree.nd rfl (Or.inl rfl) (pe_op op_mod (pv 1) (pe_op op_sub (pe_callB call_len_seq rfl ml PySem.boot_len (pa_cons (pv 2) pa_nil)) pe_int)))
      (pss_cons (ps_set (i := 1) scTree.nd rfl (Or.inl rfl) (pe_op op_mod (pe_op op_add (pe_op op_mul (pv 1) pe_int) pe_int) pe_int))
      (pss_one (ps_set (i := 2) scTree.nd rfl (Or.inl rfl) (pe_op op_cat (pe_op op_cat (pe_slice sl_list (pv 2) po_none (po_some (pv 3)))
          (pe_lst (pa_cons (pe_tup (pa_cons pe_str (pa_cons (pe_ix ix_list (pv 2) (pv 3) (fun _ _ => rfl)) (pa_cons (pe_ix ix_list (pv 2) (pe_op op_add (pv 3) pe_int) (fun _ _ => rfl)) pa_nil)))) pa_nil)))
          (pe_slice sl_list (pv 2) (po_some (pe_op op_add (pv 3) pe_int)) po_none)))))))
    (pss_one (ps_ret (pe_ix ix_list (pv 2) pe_int (fun _ _ => rfl))))), ?_⟩
  refine ⟨_, rfl, p, xs, rfl, .inl (SqL.of hp), fun r hr0 => ?_⟩
  have hxl := hks.length
  refine while_rel (fun m σ H2 => ∃ (vs : List V) (ls : List Kd) (t2 : Int) (r2 : Addr) (h : Option V), σ = [some (.ref p), some (.int t2), some (.ref r2), h] ∧ Same H H2 ∧ H2 r2 = some (.lst vs) ∧ KdsAt K H2 vs ls ∧ flat ls = flat ks ∧ 1 ≤ vs.length ∧ vs.length ≤ 20 ∧ m = vs.length) xs.length
    ⟨xs, ks, t, r, none, rfl, same_new hr0 _, upd_same, hks.same (same_new hr0 _), rfl, by omega, by omega, rfl⟩ ?_ ?_
  · rintro m σ H2 ⟨vs, ls, t2, r2, h, rfl, sH, hR, hv, hf, hv1, hv20, rfl⟩
    refine ⟨_, rfl, r2, _, rfl, .inl (SqL.of hR), _, _, rfl, rfl, _, rfl, ?_⟩
    refine ite2 (fun c => ?_) (fun c => ?_)
    · have c' : (1 : Int) < (vs.length : Int) := of_decide_eq_true c
      refine ⟨_, rfl, _, rfl, r2, _, rfl, .inl (SqL.of hR), _, _, rfl, rfl, _, _, rfl, rfl, (by show (0 : Int) < (vs.length : Int) - 1; omega), ?_⟩
      have z0 := Int.emod_nonneg t2 (show ((vs.length : Int) - 1) ≠ 0 by omega)
      have z1 := Int.emod_lt_of_pos t2 (show (0 : Int) < (vs.length : Int) - 1 by omega)
      obtain ⟨n, en⟩ : ∃ n : Nat, t2 % ((vs.length : Int) - 1) = (n : Int) := ⟨(t2 % ((vs.length : Int) - 1)).toNat, by omega⟩
      have hn : n + 1 < vs.length := by omega
      refine ⟨_, rfl, _, _, rfl, rfl, .inr ⟨by omega, by omega⟩, _, _, rfl, rfl, _, _, rfl, rfl, (by show (0 : Int) < 2147483647; decide), ?_⟩
      obtain ⟨us, x, y, ws, ev, hun⟩ := split_at hn
      have hx : atI vs (t2 % ((vs.length : Int) - 1)) = some x := by rw [en]; exact atI_nat (by rw [ev, ← hun]; simp)
      have hy : atI vs (t2 % ((vs.length : Int) - 1) + 1) = some y := by rw [en]; exact atI_nat (j := n + 1) (by rw [ev, ← hun]; simp)
      have hc1 : cutV vs none (some (t2 % ((vs.length : Int) - 1))) = us := by
        rw [en, cut_to (by omega), ev, ← hun]
        simp
      have hc2 : cutV vs (some (t2 % ((vs.length : Int) - 1) + 2)) none = ws := by
        rw [en]
        show cutV vs (some (((n + 2 : Nat) : Int))) none = ws
        rw [cut_from (by omega), ev, ← hun]
        simp
      have hvl : vs.length = us.length + 2 + ws.length := by rw [ev]; simp; omega
      refine ⟨_, rfl, _, rfl, _, rfl, r2, _, rfl, SqL.of hR, fun p1 q1 => ?_⟩
      have s1 := same_new q1 (.lst (cutV vs none (some (t2 % ((vs.length : Int) - 1)))))
      refine ⟨_, rfl, _, rfl, r2, _, _, _, rfl, rfl, SqL.of (s1 _ _ hR), hx, _, rfl, _, rfl, _, _, rfl, rfl, r2, _, _, _, rfl, rfl, SqL.of (s1 _ _ hR), hy, (by show 3 ≤ sizeLine; decide), fun p2 q2 => ⟨(by show 1 ≤ sizeLine; decide), fun p3 q3 => ?_⟩⟩
      have s2 := same_new q2 (.tup [.str "pair", x, y])
      have s3 := same_new q3 (.lst [.ref p2])
      refine ⟨p1, p3, _, _, rfl, rfl, s3 _ _ (s2 _ _ upd_same), upd_same, (by rw [hc1]; exact small (by show us.length + 1 ≤ 1000; omega)), fun p4 q4 => ?_⟩
      rw [hc1] at s1 q2 q3 q4 s2 s3 ⊢
      have s4 := same_new q4 (.lst (us ++ [.ref p2]))
      have sA := same_trans (same_trans s1 s2) (same_trans s3 s4)
      refine ⟨_, rfl, _, rfl, _, _, rfl, rfl, _, rfl, r2, _, rfl, SqL.of (sA _ _ hR), fun p5 q5 => ?_⟩
      have s5 := same_new q5 (.lst (cutV vs (some (t2 % ((vs.length : Int) - 1) + 2)) none))
      refine ⟨p4, p5, _, _, rfl, rfl, s5 _ _ upd_same, upd_same, (by rw [hc2]; exact small (by rw [List.length_append]; show us.length + 1 + ws.length ≤ 1000; omega)), fun p6 q6 => ?_⟩
      rw [hc2] at s5 q6 ⊢
      have s6 := same_new q6 (.lst (us ++ [.ref p2] ++ ws))
      have sB := same_trans sA (same_trans s5 s6)
      rw [ev] at hv
      obtain ⟨l12, l3, rfl, h12, h3⟩ := kds_split hv
      obtain ⟨l1, l2, rfl, g1, g2⟩ := kds_split h12
      match l2, g2 with
      | [ka, kb], .cons ga (.cons gb .nil) =>
        have tp : SqT K (upd _ p6 (.lst (us ++ [.ref p2] ++ ws))) p2 [.str "pair", x, y] := SqT.of (s6 _ _ (s5 _ _ (s4 _ _ (s3 _ _ upd_same))))
        refine ⟨us.length + 1 + ws.length, by omega, us ++ [.ref p2] ++ ws, l1 ++ [.pair ka kb] ++ l3, _, p6, _, rfl, same_trans sH sB, upd_same, ((g1.same sB).append (one (.pair tp (ga.same sB) (gb.same sB)))).append (h3.same sB), ?_, ?_, ?_, ?_⟩
        · rw [← hf, flat_app, flat_app, flat_app, flat_app, flat_one]
          show flat l1 ++ (ka.leaves ++ kb.leaves) ++ flat l3 = flat l1 ++ (ka.leaves ++ (kb.leaves ++ [])) ++ flat l3
          rw [List.append_nil]
        · rw [List.length_append, List.length_append]; show 1 ≤ us.length + 1 + ws.length; omega
        · rw [List.length_append, List.length_append]; show us.length + 1 + ws.length ≤ 20; omega
        · rw [List.length_append, List.length_append]; rfl
    · have c' : ¬ (1 : Int) < (vs.length : Int) := of_decide_eq_false (Bool.eq_false_iff.mpr c)
      obtain ⟨x, rfl⟩ : ∃ x, vs = [x] := List.length_eq_one_iff.mp (by omega)
      match ls, hv with
      | [k], .cons hk .nil =>
        refine ⟨_, rfl, r2, _, _, _, rfl, rfl, SqL.of hR, (show atI [x] 0 = some x from rfl), q _ x k sH hk ?_⟩
        rw [← flat_one]
        exact hf
  · rintro σ H2 Q1 Q2 hq ⟨v, e1, a, xs, e2, hs, i, j, e3, e4, b, e5, h⟩
    exact ⟨v, e1, a, xs, e2, hs, i, j, e3, e4, b, e5, hq _ _ h⟩
end
end K25
namespace K25
open PySem L2 Kk
theorem bootInt : bootBuiltins "int" = some (.type "int") := by decide +kernel
theorem bootTuple : bootBuiltins "tuple" = some (.type "tuple") := by decide +kernel
end K25
namespace K25
open PySem L2 Kk
/-! kinds put in for names -/
def Kd.put (G : Str × Str → Option Kd) : Kd → Kd
  | .num n => .num n
  | .name q t => (G (q, t)).getD (.name q t)
  | .pair a b => .pair (Kd.put G a) (Kd.put G b)
def Kd.depth : Kd → Nat
  | .num _ => 1
  | .name _ _ => 1
  | .pair a b => 1 + max (Kd.depth a) (Kd.depth b)
theorem depth_pos (k : Kd) : 1 ≤ Kd.depth k := by
  cases k with
  | num _ => exact Nat.le_refl _
  | name _ _ => exact Nat.le_refl _
  | pair a b => exact Nat.le_add_right _ _
/-- what a dict by tuples tells of names -/
def GvAt (K : PySem.W.Frag) (H : Hp) (kvs : List (List Key × V)) (G : Str × Str → Option Kd) : Prop :=
  ∀ n, (valV kvs (keyN n) = none ∧ G n = none) ∨ ∃ v k, valV kvs (keyN n) = some v ∧ G n = some k ∧ KdAt K H v k
theorem GvAt.same {K : PySem.W.Frag} {H H' : Hp} {kvs : List (List Key × V)} {G : Str × Str → Option Kd} (e : Same H H') (h : GvAt K H kvs G) : GvAt K H' kvs G := fun n => by
  rcases h n with h | ⟨v, k, h1, h2, h3⟩
  · exact .inl h
  · exact .inr ⟨v, k, h1, h2, h3.same e⟩
def spPut (K : PySem.W.Frag) (n : Nat) : Sp := fun vs H Q _ => ∃ (x : V) (g : Addr) (k : Kd) (kvs : List (List Key × V)) (G : Str × Str → Option Kd), vs = [x, .ref g] ∧ KdAt K H x k ∧ Kd.depth k ≤ n ∧ H g = some (.dT kvs) ∧ GvAt K H kvs G ∧
  ∀ H' v, Same H H' → KdAt K H' v (Kd.put G k) → Q v H'
section
variable {P : Program} {w : World} {K : PySem.W.Frag} {mg : Str → Option Value} {base : Heap}
theorem scPut : FnScope ["kind", "given"] ["kind", "given"] (defScope sPut) := ⟨rfl, rfl, rfl, by decide +kernel, rfl, by decide +kernel, by decide +kernel⟩
theorem ok_put {f : Addr} {fd : FuncData} (F : Fun K "put" "put" sPut f fd) (bP : Binds K fd ["kind", "given"] []) (kP : PySem.W.keepIn K (.ref f) = true) (mP : mg "put" = some (.ref f)) :
    ∀ n, FnOk P w K mg base CX0 n f fd ["kind", "given"] (spPut K n)
  | 0 => ⟨fun vs H Q E h => by obtain ⟨x, g, k, kvs, G, rfl, _⟩ := h; rfl, fun A outer s H args us vs Q E _ _ _ _ h => by
      obtain ⟨x, g, k, kvs, G, _, _, hd, _⟩ := h
      have := depth_pos k
      omega⟩
  | n + 1 => by
    have IH := ok_put F bP kP mP n
    refine F.ok scPut (fun vs H Q E h => ?_) (fun cdv A outer s H vs Q E hr h => ?_)
    · obtain ⟨x, g, k, kvs, G, rfl, _⟩ := h
      rfl
    obtain ⟨x, g, k, kvs, G, rfl, hk, hd, hg, hG, q⟩ := h
    have hu := hu_of hr
    refine ⟨_, pss_cons (ps_if (pt_cmpR op_eq (pe_ix ix_tup (pv 0) pe_int (fun _ _ => rfl)) pe_str (nomark _))
        (pss_one (ps_ret (pe_tup (pa_cons pe_str (pa_cons (pe_call IH hr rfl mP kP bP .nil pass0 (pa_cons (pe_ix ix_tup (pv 0) pe_int (fun _ _ => rfl)) (pa_cons (pv 1) pa_nil)))
          (pa_cons (pe_call IH hr rfl mP kP bP .nil pass0 (pa_cons (pe_ix ix_tup (pv 0) pe_int (fun _ _ => rfl)) (pa_cons (pv 1) pa_nil))) pa_nil)))))) pss_nil)
      (pss_cons (ps_if (pt_cmpR op_eq (pe_ix ix_tup (pv 0) pe_int (fun _ _ => rfl)) pe_str (nomark _))
        (pss_one (ps_ret (pe_dget2 hu (pv 1) (pe_tup (pa_cons (pe_ix ix_tup (pv 0) pe_int (fun _ _ => rfl)) (pa_cons (pe_ix ix_tup (pv 0) pe_int (fun _ _ => rfl)) pa_nil))) (pv 0) ⟨rfl, rfl, rfl, rfl⟩))) pss_nil)
      (pss_one (ps_ret (pv 0)))), ?_⟩
    cases hk with
    | @num p m t =>
      refine ⟨_, rfl, _, _, _, _, rfl, rfl, t, (show atI [V.str "num", .int m] 0 = some (.str "num") from rfl), rfl, _, rfl, ite2 (fun c => absurd c (by decide +kernel)) (fun _ => ?_)⟩
      refine ⟨_, rfl, _, _, _, _, rfl, rfl, t, (show atI [V.str "num", .int m] 0 = some (.str "num") from rfl), rfl, _, rfl, ite2 (fun c => absurd c (by decide +kernel)) (fun _ => ?_)⟩
      exact ⟨_, rfl, q _ _ (Same.refl _) (.num t)⟩
    | @name p a b t =>
      refine ⟨_, rfl, _, _, _, _, rfl, rfl, t, (show atI [V.str "name", .str a, .str b] 0 = some (.str "name") from rfl), rfl, _, rfl, ite2 (fun c => absurd c (by decide +kernel)) (fun _ => ?_)⟩
      refine ⟨_, rfl, _, _, _, _, rfl, rfl, t, (show atI [V.str "name", .str a, .str b] 0 = some (.str "name") from rfl), rfl, _, rfl, ite2 (fun _ => ?_) (fun c => absurd (by decide +kernel) c)⟩
      refine ⟨_, rfl, g, rfl, .inr ⟨kvs, .inl hg⟩, _, rfl, _, _, _, _, rfl, rfl, t, (show atI [V.str "name", .str a, .str b] 1 = some (.str a) from rfl), _, rfl, _, _, _, _, rfl, rfl, t, (show atI [V.str "name", .str a, .str b] 2 = some (.str b) from rfl), (by show 2 ≤ sizeLine; decide), fun y hy => ?_⟩
      have sy := same_new hy (.tup [.str a, .str b])
      refine ⟨_, rfl, _, DGet.t (k := keyN (a, b)) (sy _ _ hg) upd_same, q _ _ sy ?_⟩
      show KdAt K _ ((valV kvs (keyN (a, b))).getD _) ((G (a, b)).getD (.name a b))
      rcases hG (a, b) with ⟨h1, h2⟩ | ⟨v, k', h1, h2, h3⟩
      · rw [h1, h2]
        exact .name (sy.tup t)
      · rw [h1, h2]
        exact h3.same sy
    | @pair p y z a b t ha hb =>
      have hd' : 1 + max (Kd.depth a) (Kd.depth b) ≤ n + 1 := hd
      refine ⟨_, rfl, _, _, _, _, rfl, rfl, t, (show atI [V.str "pair", y, z] 0 = some (.str "pair") from rfl), rfl, _, rfl, ite2 (fun _ => ?_) (fun c => absurd (by decide +kernel) c)⟩
      refine ⟨_, rfl, _, _, _, _, rfl, rfl, t, (show atI [V.str "pair", y, z] 1 = some y from rfl), _, rfl, y, g, a, kvs, G, rfl, ha, by omega, hg, hG, fun H1 v1 s1 k1 => ?_⟩
      refine ⟨_, rfl, _, _, _, _, rfl, rfl, s1.tup t, (show atI [V.str "pair", y, z] 2 = some z from rfl), _, rfl, z, g, b, kvs, G, rfl, hb.same s1, by omega, s1 _ _ hg, hG.same s1, fun H2 v2 s2 k2 => ?_⟩
      refine ⟨(by show 3 ≤ sizeLine; decide), fun c hc => q _ _ (same_trans (same_trans s1 s2) (same_new hc _)) ?_⟩
      exact .pair (SqT.of upd_same) ((k1.same s2).same (same_new hc _)) (k2.same (same_new hc _))
/-! bounded -/
def spBounded (K : PySem.W.Frag) (CT : Addr) : Sp := fun vs H Q E => ∃ (x : V) (k : Kd) (m : Int), vs = [x, .int m] ∧ KdAt K H x k ∧ k.words ≤ 900 ∧ 0 ≤ m ∧ m ≤ 1000000 ∧
  ∀ H', Same H H' → if (k.words : Int) > m then E (.ref CT) none H' else Q x H'
theorem scBounded : FnScope ["kind", "most", "words"] ["kind", "most"] (defScope sBounded) := ⟨rfl, rfl, rfl, by decide +kernel, rfl, by decide +kernel, by decide +kernel⟩
theorem log_small {i : Int} (h0 : 0 ≤ i) (h1 : i ≤ 1000000) : i.natAbs.log2 < 1920 := by
  by_cases hz : i.natAbs = 0
  · rw [hz]; decide
  · refine (Nat.log2_lt hz).mpr (Nat.lt_of_le_of_lt (m := 1000000) (by omega) ?_)
    exact Nat.lt_of_lt_of_le (show 1000000 < 2 ^ 20 by decide) (Nat.pow_le_pow_right (by decide) (by decide))
theorem txt_small {i : Int} (h0 : 0 ≤ i) (h1 : i ≤ 1000000) : (Str.ofString (toString i)).length ≤ 100000 := by
  have := PyProof.Rows.toString_length_le h0 (k := 7) (by decide) (Int.lt_of_le_of_lt h1 (by decide))
  omega
theorem ok_bounded {f fw CT : Addr} {fd fdw : FuncData} (F : Fun K "bounded" "bounded" sBounded f fd) (GW : FnOk P w K mg base CX0 1 fw fdw ["kind"] (spWords K)) (bW : Binds K fdw ["kind"] []) (kW : PySem.W.keepIn K (.ref fw) = true) (mW : mg "words_in" = some (.ref fw))
    (mT : mg "TooBig" = some (.ref CT)) (xT : PySem.W.excIn K CT bmVE "ValueError.__new__" = true) : FnOk P w K mg base (CX1 P w) 2 f fd ["kind", "most"] (spBounded K CT) := by
  refine F.okX scBounded (fun vs H Q E h => ?_) (fun cdv A outer s H vs Q E hr h => ?_)
  · obtain ⟨x, k, m, rfl, _⟩ := h
    rfl
  obtain ⟨x, k, m, rfl, hk, h9, m0, m1, q⟩ := h
  refine ⟨_, pss_cons (ps_set (i := 2) scBounded.nd rfl (Or.inl rfl) (pe_call GW hr rfl mW kW bW .nil pass0 (pa_cons (pv 0) pa_nil)))
    (pss_cons (ps_if (pt_cmpR op_gt (pv 2) (pv 1) (nomark _))
      (pss_one (ps_raise1 rfl mT xT (pa_cons (pe_fstr (pj_cons pe_str (pj_cons (pe_fv (pv 2)) (pj_cons pe_str (pj_cons (pe_fv (pv 1)) (pj_cons pe_str pj_nil))))) (by decide)) pa_nil))) pss_nil)
    (pss_one (ps_ret (pv 0)))), ?_⟩
  refine ⟨_, rfl, x, k, rfl, hk, h9, fun H1 s1 => ?_⟩
  have q1 := q H1 s1
  refine ⟨_, rfl, _, rfl, _, _, rfl, rfl, _, rfl, ?_⟩
  refine ite2 (fun c => ?_) (fun c => ?_)
  · have c' : (k.words : Int) > m := of_decide_eq_true c
    rw [if_pos c'] at q1
    have l9 : (0 : Int) ≤ (k.words : Int) ∧ (k.words : Int) ≤ 1000000 := ⟨by omega, by omega⟩
    refine ⟨_, rfl, by decide +kernel, _, rfl, .inr ⟨_, rfl, log_small l9.1 l9.2, _, rfl, txt_small l9.1 l9.2, _, rfl, by decide +kernel, _, rfl, .inr ⟨_, rfl, log_small m0 m1, _, rfl, txt_small m0 m1, _, rfl, by decide +kernel, fun z hz => ⟨(by show 1 ≤ sizeLine; decide), q1⟩⟩⟩⟩
  · have c' : ¬ (k.words : Int) > m := fun z => c (decide_eq_true z)
    rw [if_neg c'] at q1
    exact ⟨_, rfl, q1⟩
end
end K25
namespace K25
open PySem L2 Kk Builtin.Str
theorem idx_to {n j : Nat} (h : j ≤ n) : strSliceIndices none (some (j : Int)) 1 n = List.range j := by
  have e := StrLaws.strSliceIndices_plain (a := 0) (b := j) (len := n) (Nat.zero_le _) h
  have e2 : strSliceIndices none (some (j : Int)) 1 n = strSliceIndices (some ((0 : Nat) : Int)) (some (j : Int)) 1 n := by
    unfold strSliceIndices
    simp
    congr 1
    try omega
  rw [e2, e]
  simp
theorem idx_from {n j : Nat} (h : j ≤ n) : strSliceIndices (some (j : Int)) none 1 n = (List.range (n - j)).map (j + ·) := by
  have e := StrLaws.strSliceIndices_plain (a := j) (b := n) (len := n) h (Nat.le_refl _)
  have e2 : strSliceIndices (some (j : Int)) none 1 n = strSliceIndices (some (j : Int)) (some (n : Int)) 1 n := by
    unfold strSliceIndices
    simp
    congr 1
    split <;> omega
  rw [e2, e]
theorem fm_len {α β : Type} {f : α → Option β} : ∀ {l : List α}, (∀ a ∈ l, (f a).isSome = true) → (l.filterMap f).length = l.length
  | [], _ => rfl
  | a :: l, h => by
    have h1 := h a List.mem_cons_self
    obtain ⟨b, hb⟩ := Option.isSome_iff_exists.mp h1
    rw [List.filterMap_cons_some hb, List.length_cons, List.length_cons, fm_len fun c hc => h c (List.mem_cons_of_mem _ hc)]
theorem slice_len {z : Str} {l u : Option Int} (h : ∀ i ∈ strSliceIndices l u 1 z.length, i < z.length) : (Txt.slice z l u).length = (strSliceIndices l u 1 z.length).length := by
  unfold Txt.slice
  split
  · rename_i c
    simp at c
    exact c.symm
  · show Array.size (List.toArray _) = _
    rw [List.size_toArray]
    refine fm_len fun i hi => ?_
    have := h i hi
    rw [Array.getElem?_eq_getElem (show i < z.cps.size from this)] <;> rfl
theorem slice_to {z : Str} {j : Int} (h0 : 0 ≤ j) (h1 : j ≤ z.length) : (Txt.slice z none (some j)).length = j.toNat := by
  obtain ⟨n, rfl⟩ : ∃ n : Nat, j = n := ⟨j.toNat, by omega⟩
  have hn : n ≤ z.length := by omega
  rw [slice_len (by rw [idx_to hn]; intro i hi; have := List.mem_range.mp hi; omega), idx_to hn, List.length_range]
  simp
theorem slice_from {z : Str} {j : Int} (h0 : 0 ≤ j) (h1 : j ≤ z.length) : (Txt.slice z (some j) none).length = z.length - j.toNat := by
  obtain ⟨n, rfl⟩ : ∃ n : Nat, j = n := ⟨j.toNat, by omega⟩
  have hn : n ≤ z.length := by omega
  rw [slice_len (by rw [idx_from hn]; intro i hi; obtain ⟨k, hk, rfl⟩ := List.mem_map.mp hi; have := List.mem_range.mp hk; omega), idx_from hn, List.length_map, List.length_range]
  simp
end K25
namespace K25
open PySem L2 Kk
def chF (i : Int) : Nat := (atI (Str.ofString "abcdefghijklmnopqrstuvwxyz").cps.toList i).getD 97
def wordRaw (c : Int) : Str := Txt.slice (Txt.mul ⟨#[chF (c / 12 % 1000000007 % 26)]⟩ (1 + c % 12)) none (some (c / 12 % 1000000007 / 26 % (1 + c % 12))) ++ ⟨#[chF (c / 12 % 1000000007 / 312 % 26)]⟩ ++
  Txt.slice (Txt.mul ⟨#[chF (c / 12 % 1000000007 % 26)]⟩ (1 + c % 12)) (some (c / 12 % 1000000007 / 26 % (1 + c % 12) + 1)) none
def wordF (c : Int) : Str := if inV (V.str (wordRaw c)) (noWords.map V.str) = true then wordRaw c ++ "x" else wordRaw c
theorem chF_ok (i : Int) : PyData.strOk ⟨#[chF i]⟩ = true := by
  unfold chF
  cases h : atI (Str.ofString "abcdefghijklmnopqrstuvwxyz").cps.toList i with
  | none => decide +kernel
  | some g => exact sok_at (by decide +kernel) h
theorem raw_ok (c : Int) : PyData.strOk (wordRaw c) = true := sok_app (sok_app (sok_slice (sok_mul (chF_ok _) _) _ _) (chF_ok _)) (sok_slice (sok_mul (chF_ok _) _) _ _)
theorem mul_len (g : Nat) (c : Int) : ((Txt.mul ⟨#[g]⟩ (1 + c % 12)).length : Int) = 1 + c % 12 := by
  have b0 := Int.emod_nonneg c (show (12 : Int) ≠ 0 by decide)
  have e := PyProof.Rows.len_mul ⟨#[g]⟩ (1 + c % 12)
  rw [if_neg (by rw [decide_eq_true_iff]; omega)] at e
  have e1 : ((Str.length ⟨#[g]⟩ : Nat) : Int) = 1 := rfl
  rw [e1] at e
  omega
theorem raw_eq (c : Int) : ((wordRaw c).length : Int) = 1 + c % 12 := by
  have b0 := Int.emod_nonneg c (show (12 : Int) ≠ 0 by decide)
  have m := mul_len (chF (c / 12 % 1000000007 % 26)) c
  have a0 := Int.emod_nonneg (c / 12 % 1000000007 / 26) (show (1 + c % 12 : Int) ≠ 0 by omega)
  have a1 := Int.emod_lt_of_pos (c / 12 % 1000000007 / 26) (show (0 : Int) < 1 + c % 12 by omega)
  unfold wordRaw
  rw [len_app, len_app, slice_to a0 (by omega), slice_from (by omega) (by omega)]
  have o1 : Str.length ⟨#[chF (c / 12 % 1000000007 / 312 % 26)]⟩ = 1 := rfl
  rw [o1]
  omega
theorem raw_len (c : Int) : (wordRaw c).length ≤ 12 := by
  have := raw_eq c
  have := Int.emod_lt_of_pos c (show (0 : Int) < 12 by decide)
  omega
theorem word_ok (c : Int) : PyData.strOk (wordF c) = true := by
  unfold wordF
  split
  · exact sok_app (raw_ok c) (by decide +kernel)
  · exact raw_ok c
theorem word_len (c : Int) : 1 ≤ (wordF c).length ∧ (wordF c).length ≤ 13 := by
  have h1 := raw_len c
  have h2 := raw_eq c
  have h3 := Int.emod_nonneg c (show (12 : Int) ≠ 0 by decide)
  have hx : (Str.ofString "x").length = 1 := by decide +kernel
  unfold wordF
  split
  · rw [len_app]
    omega
  · omega
theorem noWords_len : ∀ z ∈ noWords, z.length ≤ 6 := by decide +kernel
theorem inV_str {z : Str} {ws : List Str} : inV (V.str z) (ws.map V.str) = true ↔ z ∈ ws := by
  unfold inV
  rw [List.any_eq_true]
  constructor
  · rintro ⟨y, hy, e⟩
    obtain ⟨u, hu, rfl⟩ := List.mem_map.mp hy
    have e' : (u == z) = true := e
    rw [← eq_of_beq e']
    exact hu
  · intro h
    exact ⟨V.str z, List.mem_map.mpr ⟨z, h, rfl⟩, (show (z == z) = true from beq_self_eq_true z)⟩
theorem word_long {c : Int} (h : 7 ≤ 1 + c % 12) : ((wordF c).length : Int) = 1 + c % 12 := by
  have e := raw_eq c
  unfold wordF
  split
  · rename_i hm
    have := noWords_len _ (inV_str.mp hm)
    omega
  · exact e
def spWordF : Sp := fun vs H Q _ => ∃ c : Int, vs = [.int c] ∧ ∀ H', Same H H' → Q (.str (wordF c)) H'
section
variable {P : Program} {w : World} {K : PySem.W.Frag} {mg : Str → Option Value} {base : Heap}
theorem ok_wordF {f : Addr} {fd : FuncData} (F : Fun K "_law_word" "_law_word" sWord f fd) : FnOk P w K mg base CX0 1 f fd ["_law_cell_here"] spWordF := by
  refine F.ok scWord (fun vs H Q E h => ?_) (fun cdv A outer s H vs Q E hr h => ?_)
  · obtain ⟨c, rfl, _⟩ := h
    rfl
  obtain ⟨c, rfl, q⟩ := h
  obtain ⟨u6, d6, k6⟩ : ∃ t, PSs (cxOf CX0 P w K mg base ["_law_cell_here", "_law_letters", "_law_size_here", "_law_left", "_law_word_here", "_law_at"] "_law_word" (defScope sWord) f cdv A outer s H E).nox (List.drop 6 (defBody sWord)) t ∧
      ∀ (x1 x2 x3 x5 : Option V), t { nx := fun _ H' => Q .non H', rt := Q } [some (.int c), x1, x2, x3, some (.str (wordRaw c)), x5] H := by
    refine ⟨_, pss_cons (ps_if (pt_cmpR op_in_seq (pv 4) (pe_lst (pa_strs (xs := noWords) (by rfl)) : PE _ _ _) (by with_unfolding_all rfl)) (pss_one (ps_ret (pe_op op_add_str (pv 4) pe_str))) pss_nil) (pss_one (ps_ret (pv 4))), fun x1 x2 x3 x5 => ?_⟩
    refine ⟨_, rfl, (by show 9 ≤ sizeLine; decide), fun l hl => ⟨l, _, rfl, .inl (SqL.of upd_same), rfl, noFlat, _, rfl, ?_⟩⟩
    have sm := same_new hl (.lst (noWords.map V.str))
    have hz := raw_len c
    refine ite2 (fun c1 => ?_) (fun c1 => ?_)
    · have hx : (Str.ofString "x").length = 1 := by decide +kernel
      have c1' : inV (V.str (wordRaw c)) (noWords.map V.str) = true := c1
      have e : wordF c = wordRaw c ++ "x" := if_pos c1'
      refine ⟨_, rfl, _, _, rfl, rfl, small (by omega), ?_⟩
      rw [← e]
      exact q _ sm
    · have c1' : ¬ inV (V.str (wordRaw c)) (noWords.map V.str) = true := c1
      have e : wordF c = wordRaw c := if_neg c1'
      refine ⟨_, rfl, ?_⟩
      rw [← e]
      exact q _ sm
  refine ⟨_, pss_cons (ps_set (i := 1) scWord.nd rfl (Or.inl rfl) pe_str)
    (pss_cons (ps_set (i := 2) scWord.nd rfl (Or.inl rfl) (pe_op op_add pe_int (pe_op op_mod (pv 0) pe_int)))
    (pss_cons (ps_set (i := 3) scWord.nd rfl (Or.inl rfl) (pe_op op_mod (pe_op op_fdiv (pv 0) pe_int) pe_int))
    (pss_cons (ps_set (i := 4) scWord.nd rfl (Or.inl rfl) (pe_op op_mulS (pe_ix ix_str (pv 1) (pe_op op_mod (pv 3) pe_int) (fun _ _ => rfl)) (pv 2)))
    (pss_cons (ps_set (i := 5) scWord.nd rfl (Or.inl rfl) (pe_op op_mod (pe_op op_fdiv (pv 3) pe_int) (pv 2)))
    (pss_cons (ps_set (i := 4) scWord.nd rfl (Or.inl rfl) (pe_op op_add_str (pe_op op_add_str (pe_slice sl_str (pv 4) po_none (po_some (pv 5))) (pe_ix ix_str (pv 1) (pe_op op_mod (pe_op op_fdiv (pv 3) pe_int) pe_int) (fun _ _ => rfl)))
      (pe_slice sl_str (pv 4) (po_some (pe_op op_add (pv 5) pe_int)) po_none))) d6))))), ?_⟩
  have l26 : (Str.ofString "abcdefghijklmnopqrstuvwxyz").length ≤ sizeLine := by decide +kernel
  have h26 : ((Str.ofString "abcdefghijklmnopqrstuvwxyz").cps.toList.length : Int) = 26 := by decide +kernel
  refine ⟨_, rfl, _, _, rfl, rfl, (by show (0 : Int) < 12; decide), _, _, rfl, rfl, ?_⟩
  refine ⟨_, rfl, _, _, rfl, rfl, ⟨by decide, by decide⟩, _, _, rfl, rfl, (by show (0 : Int) < 1000000007; decide), ?_⟩
  have b0 := Int.emod_nonneg c (show (12 : Int) ≠ 0 by decide)
  have b1 := Int.emod_lt_of_pos c (show (0 : Int) < 12 by decide)
  obtain ⟨g, hg⟩ := at_ex (xs := (Str.ofString "abcdefghijklmnopqrstuvwxyz").cps.toList) (i := c / 12 % 1000000007 % 26) (Int.emod_nonneg _ (by decide)) (by rw [h26]; exact Int.emod_lt_of_pos _ (by decide))
  obtain ⟨g2, hg2⟩ := at_ex (xs := (Str.ofString "abcdefghijklmnopqrstuvwxyz").cps.toList) (i := c / 12 % 1000000007 / 312 % 26) (Int.emod_nonneg _ (by decide)) (by rw [h26]; exact Int.emod_lt_of_pos _ (by decide))
  have oL : PyData.strOk (Str.ofString "abcdefghijklmnopqrstuvwxyz") = true := by decide +kernel
  have og := sok_at oL hg
  have og2 := sok_at oL hg2
  have hm : (Txt.mul ⟨#[g]⟩ (1 + c % 12)).length ≤ 12 := by
    have e := PyProof.Rows.len_mul ⟨#[g]⟩ (1 + c % 12)
    rw [if_neg (by rw [decide_eq_true_iff]; omega)] at e
    have e1 : ((Str.length ⟨#[g]⟩ : Nat) : Int) = 1 := rfl
    rw [e1] at e
    omega
  refine ⟨_, rfl, _, rfl, _, _, rfl, rfl, (by show (0 : Int) < 26; decide), _, _, _, rfl, rfl, l26, hg, _, rfl, _, _, rfl, rfl, mulOk_small (by omega) (by omega) (by show 1 ≤ 1000; decide), ?_⟩
  refine ⟨_, rfl, _, _, rfl, rfl, ⟨by decide, by decide⟩, _, rfl, _, _, rfl, rfl, (by show (0 : Int) < 1 + c % 12; omega), ?_⟩
  have s1 := Txt.slice_le (Txt.mul ⟨#[g]⟩ (1 + c % 12)) none (some (c / 12 % 1000000007 / 26 % (1 + c % 12)))
  have s2 := Txt.slice_le (Txt.mul ⟨#[g]⟩ (1 + c % 12)) (some (c / 12 % 1000000007 / 26 % (1 + c % 12) + 1)) none
  have o1 : Str.length ⟨#[g2]⟩ = 1 := rfl
  refine ⟨_, rfl, _, rfl, _, rfl, _, rfl, small (by omega), _, rfl, _, rfl, _, _, rfl, rfl, ⟨by decide, by decide⟩, _, _, rfl, rfl, (by show (0 : Int) < 26; decide), _, _, _, rfl, rfl, l26, hg2, _, _, rfl, rfl, small (by omega), ?_⟩
  refine ⟨_, rfl, _, rfl, _, _, rfl, rfl, _, rfl, _, rfl, small (by omega), _, _, rfl, rfl, small (by rw [len_app]; omega), ?_⟩
  have eg : chF (c / 12 % 1000000007 % 26) = g := by unfold chF; rw [hg]; rfl
  have eg2 : chF (c / 12 % 1000000007 / 312 % 26) = g2 := by unfold chF; rw [hg2]; rfl
  have ez : wordRaw c = Txt.slice (Txt.mul ⟨#[g]⟩ (1 + c % 12)) none (some (c / 12 % 1000000007 / 26 % (1 + c % 12))) ++ ⟨#[g2]⟩ ++ Txt.slice (Txt.mul ⟨#[g]⟩ (1 + c % 12)) (some (c / 12 % 1000000007 / 26 % (1 + c % 12) + 1)) none := by
    unfold wordRaw
    rw [eg, eg2]
  rw [← ez]
  exact k6 _ _ _ _
end
end K25
namespace K25
open PySem L2 Kk
def okW (z : Str) : Prop := PyData.strOk z = true ∧ z.length ≤ 9000
abbrev sInit : Stmt := inClass (top 9) 0
theorem kf' : ¬ (("kinds" : Str) = "funs") := by decide +kernel
/-- Face(kinds, funs): copies of both -/
def spInit (CF : Addr) : Sp := fun vs H Q _ => ∃ (p dx a b : Addr) (kvs fvs : List (Key × V)), vs = [.ref p, .ref a, .ref b] ∧ H p = some (.ins CF dx []) ∧ H a = some (.dK kvs) ∧ H b = some (.dK fvs) ∧
  ∀ (d : Addr) (fs : List (Str × V)) (H' : Hp), H d = none → H' p = some (.ins CF dx fs) → fs.lookup ("kinds" : Str) = some (.ref d) → H' d = some (.dK kvs) → (∀ c o, H c = some o → c ≠ p → H' c = some o) → Q .non H'
def Kd.ok : Kd → Prop
  | .num _ => True
  | .name q t => okW q ∧ okW t
  | .pair a b => Kd.ok a ∧ Kd.ok b
theorem ok_leaves : ∀ {k : Kd}, (∀ l ∈ k.leaves, Kd.ok l) → Kd.ok k
  | .num _, _ => trivial
  | .name q t, h => h (.name q t) (List.mem_singleton.mpr rfl)
  | .pair a b, h => ⟨ok_leaves fun l hl => h l (List.mem_append_left _ hl), ok_leaves fun l hl => h l (List.mem_append_right _ hl)⟩
theorem mem_flat {ks : List Kd} {l : Kd} (h : l ∈ flat ks) : ∃ k ∈ ks, l ∈ k.leaves := by
  unfold flat at h
  obtain ⟨m, hm, hl⟩ := List.mem_flatten.mp h
  obtain ⟨k, hk, rfl⟩ := List.mem_map.mp hm
  exact ⟨k, hk, hl⟩
theorem flat_len {ks : List Kd} (h : ∀ k ∈ ks, k.leaf = true) : (flat ks).length = ks.length := by
  induction ks with
  | nil => rfl
  | cons k ks ih =>
    have e : flat (k :: ks) = k.leaves ++ flat ks := rfl
    rw [e, List.length_append, leaves_of_leaf (h k List.mem_cons_self), ih fun j hj => h j (List.mem_cons_of_mem _ hj)]
    show 1 + ks.length = ks.length + 1
    omega
def LfOk (k : Kd) : Prop := k.leaf = true ∧ Kd.ok k
theorem flat_ok {ks : List Kd} (h : ∀ k ∈ ks, LfOk k) : ∀ l ∈ flat ks, Kd.ok l := fun l hl => by
  obtain ⟨k, hk, hlk⟩ := mem_flat hl
  rw [leaves_of_leaf (h k hk).1] at hlk
  rw [List.mem_singleton.mp hlk]
  exact (h k hk).2
theorem okW_word (c : Int) : okW (wordF c) := ⟨word_ok c, by have := (word_len c).2; omega⟩
def spSize (K : PySem.W.Frag) : Sp := fun vs H Q _ => ∃ (x : V) (k : Kd), vs = [x] ∧ KdAt K H x k ∧ k.words ≤ 900 ∧ ∀ H', Same H H' → Q (.int k.words) H'
section
variable {P : Program} {w : World} {K : PySem.W.Frag} {mg : Str → Option Value} {base : Heap}
theorem bootDict : bootBuiltins "dict" = some (.type "dict") := by decide +kernel
theorem scInit : FnScope ["self", "kinds", "funs"] ["self", "kinds", "funs"] (defScope sInit) := ⟨rfl, rfl, rfl, by decide +kernel, rfl, by decide +kernel, by decide +kernel⟩
theorem scSize : FnScope ["_law_kind", "_law_left", "_law_many", "_law_one"] ["_law_kind"] (defScope sSize) := ⟨rfl, rfl, rfl, by decide +kernel, rfl, by decide +kernel, by decide +kernel⟩
theorem ok_size {f : Addr} {fd : FuncData} (F : Fun K "_law_size" "_law_size" sSize f fd) (ml : mg "len" = none) : FnOk P w K mg base CX0 1 f fd ["_law_kind"] (spSize K) := by
  refine F.ok scSize (fun vs H Q E h => ?_) (fun cdv A outer s H vs Q E hr h => ?_)
  · obtain ⟨x, k, rfl, _⟩ := h
    rfl
  obtain ⟨x, k, rfl, hk, h9, q⟩ := h
  refine ⟨_, pss_cons (ps_set (i := 1) scSize.nd rfl (Or.inl rfl) (pe_lst (pa_cons (pv 0) pa_nil)))
    (pss_cons (ps_set (i := 2) scSize.nd rfl (Or.inl rfl) pe_int)
    (pss_cons (ps_while PassesOwn.never (pt_cmpR op_gt (pe_callB call_len_seq rfl ml PySem.boot_len (pa_cons (pv 1) pa_nil)) pe_int (nomark _))
      (pss_cons (ps_set (i := 3) scSize.nd rfl (Or.inl rfl) (pe_bm0 PySem.F.plainAttrs_list PySem.F.slot_list_pop PySem.F.type_list_pop mt_pop (pv 1)))
      (pss_cons (ps_set (i := 2) scSize.nd rfl (Or.inl rfl) (pe_op op_add (pv 2) pe_int))
      (pss_one (ps_if (pt_cmpR op_eq (pe_ix ix_tup (pv 3) pe_int (fun _ _ => rfl)) pe_str (nomark _))
        (pss_one (ps_set (i := 1) scSize.nd rfl (Or.inl rfl) (pe_op op_cat (pv 1) (pe_lst (pa_cons (pe_ix ix_tup (pv 3) pe_int (fun _ _ => rfl)) (pa_cons (pe_ix ix_tup (pv 3) pe_int (fun _ _ => rfl)) pa_nil)))))) pss_nil)))))
    (pss_one (ps_ret (pv 2))))), ?_⟩
  refine ⟨_, rfl, (by show 1 ≤ sizeLine; decide), fun l hl => ?_⟩
  refine while_rel (fun m σ H2 => ∃ (l2 : Addr) (vs : List V) (ks : List Kd) (n : Nat) (h : Option V), σ = [some x, some (.ref l2), some (.int n), h] ∧ H l2 = none ∧ Same H H2 ∧ H2 l2 = some (.lst vs) ∧ KdsAt K H2 vs ks ∧ n + sumW ks = k.words ∧ m = sumW ks) (sumW [k])
    ⟨l, [x], [k], 0, none, rfl, hl, same_new hl _, upd_same, one (hk.same (same_new hl _)), by rw [sumW_one]; omega, rfl⟩ ?_ ?_
  · rintro m σ H2 ⟨l2, vs, ks, n, h, rfl, hl2, sH, hL, hv, hn, rfl⟩
    refine ⟨_, rfl, l2, _, rfl, .inl (SqL.of hL), _, _, rfl, rfl, _, rfl, ?_⟩
    refine ite2 (fun c => ?_) (fun c => ?_)
    · have c' : (0 : Int) < (vs.length : Int) := of_decide_eq_true c
      have hne : vs ≠ [] := fun e => by rw [e] at c'; exact absurd c' (by decide)
      obtain ⟨us, v, rfl⟩ : ∃ us v, vs = us ++ [v] := ⟨_, _, (List.dropLast_concat_getLast hne).symm⟩
      obtain ⟨ls, j, rfl, hu, hj⟩ := snoc hv
      rw [sumW_app, sumW_one] at hn ⊢
      have hjp := words_pos j
      refine ⟨_, rfl, .inl ⟨rfl, _, SqL.of hL⟩, l2, _, v, rfl, rfl, hL, snoc_get, ?_⟩
      rw [List.dropLast_concat]
      have keep : ∀ a xs, SqT K H2 a xs → SqT K (upd H2 l2 (.lst us)) a xs := fun _ _ t => sqt_upd hL t
      have hu1 := kds_keep keep hu
      have hj1 := kd_keep keep hj
      have sH1 : Same H (upd H2 l2 (.lst us)) := sput sH hl2
      have hl2' := len_sumW ls
      have hul := hu.length
      have e1 : ((n : Int) + 1) = ((n + 1 : Nat) : Int) := by omega
      refine ⟨_, rfl, _, _, rfl, rfl, ?_⟩
      cases hj1 with
      | @num p m t =>
        have hw : (Kd.num m).words = 1 := rfl
        rw [hw] at hn
        refine ⟨_, rfl, _, _, _, _, rfl, rfl, t, (show atI [V.str "num", .int m] 0 = some (.str "num") from rfl), rfl, _, rfl, ite2 (fun c => absurd c (by decide +kernel)) (fun _ => ?_)⟩
        exact ⟨sumW ls, by omega, l2, us, ls, n + 1, _, by rw [← e1] <;> rfl, hl2, sH1, upd_same, hu1, by omega, rfl⟩
      | @name p a b t =>
        have hw : (Kd.name a b).words = 1 := rfl
        rw [hw] at hn
        refine ⟨_, rfl, _, _, _, _, rfl, rfl, t, (show atI [V.str "name", .str a, .str b] 0 = some (.str "name") from rfl), rfl, _, rfl, ite2 (fun c => absurd c (by decide +kernel)) (fun _ => ?_)⟩
        exact ⟨sumW ls, by omega, l2, us, ls, n + 1, _, by rw [← e1] <;> rfl, hl2, sH1, upd_same, hu1, by omega, rfl⟩
      | @pair p y z a b t ha hb =>
        have hw : (Kd.pair a b).words = 1 + a.words + b.words := rfl
        rw [hw] at hn ⊢
        refine ⟨_, rfl, _, _, _, _, rfl, rfl, t, (show atI [V.str "pair", y, z] 0 = some (.str "pair") from rfl), rfl, _, rfl, ite2 (fun _ => ?_) (fun c => absurd (by decide +kernel) c)⟩
        refine ⟨_, rfl, _, rfl, _, _, _, _, rfl, rfl, t, (show atI [V.str "pair", y, z] 1 = some y from rfl), _, rfl, _, _, _, _, rfl, rfl, t, (show atI [V.str "pair", y, z] 2 = some z from rfl), (by show 2 ≤ sizeLine; decide), fun p1 q1 => ?_⟩
        have s1 := same_new q1 (.lst [y, z])
        have hp1 : H p1 = none := by
          cases e : H p1 with
          | none => rfl
          | some u => rw [sH1 _ _ e] at q1; cases q1
        refine ⟨l2, p1, _, _, rfl, rfl, s1 _ _ upd_same, upd_same, small (by show us.length + 2 ≤ 1000; omega), fun p2 q2 => ?_⟩
        have s2 := same_new q2 (.lst (us ++ [y, z]))
        have sA := same_trans s1 s2
        have hp2 : H p2 = none := by
          cases e : H p2 with
          | none => rfl
          | some u => rw [s1 _ _ (sH1 _ _ e)] at q2; cases q2
        have es : sumW (ls ++ [a, b]) = sumW ls + (a.words + b.words) := by
          rw [sumW_app]
          show sumW ls + (a.words + (b.words + 0)) = _
          omega
        refine ⟨sumW (ls ++ [a, b]), by rw [es]; omega, p2, us ++ [y, z], ls ++ [a, b], n + 1, _, by rw [← e1] <;> rfl, hp2, same_trans sH1 sA, upd_same, (hu1.same sA).append (.cons (ha.same sA) (.cons (hb.same sA) .nil)), by rw [es]; omega, rfl⟩
    · have c' : ¬ (0 : Int) < (vs.length : Int) := of_decide_eq_false (Bool.eq_false_iff.mpr c)
      have hv0 : vs = [] := List.length_eq_zero_iff.mp (by omega)
      subst hv0
      cases hv
      have e : n = k.words := hn
      subst e
      exact ⟨_, rfl, q _ sH⟩
  · rintro σ H2 Q1 Q2 hq ⟨v, e1, a, xs, e2, hs, i, j, e3, e4, b, e5, h⟩
    exact ⟨v, e1, a, xs, e2, hs, i, j, e3, e4, b, e5, hq _ _ h⟩
end
end K25

namespace K25
open PySem L2 Kk
theorem pigeon (g : Nat → Nat) (ls : List Nat) (hl : ls.length ≤ 5) (key : ∀ L : Nat, 7 ≤ L → L ≤ 12 → ∃ j, g j = L) (all : ∀ j, g j ∈ ls) : False := by
  have m : ∀ L : Nat, 7 ≤ L → L ≤ 12 → L ∈ ls := fun L h1 h2 => by
    obtain ⟨j, e⟩ := key L h1 h2
    rw [← e]
    exact all j
  have m7 := m 7 (by decide) (by decide)
  have m8 := m 8 (by decide) (by decide)
  have m9 := m 9 (by decide) (by decide)
  have m10 := m 10 (by decide) (by decide)
  have m11 := m 11 (by decide) (by decide)
  have m12 := m 12 (by decide) (by decide)
  clear m key all
  match ls, hl with
  | [], _ => cases m7
  | [a], _ =>
    simp only [List.mem_cons, List.not_mem_nil, or_false] at m7 m8
    omega
  | [a, b], _ =>
    simp only [List.mem_cons, List.not_mem_nil, or_false] at m7 m8 m9
    omega
  | [a, b, d], _ =>
    simp only [List.mem_cons, List.not_mem_nil, or_false] at m7 m8 m9 m10
    omega
  | [a, b, d, e], _ =>
    simp only [List.mem_cons, List.not_mem_nil, or_false] at m7 m8 m9 m10 m11
    omega
  | [a, b, d, e, f], _ =>
    simp only [List.mem_cons, List.not_mem_nil, or_false] at m7 m8 m9 m10 m11 m12
    omega
theorem fresh_word (ws : List Str) (hl : ws.length ≤ 5) (c : Int) : ∃ J : Nat, wordF (c + (J : Int)) ∉ ws := by
  by_cases h : ∃ J : Nat, wordF (c + (J : Int)) ∉ ws
  · exact h
  refine (pigeon (fun j => (wordF (c + (j : Int))).length) (ws.map Str.length) (by rw [List.length_map]; exact hl) (fun L h1 h2 => ?_) fun j => ?_).elim
  · have e : (c + (((((L : Int) - 1 - c) % 12).toNat : Nat) : Int)) % 12 = (L : Int) - 1 := by omega
    refine ⟨(((L : Int) - 1 - c) % 12).toNat, ?_⟩
    have z := word_long (c := c + (((((L : Int) - 1 - c) % 12).toNat : Nat) : Int)) (by omega)
    show (wordF (c + (((((L : Int) - 1 - c) % 12).toNat : Nat) : Int))).length = L
    omega
  · have hm : wordF (c + (j : Int)) ∈ ws := Decidable.byContradiction fun z => h ⟨j, z⟩
    exact List.mem_map_of_mem (f := Str.length) hm
/-- so many words, no two alike -/
def spWordsL (K : PySem.W.Frag) : Sp := fun vs H Q _ => ∃ (a : Addr) (ns : List Int) (st : Int) (m : Int), vs = [.ref a, .int st, .int m] ∧ SqL K H a (ns.map V.int) ∧ ns.length ≤ 63 ∧ 0 ≤ st ∧ st ≤ 900 ∧ 0 ≤ m ∧ m ≤ 6 ∧
  ∀ H' (l : Addr) (ws : List Str), Same H H' → H l = none → H' l = some (.lst (ws.map V.str)) → (ws.length : Int) = m → ws.Nodup → (∀ z ∈ ws, okW z) → Q (.ref l) H'
section
variable {P : Program} {w : World} {K : PySem.W.Frag} {mg : Str → Option Value} {base : Heap}
theorem scWordsL : FnScope ["_law_script", "_law_start", "_law_many", "_law_words_here", "_law_k", "_law_cell_here"] ["_law_script", "_law_start", "_law_many"] (defScope sWordsL) := ⟨rfl, rfl, rfl, by decide +kernel, rfl, by decide +kernel, by decide +kernel⟩
theorem flat_strs (ws : List Str) : (ws.map V.str).all flatV = true := by
  induction ws with
  | nil => rfl
  | cons z ws ih =>
    rw [List.map_cons, List.all_cons, ih]
    rfl
set_option maxHeartbeats 0 in
theorem ok_wordsL {f fc fw : Addr} {fd fdc fdw : FuncData} (F : Fun K "_law_words" "_law_words" sWordsL f fd)
    (GC : FnOk P w K mg base CX0 1 fc fdc ["_law_script", "_law_k"] (spCell K)) (bC : Binds K fdc ["_law_script", "_law_k"] []) (kC : PySem.W.keepIn K (.ref fc) = true) (mC : mg "_law_cell" = some (.ref fc))
    (GW : FnOk P w K mg base CX0 1 fw fdw ["_law_cell_here"] spWordF) (bW : Binds K fdw ["_law_cell_here"] []) (kW : PySem.W.keepIn K (.ref fw) = true) (mW : mg "_law_word" = some (.ref fw)) (mr : mg "range" = none) :
    FnOk P w K mg base CX0 2 f fd ["_law_script", "_law_start", "_law_many"] (spWordsL K) := by
  refine F.ok scWordsL (fun vs H Q E h => ?_) (fun cdv A outer s H vs Q E hr h => ?_)
  · obtain ⟨a, ns, st, m, rfl, _⟩ := h
    rfl
  obtain ⟨a, ns, st, m, rfl, hS, h63, st0, st1, m0, m1, q⟩ := h
  refine ⟨_, pss_cons (ps_set (i := 3) scWordsL.nd rfl (Or.inl rfl) (pe_lst pa_nil))
    (pss_cons (ps_for PassesOwn.never rfl (pi_range1 rfl mr (pa_cons (pv 2) pa_nil)) (pg_name (i := 4) scWordsL.nd rfl (Or.inl rfl))
      (pss_cons (ps_set (i := 5) scWordsL.nd rfl (Or.inl rfl) (pe_call GC hr rfl mC kC bC .nil pass0 (pa_cons (pv 0) (pa_cons (pe_op op_add (pv 1) (pv 4)) pa_nil))))
      (pss_cons (ps_while PassesOwn.never (pt_cmpR op_in_seq (pe_call GW hr rfl mW kW bW .nil pass0 (pa_cons (pv 5) pa_nil)) (pv 3) (by with_unfolding_all rfl))
        (pss_one (ps_set (i := 5) scWordsL.nd rfl (Or.inl rfl) (pe_op op_add (pv 5) pe_int))))
      (pss_one (ps_expr (pe_bm PySem.F.plainAttrs_list PySem.F.slot_list_append PySem.F.type_list_append mt_append (pv 3) (pa_cons (pe_call GW hr rfl mW kW bW .nil pass0 (pa_cons (pv 5) pa_nil)) pa_nil)))))))
    (pss_one (ps_ret (pv 3)))), ?_⟩
  refine ⟨(by show 0 ≤ sizeLine; decide), fun l hl => ?_⟩
  refine ⟨_, rfl, _, rfl, by omega, by omega, for_range (fun i σ H2 => ∃ (ws : List Str) (v c : Option V), σ = [some (.ref a), some (.int st), some (.int m), some (.ref l), v, c] ∧ Same H H2 ∧ H2 l = some (.lst (ws.map V.str)) ∧ ws.length = i ∧ ws.Nodup ∧ ∀ z ∈ ws, okW z)
    ⟨[], none, none, rfl, same_new hl _, upd_same, rfl, List.nodup_nil, fun z hz => nomatch hz⟩ ?_ ?_⟩
  · rintro i σ H2 hi ⟨ws, v, c, rfl, sH, hL, hlen, hnd, hok⟩
    have hi3 : i < 6 := by omega
    refine ⟨_, rfl, _, rfl, _, rfl, _, _, rfl, rfl, a, ns, _, rfl, sql_same sH hS, h63, by omega, by omega, fun ce => ?_⟩
    obtain ⟨J, hJ⟩ := fresh_word ws (by omega) ce
    refine while_rel (fun m' σ H3 => ∃ j : Nat, σ = [some (.ref a), some (.int st), some (.int m), some (.ref l), some (.int (0 + (i : Int))), some (.int (ce + (j : Int)))] ∧ Same H2 H3 ∧ j ≤ J ∧ m' = J - j) (J - 0)
      ⟨0, by rw [show ce + ((0 : Nat) : Int) = ce by omega] <;> rfl, Same.refl _, Nat.zero_le _, rfl⟩ ?_ ?_
    · rintro m' σ H3 ⟨j, rfl, s3, hj, rfl⟩
      refine ⟨_, rfl, _, rfl, fun H4 s4 => ?_⟩
      have hL4 := s4 _ _ (s3 _ _ hL)
      refine ⟨_, rfl, l, _, rfl, .inl (SqL.of hL4), rfl, flat_strs ws, _, rfl, ?_⟩
      refine ite2 (fun c1 => ?_) (fun c1 => ?_)
      · have c1' : inV (V.str (wordF (ce + (j : Int)))) (ws.map V.str) = true := c1
        have hm := inV_str.mp c1'
        have hne : j ≠ J := fun e => hJ (e ▸ hm)
        refine ⟨_, rfl, _, _, rfl, rfl, J - (j + 1), by omega, j + 1, ?_, same_trans s3 s4, by omega, rfl⟩
        show ([some (.ref a), some (.int st), some (.int m), some (.ref l), some (.int (0 + (i : Int))), some (.int (ce + (j : Int) + 1))] : St) = _
        rw [show ce + (j : Int) + 1 = ce + ((j + 1 : Nat) : Int) by omega]
      · have c1' : ¬ inV (V.str (wordF (ce + (j : Int)))) (ws.map V.str) = true := c1
        have hm : wordF (ce + (j : Int)) ∉ ws := fun z => c1' (inV_str.mpr z)
        refine ⟨_, rfl, .inl ⟨rfl, _, SqL.of hL4⟩, _, rfl, _, rfl, fun H5 s5 => ?_⟩
        have hL5 := s5 _ _ hL4
        refine ⟨l, _, _, rfl, rfl, hL5, Nat.lt_of_lt_of_le (Nat.lt_succ_self _) (small (by rw [List.length_map]; omega)), ?_⟩
        refine ⟨ws ++ [wordF (ce + (j : Int))], _, _, rfl, sput (same_trans sH (same_trans s3 (same_trans s4 s5))) hl, ?_, ?_, ?_, ?_⟩
        · rw [upd_same, List.map_append]
          rfl
        · rw [List.length_append, hlen]
          rfl
        · rw [List.nodup_append]
          refine ⟨hnd, by simp, fun x hx y hy => ?_⟩
          rw [List.mem_singleton.mp hy]
          exact fun e => hm (e ▸ hx)
        · intro z hz
          rcases List.mem_append.mp hz with hz | hz
          · exact hok z hz
          · rw [List.mem_singleton.mp hz]
            exact okW_word _
    · rintro σ H3 Q1 Q2 hq ⟨v1, e1, c1, e2, h1⟩
      refine ⟨v1, e1, c1, e2, fun H4 s4 => ?_⟩
      obtain ⟨v2, e3, p, xs, e4, h2, h3, h4, b, e5, h5⟩ := h1 H4 s4
      exact ⟨v2, e3, p, xs, e4, h2, h3, h4, b, e5, hq _ _ h5⟩
  · rintro σ H2 ⟨ws, v, c, rfl, sH, hL, hlen, hnd, hok⟩
    exact ⟨_, rfl, q _ l ws sH hl hL (by omega) hnd hok⟩
end
end K25
namespace K25
open PySem L2 Kk
/-- a function's kinds and kind with kinds put in -/
def spPutFun (K : PySem.W.Frag) (n : Nat) : Sp := fun vs H Q _ => ∃ (p g ta : Addr) (x : V) (xs : List V) (ks : List Kd) (k : Kd) (kvs : List (List Key × V)) (G : Str × Str → Option Kd), vs = [.ref p, .ref g] ∧ SqT K H p [.ref ta, x] ∧ SqT K H ta xs ∧ KdsAt K H xs ks ∧ KdAt K H x k ∧
  (∀ k' ∈ ks, Kd.depth k' ≤ n) ∧ Kd.depth k ≤ n ∧ ks.length ≤ 100 ∧ H g = some (.dT kvs) ∧ GvAt K H kvs G ∧
  ∀ H' (p' ta' : Addr) (xs' : List V) (x' : V), Same H H' → H' p' = some (.tup [.ref ta', x']) → H' ta' = some (.tup xs') → KdsAt K H' xs' (ks.map (Kd.put G)) → KdAt K H' x' (Kd.put G k) → Q (.ref p') H'
section
variable {P : Program} {w : World} {K : PySem.W.Frag} {mg : Str → Option Value} {base : Heap}
theorem scPutFun : FnScope ["fun", "given"] ["fun", "given"] (defScope sPutFun) := ⟨rfl, rfl, rfl, by decide +kernel, rfl, by decide +kernel, by decide +kernel⟩
theorem kds_get {H : Hp} : ∀ {xs : List V} {ks : List Kd}, KdsAt K H xs ks → ∀ {i : Nat} {x : V}, xs[i]? = some x → ∃ k, ks[i]? = some k ∧ KdAt K H x k
  | _, _, .nil, i, x, h => by simp at h
  | _, _, .cons a t, 0, x, h => by
    simp at h
    subst h
    exact ⟨_, rfl, a⟩
  | _, _, .cons a t, i + 1, x, h => by
    simp at h
    obtain ⟨k, hk, r⟩ := kds_get t h
    exact ⟨k, by simpa using hk, r⟩
set_option maxHeartbeats 0 in
theorem ok_putFun {n : Nat} {f fp : Addr} {fd fdp : FuncData} (F : Fun K "put_in_fun" "put_in_fun" sPutFun f fd) (GP : FnOk P w K mg base CX0 n fp fdp ["kind", "given"] (spPut K n)) (bP : Binds K fdp ["kind", "given"] []) (kP : PySem.W.keepIn K (.ref fp) = true) (mP : mg "put" = some (.ref fp)) (mt : mg "tuple" = none) :
    FnOk P w K mg base CX0 (n + 1) f fd ["fun", "given"] (spPutFun K n) := by
  refine F.ok scPutFun (fun vs H Q E h => ?_) (fun cdv A outer s H vs Q E hr h => ?_)
  · obtain ⟨p, g, ta, x, xs, ks, k, kvs, G, rfl, _⟩ := h
    rfl
  obtain ⟨p, g, ta, x, xs, ks, k, kvs, G, rfl, hp, hta, hks, hk, hdk, hd, hl, hg, hG, q⟩ := h
  refine ⟨_, pss_one (ps_ret (pe_tup (pa_cons (pe_callTy call_tuple_of (by rfl) mt bootTuple (pa_cons (pe_comp (own := ["kind"]) (caps := ["given"]) (κ := [1]) rfl ⟨rfl, by decide +kernel, by decide +kernel, rfl, rfl, (fun y hy => by obtain rfl := List.mem_singleton.mp hy; rfl), (fun y hy => by obtain rfl := List.mem_singleton.mp hy; exact ⟨.inl rfl, rfl, .inl rfl⟩)⟩ rfl
    (pi_tup (pe_ix ix_tup (pv 0) pe_int (fun _ _ => rfl))) (fun _ _ _ _ => pg_name (i := 0) (show (["kind", "given"] : List Str).Nodup from by decide +kernel) rfl (Or.inl rfl)) (fun _ _ _ _ => pe_call GP hr rfl mP kP bP .nil pass0 (pa_cons (pv 0) (pa_cons (pv 1) pa_nil)))) pa_nil))
    (pa_cons (pe_call GP hr (by rfl) mP kP bP .nil pass0 (pa_cons (pe_ix ix_tup (pv 0) pe_int (fun _ _ => rfl)) (pa_cons (pv 1) pa_nil))) pa_nil)))), ?_⟩
  have hlx := hks.length
  refine ⟨_, rfl, p, _, _, _, rfl, rfl, hp, (show atI [V.ref ta, x] 0 = some (.ref ta) from rfl), ta, rfl, ⟨_, hta⟩, ?_⟩
  refine comp_by (xs := xs) (fun i ys H3 => Same H H3 ∧ KdsAt K H3 ys ((ks.take i).map (Kd.put G)) ∧ ys.length = i) ⟨Same.refl _, .nil, rfl⟩ (small (by omega)) ?_ ?_ ?_ ?_ ?_ ?_
  · rintro i ys H3 ⟨_, _, h⟩
    exact Nat.le_of_eq h
  · rintro i u ys H3 hu ⟨s3, _⟩
    exact ⟨_, _, s3.tup hta, hu⟩
  · rintro i ys u H3 H' hn ⟨s3, _⟩ hy
    exact ⟨hy.1, hy.2 _ (s3.tup hta)⟩
  · rintro ys H3 ⟨s3, _⟩
    exact ⟨_, s3.tup hta, Nat.le_refl _⟩
  · rintro i u ys H3 N hN hu ⟨s3, hys, hz⟩
    obtain ⟨k1, hk1, hku⟩ := kds_get hks hu
    have hm : k1 ∈ ks := List.mem_of_getElem? hk1
    refine ⟨rfl, tYes_go ⟨_, rfl, _, rfl, u, g, k1, kvs, G, rfl, hku.same s3, hdk k1 hm, s3 _ _ hg, hG.same s3, fun H4 v s4 hv => hN _ _ ⟨s3.trans s4, ?_, ?_⟩⟩⟩
    · have e : (ks.take (i + 1)).map (Kd.put G) = (ks.take i).map (Kd.put G) ++ [Kd.put G k1] := by
        rw [List.take_add_one, hk1]
        simp
      rw [e]
      exact (hys.same s4).append (one hv)
    · rw [List.length_append, hz]
      rfl
  · rintro ys H3 D ⟨s3, hys, hz⟩ hD
    have eA : ks.take xs.length = ks := by rw [hlx]; exact List.take_length
    rw [eA] at hys
    have e1 := same_new hD (.lst ys)
    refine ⟨D, ys, rfl, .inl ⟨SqL.of upd_same, fun ta' hta' => ?_⟩⟩
    have e2 := same_new hta' (.tup ys)
    have s5 := s3.trans (e1.trans e2)
    refine ⟨_, rfl, p, _, _, _, rfl, rfl, s5.tup hp, (show atI [V.ref ta, x] 1 = some x from rfl), _, rfl, x, g, k, kvs, G, rfl, hk.same s5, hd, s5 _ _ hg, hG.same s5, fun H6 x' s6 hx' => ?_⟩
    refine ⟨(by show 2 ≤ sizeLine; decide), fun p' hp' => ?_⟩
    have e7 := same_new hp' (.tup [.ref ta', x'])
    exact q _ p' ta' ys x' (s5.trans (s6.trans e7)) upd_same (e7 _ _ (s6 _ _ upd_same)) (hys.same (e1.trans (e2.trans (s6.trans e7)))) (hx'.same e7)
end
end K25
namespace K25
open PySem L2 Kk
section
variable {P : Program} {w : World} {K : PySem.W.Frag} {mg : Str → Option Value} {base : Heap}
theorem scPutFace : FnScope ["face", "given", "kinds", "word", "kind", "funs", "fun"] ["face", "given"] (defScope sPutFace) := ⟨rfl, rfl, rfl, by decide +kernel, rfl, by decide +kernel, by decide +kernel⟩
end
end K25

namespace K25
open PySem L2 Kk
/-- Face(kinds, funs): copies of both, told of both -/
def spInitF (CF : Addr) : Sp := fun vs H Q _ => ∃ (p dx a b : Addr) (kvs fvs : List (Key × V)), vs = [.ref p, .ref a, .ref b] ∧ H p = some (.ins CF dx []) ∧ H a = some (.dK kvs) ∧ H b = some (.dK fvs) ∧
  ∀ (d e : Addr) (fs : List (Str × V)) (H' : Hp), H d = none → H e = none → d ≠ e → H' p = some (.ins CF dx fs) → fs.lookup ("kinds" : Str) = some (.ref d) → fs.lookup ("funs" : Str) = some (.ref e) → fs.lookup ("hidden" : Str) = none → fs.lookup ("put" : Str) = none → H' d = some (.dK kvs) → H' e = some (.dK fvs) → (∀ c o, H c = some o → c ≠ p → H' c = some o) → Q .non H'
section
variable {P : Program} {w : World} {K : PySem.W.Frag} {mg : Str → Option Value} {base : Heap}
theorem ok_initF {f CF : Addr} {fd : FuncData} (F : Fun K "__init__" "Face.__init__" sInit f fd) (cF : Cls K CF) (nK : NoAttr K CF "kinds") (nF : NoAttr K CF "funs") (md : mg "dict" = none) : FnOk P w K mg base CX0 1 f fd ["self", "kinds", "funs"] (spInitF CF) := by
  refine F.ok scInit (fun vs H Q E h => ?_) (fun cdv A outer s H vs Q E hr h => ?_)
  · obtain ⟨p, dx, a, b, kvs, fvs, rfl, _⟩ := h
    rfl
  obtain ⟨p, dx, a, b, kvs, fvs, rfl, hp, ha, hb, q⟩ := h
  refine ⟨_, pss_cons (ps_fld (pv 0) (pe_callTy call_dict_dK rfl md bootDict (pa_cons (pv 1) pa_nil)) rfl) (pss_one (ps_fld (pv 0) (pe_callTy call_dict_dK rfl md bootDict (pa_cons (pv 2) pa_nil)) rfl)), ?_⟩
  refine ⟨_, rfl, a, kvs, rfl, ha, fun d hd => ?_⟩
  have npd : p ≠ d := ne_of_none hp hd
  refine ⟨_, rfl, p, CF, dx, [], rfl, (by rw [upd_ne npd]; exact hp), cF, nK, (by show 0 < 1000; decide), ?_⟩
  have hb1 : upd (upd H d (.dK kvs)) p (.ins CF dx (putF "kinds" (.ref d) [])) b = some (.dK fvs) := by
    rw [upd_ne (ne_of hb hp (by intro z; cases z)), upd_ne (ne_of_none hb hd)]
    exact hb
  refine ⟨_, rfl, b, fvs, rfl, hb1, fun e he => ?_⟩
  have npe : p ≠ e := fun z => by rw [← z, upd_same] at he; cases he
  have nde : d ≠ e := fun z => by rw [← z, upd_ne npd.symm, upd_same] at he; cases he
  have he0 : H e = none := by
    rw [upd_ne npe.symm, upd_ne nde.symm] at he
    exact he
  refine ⟨_, rfl, p, CF, dx, _, rfl, (by rw [upd_ne npe]; exact upd_same), cF, nF, (by show 1 < 1000; decide), ?_⟩
  refine q d e _ _ hd he0 nde upd_same (by rw [lookup_putF, if_neg kf', lookup_putF, if_pos rfl]) (by rw [lookup_putF, if_pos rfl]) (by rw [lookup_putF, if_neg (by decide +kernel), lookup_putF, if_neg (by decide +kernel)]; rfl) (by rw [lookup_putF, if_neg (by decide +kernel), lookup_putF, if_neg (by decide +kernel)]; rfl) ?_ ?_ fun c o ec hc => ?_
  · rw [upd_ne npd.symm, upd_ne nde, upd_ne npd.symm, upd_same]
  · rw [upd_ne npe.symm, upd_same]
  · have hce : c ≠ e := fun z => by
      rw [z] at ec hc
      rw [he0] at ec
      cases ec
    rw [upd_ne hc, upd_ne hce, upd_ne hc, upd_ne (ne_of_none ec hd)]
    exact ec
end
end K25
namespace K25
open PySem L2 Kk
/-! a dict by texts as a list of pairs, in its order -/
def PkAt {α : Type} (R : V → α → Prop) (kvs : List (Key × V)) (m : List (Str × α)) : Prop := Paired (fun (p : Key × V) (q : Str × α) => p.1 = .inr q.1 ∧ R p.2 q.2) kvs m
theorem PkAt.snoc {α : Type} {R : V → α → Prop} {kvs : List (Key × V)} {m : List (Str × α)} {z : Str} {v : V} {x : α} (h : PkAt R kvs m) (hv : R v x) : PkAt R (kvs ++ [(.inr z, v)]) (m ++ [(z, x)]) := by
  unfold PkAt at h ⊢
  induction h with
  | nil => exact .cons ⟨rfl, hv⟩ .nil
  | cons a _ ih => exact .cons a ih
theorem PkAt.imp {α : Type} {R S : V → α → Prop} {kvs : List (Key × V)} {m : List (Str × α)} (f : ∀ v x, R v x → S v x) (h : PkAt R kvs m) : PkAt S kvs m := Paired.mapP h fun _ _ ⟨e, r⟩ => ⟨e, f _ _ r⟩
theorem PkAt.keys {α : Type} {R : V → α → Prop} {kvs : List (Key × V)} {m : List (Str × α)} (h : PkAt R kvs m) : kvs.map (·.1) = m.map fun q => (Sum.inr q.1 : Key) := by
  unfold PkAt at h
  induction h with
  | nil => rfl
  | cons a _ ih => rw [List.map_cons, List.map_cons, ih, a.1]
theorem valV_out {kvs : List (Key × V)} {k : Key} (h : k ∉ kvs.map (·.1)) : valV kvs k = none := by
  cases e : valV kvs k with
  | none => rfl
  | some v =>
    exfalso
    apply h
    unfold valV at e
    obtain ⟨p, hp, _⟩ := Option.map_eq_some_iff.mp e
    have h1 := List.mem_of_find?_eq_some hp
    have h2 := List.find?_some hp
    have h3 : p.1 = k := by simpa using h2
    rw [← h3]
    exact List.mem_map_of_mem h1
/-- a word that is none of the dict's: it is put at the end -/
theorem PkAt.put {α : Type} {R : V → α → Prop} {kvs : List (Key × V)} {m : List (Str × α)} {z : Str} {v : V} {x : α} (h : PkAt R kvs m) (hz : z ∉ m.map (·.1)) (hv : R v x) : PkAt R (putK kvs (.inr z) v) (m ++ [(z, x)]) := by
  rw [putK_new v (valV_out ?_)]
  · exact h.snoc hv
  · rw [h.keys]
    intro hm
    obtain ⟨q, hq, e⟩ := List.mem_map.mp hm
    exact hz (by rw [← Sum.inr.inj e]; exact List.mem_map_of_mem hq)
/-- a function of a face, on the heap -/
def FunAt (K : PySem.W.Frag) (H : Hp) (v : V) (f : List Kd × Kd) : Prop := ∃ (p ta : Addr) (x : V) (xs : List V), v = .ref p ∧ SqT K H p [.ref ta, x] ∧ SqT K H ta xs ∧ KdsAt K H xs f.1 ∧ KdAt K H x f.2
theorem FunAt.keep {K : PySem.W.Frag} {H H' : Hp} {v : V} {f : List Kd × Kd} (e : ∀ a xs, SqT K H a xs → SqT K H' a xs) (h : FunAt K H v f) : FunAt K H' v f := by
  obtain ⟨p, ta, x, xs, h1, h2, h3, h4, h5⟩ := h
  exact ⟨p, ta, x, xs, h1, e _ _ h2, e _ _ h3, kds_keep e h4, kd_keep e h5⟩
end K25

namespace K25
open PySem L2 Kk
section
variable {P : Program} {w : World} {K : PySem.W.Frag} {mg : Str → Option Value} {base : Heap}
abbrev pfN : List Str := ["face", "given", "kinds", "word", "kind", "funs", "fun"]
def putP (G : Str × Str → Option Kd) (q : Str × Kd) : Str × Kd := (q.1, Kd.put G q.2)
theorem sqt_dk {H : Hp} {l a : Addr} {kvs : List (Key × V)} {xs : List V} {o : HO} (h : H l = some (.dK kvs)) (t : SqT K H a xs) : SqT K (upd H l o) a xs := by
  rcases t with (t | ⟨o', t⟩) | t
  · exact .inl (.inl (by rw [upd_ne (fun e => by rw [e, h] at t; cases t)]; exact t))
  · exact .inl (.inr ⟨o', by rw [upd_ne (fun e => by rw [e, h] at t; cases t)]; exact t⟩)
  · exact .inr t
theorem sqt_fz {H : Hp} {l a : Addr} {ob : Obj} {kvs : List (Key × V)} {xs : List V} {o : HO} (h : H l = some (.frz ob (.dK kvs))) (t : SqT K H a xs) : SqT K (upd H l o) a xs := by
  rcases t with (t | ⟨o', t⟩) | t
  · exact .inl (.inl (by rw [upd_ne (fun e => by rw [e, h] at t; cases t)]; exact t))
  · exact .inl (.inr ⟨o', by rw [upd_ne (fun e => by rw [e, h] at t; cases t)]; exact t⟩)
  · exact .inr t
theorem out_take {l : List Str} {i : Nat} {z : Str} (hn : l.Nodup) (h : l[i]? = some z) : z ∉ l.take i := fun hm => by
  have e : l = l.take i ++ l.drop i := (List.take_append_drop i l).symm
  rw [e, List.nodup_append] at hn
  have hd : z ∈ l.drop i := List.mem_of_getElem? (i := 0) (by rw [List.getElem?_drop]; exact h)
  exact hn.2.2 z hm z hd rfl
/-- the first loop of put_in_face -/
theorem pf_loop {n : Nat} {f fp CF : Addr} {fdp : FuncData} (GP : FnOk P w K mg base CX0 n fp fdp ["kind", "given"] (spPut K n)) (bP : Binds K fdp ["kind", "given"] []) (kP : PySem.W.keepIn K (.ref fp) = true) (mP : mg "put" = some (.ref fp)) (cF : Cls K CF) (nK : NoAttr K CF "kinds")
    {cdv : Value} {A : Around} {outer : List Env} {s : Shared} {H : Hp} {E : XK} (hr : Room (n + 2) (A.deeper (PyProof.Rows.envOfC "put_in_face" (defScope sPutFace) s.heap.objs.size f cdv))) :
    ∃ t, PS (cxOf CX0 P w K mg base pfN "put_in_face" (defScope sPutFace) f cdv A outer s H E).nox ((defBody sPutFace).getD 1 (.Pass ⟨0, 0, 0, 0⟩)) t ∧
      ∀ (D : Ends) (H1 : Hp) (fa g dx d1 kd : Addr) (fs : List (Str × V)) (kv1 : List (Key × V)) (m1 : List (Str × Kd)) (kvs : List (List Key × V)) (G : Str × Str → Option Kd), Same H H1 → H fa = some (.ins CF dx fs) → fs.lookup ("kinds" : Str) = some (.ref d1) → H d1 = some (.dK kv1) → PkAt (KdAt K H) kv1 m1 → (m1.map (·.1)).Nodup → m1.length ≤ 100 →
        (∀ q ∈ m1, Kd.depth q.2 ≤ n) → H g = some (.dT kvs) → GvAt K H kvs G → H kd = none → H1 kd = some (.dK []) →
        (∀ (H4 : Hp) (y3 y4 : Option V) (kv' : List (Key × V)), Same H H4 → H4 kd = some (.dK kv') → PkAt (KdAt K H4) kv' (m1.map (putP G)) → D.nx [some (.ref fa), some (.ref g), some (.ref kd), y3, y4, none, none] H4) →
        t D [some (.ref fa), some (.ref g), some (.ref kd), none, none, none, none] H1 := by
  have hu := hu_of hr
  have hr0 : Room n _ := hr.mono (by omega)
  refine ⟨_, ps_thaw (ps_for PassesOwn.never rfl (pi_items (pe_fld (pv 0) rfl)) (pg_tup rfl (pgs_cons (pg_name (i := 3) scPutFace.nd rfl (Or.inl rfl)) (pgs_cons (pg_name (i := 4) scPutFace.nd rfl (Or.inl rfl)) pgs_nil)))
      (pss_one (ps_dput hu (pv 2) (pv 3) (pe_call GP hr0 (by rfl) mP kP bP .nil pass0 (pa_cons (pv 4) (pa_cons (pv 1) pa_nil))) rfl))), ?_⟩
  intro D H1 fa g dx d1 kd fs kv1 m1 kvs G s1 hfa hl1 hd1 hk1 hnd h100 hdp hg hG hkd hkd1 q
  have hlen : kv1.length = m1.length := Paired.length hk1
  have nkd : kd ≠ d1 := fun e => by rw [e, hd1] at hkd; cases hkd
  refine ⟨_, rfl, fa, CF, dx, fs, _, rfl, s1 _ _ hfa, cF, nK, hl1, d1, kv1, rfl, s1 _ _ hd1, fun o => ?_⟩
  refine for_items (fun i σ H3 => ∃ (kv' : List (Key × V)) (y3 y4 : Option V), σ = [some (.ref fa), some (.ref g), some (.ref kd), y3, y4, none, none] ∧ (∀ b u, H b = some u → b ≠ d1 → H3 b = some u) ∧ H3 d1 = some (.frz o (.dK kv1)) ∧ H3 kd = some (.dK kv') ∧
    PkAt (KdAt K H3) kv' ((m1.take i).map (putP G)) ∧ kv'.length ≤ i ∧ (∀ a xs, SqT K H a xs → SqT K H3 a xs)) ?_ ?_ ?_ ?_
  · refine ⟨[], none, none, rfl, fun b u hb nb => by rw [upd_ne nb]; exact s1 _ _ hb, upd_same, by rw [upd_ne nkd]; exact hkd1, .nil, Nat.le_refl _, fun a xs h => sqt_dk (s1 _ _ hd1) (s1.tup h)⟩
  · rintro i σ H3 _ ⟨_, _, _, _, _, h, _⟩
    exact h
  · rintro i p a σ H3 hp ha ⟨kv', y3, y4, rfl, old, hd3, hkd3, hpk, hfew, keep⟩
    obtain ⟨⟨z, k⟩, hq, ez, hkz⟩ := pair_get hk1 hp
    obtain ⟨pk, pw⟩ := p
    replace ez : pk = .inr z := ez
    replace hkz : KdAt K H pw k := hkz
    subst ez
    have hi : i < m1.length := (List.getElem?_eq_some_iff.mp hq).1
    have ea := same_new ha (.tup [kV (.inr z), pw])
    refine ⟨a, _, rfl, SqT.of upd_same, rfl, _, _, rfl, _, _, rfl, rfl, ?_⟩
    have gne : g ≠ d1 := fun e => by rw [e, hd1] at hg; cases hg
    have keepA : ∀ b xs, SqT K H b xs → SqT K (upd H3 a (.tup [kV (.inr z), pw])) b xs := fun b xs h => ea.tup (keep b xs h)
    refine ⟨_, rfl, _, rfl, pw, g, k, kvs, G, rfl, kd_keep keepA hkz, hdp (z, k) (List.mem_of_getElem? hq), ea _ _ (old g _ hg gne), fun nn => ?_, fun H4 v s4 hv => ?_⟩
    · rcases hG nn with h | ⟨v, k', h1, h2, h3⟩
      · exact .inl h
      · exact .inr ⟨v, k', h1, h2, kd_keep keepA h3⟩
    · have hkd4 := s4 _ _ (ea _ _ hkd3)
      refine ⟨_, rfl, _, rfl, kd, _, rfl, DPut.k (k := .inr z) hkd4 (Nat.lt_of_lt_of_le (Nat.lt_succ_self _) (small (by omega))), ?_⟩
      have kp5 : ∀ b xs, SqT K H4 b xs → SqT K (upd H4 kd (.dK (putK kv' (.inr z) v))) b xs := fun b xs h => sqt_dk hkd4 h
      refine ⟨_, _, _, rfl, fun b u hb nb => ?_, ?_, upd_same, ?_, ?_, fun b xs h => kp5 b xs (s4.tup (keepA b xs h))⟩
      · rw [upd_ne (fun e => by rw [e, hkd] at hb; cases hb)]
        exact s4 _ _ (ea _ _ (old b u hb nb))
      · rw [upd_ne (Ne.symm nkd)]
        exact s4 _ _ (ea _ _ hd3)
      · have et : (m1.take (i + 1)).map (putP G) = (m1.take i).map (putP G) ++ [(z, Kd.put G k)] := by
          rw [List.take_add_one, hq]
          simp [putP]
        rw [et]
        refine PkAt.put (hpk.imp fun v' x' h => kd_keep (fun b xs t => kp5 b xs (s4.tup (ea.tup t))) h) ?_ (kd_keep kp5 hv)
        have e1 : ((m1.take i).map (putP G)).map (·.1) = (m1.map (·.1)).take i := by
          rw [List.map_map, List.map_take]
          rfl
        rw [e1]
        exact out_take hnd (by rw [List.getElem?_map, hq]; rfl)
      · have := length_putK kv' (.inr z) v
        omega
  · rintro σ H3 ⟨kv', y3, y4, rfl, old, hd3, hkd3, hpk, hfew, keep⟩
    refine ⟨d1, o, .dK kv1, hd3, fun o' u' e => ?_, ?_⟩
    · have e' : H d1 = some (.frz o' u') := e
      rw [hd1] at e'
      cases e'
    · have hs : Same H (upd H3 d1 (.dK kv1)) := fun b u hb => by
        by_cases e : b = d1
        · rw [e] at hb ⊢
          rw [hd1] at hb
          cases hb
          exact upd_same
        · rw [upd_ne e]
          exact old b u hb e
      refine q _ y3 y4 kv' hs (by rw [upd_ne nkd]; exact hkd3) ?_
      rw [hlen, List.take_length] at hpk
      exact hpk.imp fun v x h => kd_keep (fun a xs t => sqt_fz hd3 t) h
end
end K25
namespace K25
open PySem L2 Kk
section
variable {P : Program} {w : World} {K : PySem.W.Frag} {mg : Str → Option Value} {base : Heap}
def putQ (G : Str × Str → Option Kd) (q : Str × (List Kd × Kd)) : Str × (List Kd × Kd) := (q.1, (q.2.1.map (Kd.put G), Kd.put G q.2.2))
/-- the second loop of put_in_face, over the heap B ahead of its new dict -/
theorem pf_loop2 {n : Nat} {f fp CF : Addr} {fdp : FuncData} (GP : FnOk P w K mg base CX0 (n + 1) fp fdp ["fun", "given"] (spPutFun K n)) (bP : Binds K fdp ["fun", "given"] []) (kP : PySem.W.keepIn K (.ref fp) = true) (mP : mg "put_in_fun" = some (.ref fp)) (cF : Cls K CF) (nK : NoAttr K CF "funs")
    {cdv : Value} {A : Around} {outer : List Env} {s : Shared} {H : Hp} {E : XK} (hr : Room (n + 2) (A.deeper (PyProof.Rows.envOfC "put_in_face" (defScope sPutFace) s.heap.objs.size f cdv))) :
    ∃ t, PS (cxOf CX0 P w K mg base pfN "put_in_face" (defScope sPutFace) f cdv A outer s H E).nox ((defBody sPutFace).getD 3 (.Pass ⟨0, 0, 0, 0⟩)) t ∧
      ∀ (D : Ends) (B H1 : Hp) (fa g dx d1 kd : Addr) (k0 y3 y4 : Option V) (fs : List (Str × V)) (kv1 : List (Key × V)) (m1 : List (Str × (List Kd × Kd))) (kvs : List (List Key × V)) (G : Str × Str → Option Kd), (∀ o u, H d1 ≠ some (.frz o u)) → Same B H1 → B fa = some (.ins CF dx fs) → fs.lookup ("funs" : Str) = some (.ref d1) → B d1 = some (.dK kv1) → PkAt (FunAt K B) kv1 m1 → (m1.map (·.1)).Nodup → m1.length ≤ 100 →
        (∀ q ∈ m1, (∀ k ∈ q.2.1, Kd.depth k ≤ n) ∧ Kd.depth q.2.2 ≤ n ∧ q.2.1.length ≤ 100) → B g = some (.dT kvs) → GvAt K B kvs G → B kd = none → H1 kd = some (.dK []) →
        (∀ (H4 : Hp) (y3 y6 : Option V) (kv' : List (Key × V)), Same B H4 → H4 kd = some (.dK kv') → PkAt (FunAt K H4) kv' (m1.map (putQ G)) → D.nx [some (.ref fa), some (.ref g), k0, y3, y4, some (.ref kd), y6] H4) →
        t D [some (.ref fa), some (.ref g), k0, y3, y4, some (.ref kd), none] H1 := by
  have hu := hu_of hr
  have hr0 : Room (n + 1) _ := hr.mono (by omega)
  refine ⟨_, ps_thaw (ps_for PassesOwn.never rfl (pi_items (pe_fld (pv 0) rfl)) (pg_tup rfl (pgs_cons (pg_name (i := 3) scPutFace.nd rfl (Or.inl rfl)) (pgs_cons (pg_name (i := 6) scPutFace.nd rfl (Or.inl rfl)) pgs_nil)))
      (pss_one (ps_dput hu (pv 5) (pv 3) (pe_call GP hr0 (by rfl) mP kP bP .nil pass0 (pa_cons (pv 6) (pa_cons (pv 1) pa_nil))) rfl))), ?_⟩
  intro D B H1 fa g dx d1 kd k0 y30 y4 fs kv1 m1 kvs G hH s1 hfa hl1 hd1 hk1 hnd h100 hdp hg hG hkd hkd1 q
  have hlen : kv1.length = m1.length := Paired.length hk1
  have nkd : kd ≠ d1 := fun e => by rw [e, hd1] at hkd; cases hkd
  refine ⟨_, rfl, fa, CF, dx, fs, _, rfl, s1 _ _ hfa, cF, nK, hl1, d1, kv1, rfl, s1 _ _ hd1, fun o => ?_⟩
  refine for_items (fun i σ H3 => ∃ (kv' : List (Key × V)) (y3 y6 : Option V), σ = [some (.ref fa), some (.ref g), k0, y3, y4, some (.ref kd), y6] ∧ (∀ b u, B b = some u → b ≠ d1 → H3 b = some u) ∧ H3 d1 = some (.frz o (.dK kv1)) ∧ H3 kd = some (.dK kv') ∧
    PkAt (FunAt K H3) kv' ((m1.take i).map (putQ G)) ∧ kv'.length ≤ i ∧ (∀ a xs, SqT K B a xs → SqT K H3 a xs)) ?_ ?_ ?_ ?_
  · refine ⟨[], y30, none, rfl, fun b u hb nb => by rw [upd_ne nb]; exact s1 _ _ hb, upd_same, by rw [upd_ne nkd]; exact hkd1, .nil, Nat.le_refl _, fun a xs h => sqt_dk (s1 _ _ hd1) (s1.tup h)⟩
  · rintro i σ H3 _ ⟨_, _, _, _, _, h, _⟩
    exact h
  · rintro i p a σ H3 hp ha ⟨kv', y3, y6, rfl, old, hd3, hkd3, hpk, hfew, keep⟩
    obtain ⟨⟨z, k⟩, hq, ez, hkz⟩ := pair_get hk1 hp
    obtain ⟨pk, pw⟩ := p
    replace ez : pk = .inr z := ez
    replace hkz : FunAt K B pw k := hkz
    obtain ⟨tp, ta, tx, txs, rfl, f1, f2, f3, f4⟩ := hkz
    obtain ⟨dpA, dpB, dpC⟩ := hdp (z, k) (List.mem_of_getElem? hq)
    subst ez
    have hi : i < m1.length := (List.getElem?_eq_some_iff.mp hq).1
    have ea := same_new ha (.tup [kV (.inr z), .ref tp])
    refine ⟨a, _, rfl, SqT.of upd_same, rfl, _, _, rfl, _, _, rfl, rfl, ?_⟩
    have gne : g ≠ d1 := fun e => by rw [e, hd1] at hg; cases hg
    have keepA : ∀ b xs, SqT K B b xs → SqT K (upd H3 a (.tup [kV (.inr z), .ref tp])) b xs := fun b xs h => ea.tup (keep b xs h)
    refine ⟨_, rfl, _, rfl, tp, g, ta, tx, txs, k.1, k.2, kvs, G, rfl, keepA _ _ f1, keepA _ _ f2, kds_keep keepA f3, kd_keep keepA f4, dpA, dpB, dpC, ea _ _ (old g _ hg gne), fun nn => ?_, fun H4 p4 ta4 xs4 x4 s4 v1 v2 v3 v4 => ?_⟩
    · rcases hG nn with h | ⟨v, k', h1, h2, h3⟩
      · exact .inl h
      · exact .inr ⟨v, k', h1, h2, kd_keep keepA h3⟩
    · have hkd4 := s4 _ _ (ea _ _ hkd3)
      refine ⟨_, rfl, _, rfl, kd, _, rfl, DPut.k (k := .inr z) hkd4 (Nat.lt_of_lt_of_le (Nat.lt_succ_self _) (small (by omega))), ?_⟩
      have kp5 : ∀ b xs, SqT K H4 b xs → SqT K (upd H4 kd (.dK (putK kv' (.inr z) (.ref p4)))) b xs := fun b xs h => sqt_dk hkd4 h
      refine ⟨_, _, _, rfl, fun b u hb nb => ?_, ?_, upd_same, ?_, ?_, fun b xs h => kp5 b xs (s4.tup (keepA b xs h))⟩
      · rw [upd_ne (fun e => by rw [e, hkd] at hb; cases hb)]
        exact s4 _ _ (ea _ _ (old b u hb nb))
      · rw [upd_ne (Ne.symm nkd)]
        exact s4 _ _ (ea _ _ hd3)
      · have et : (m1.take (i + 1)).map (putQ G) = (m1.take i).map (putQ G) ++ [(z, (k.1.map (Kd.put G), Kd.put G k.2))] := by
          rw [List.take_add_one, hq]
          simp [putQ]
        rw [et]
        refine PkAt.put (hpk.imp fun v' x' h => h.keep (fun b xs t => kp5 b xs (s4.tup (ea.tup t)))) ?_ ⟨p4, ta4, x4, xs4, rfl, kp5 _ _ (SqT.of v1), kp5 _ _ (SqT.of v2), kds_keep kp5 v3, kd_keep kp5 v4⟩
        have e1 : ((m1.take i).map (putQ G)).map (·.1) = (m1.map (·.1)).take i := by
          rw [List.map_map, List.map_take]
          rfl
        rw [e1]
        exact out_take hnd (by rw [List.getElem?_map, hq]; rfl)
      · have := length_putK kv' (.inr z) (.ref p4)
        omega
  · rintro σ H3 ⟨kv', y3, y6, rfl, old, hd3, hkd3, hpk, hfew, keep⟩
    refine ⟨d1, o, .dK kv1, hd3, fun o' u' e => hH o' u' e, ?_⟩
    · have hs : Same B (upd H3 d1 (.dK kv1)) := fun b u hb => by
        by_cases e : b = d1
        · rw [e] at hb ⊢
          rw [hd1] at hb
          cases hb
          exact upd_same
        · rw [upd_ne e]
          exact old b u hb e
      refine q _ y3 y6 kv' hs (by rw [upd_ne nkd]; exact hkd3) ?_
      rw [hlen, List.take_length] at hpk
      exact hpk.imp fun v x h => h.keep (fun a xs t => sqt_fz hd3 t)
end
end K25
namespace K25
open PySem L2 Kk
/-- a face as it lies: its kinds and its functions, in order -/
def FaceF (K : PySem.W.Frag) (H : Hp) (CF fa : Addr) (m1 : List (Str × Kd)) (m2 : List (Str × (List Kd × Kd))) : Prop :=
  ∃ (dx d1 d2 : Addr) (fs : List (Str × V)) (kv1 kv2 : List (Key × V)), H fa = some (.ins CF dx fs) ∧ fs.lookup ("kinds" : Str) = some (.ref d1) ∧ fs.lookup ("funs" : Str) = some (.ref d2) ∧ H d1 = some (.dK kv1) ∧ H d2 = some (.dK kv2) ∧ PkAt (KdAt K H) kv1 m1 ∧ PkAt (FunAt K H) kv2 m2 ∧ fs.lookup ("hidden" : Str) = none ∧ fs.lookup ("put" : Str) = none
/-- a new face: its dicts are new over H0, too -/
def FaceN (K : PySem.W.Frag) (H0 H : Hp) (CF fa : Addr) (m1 : List (Str × Kd)) (m2 : List (Str × (List Kd × Kd))) : Prop :=
  ∃ (dx d1 d2 : Addr) (fs : List (Str × V)) (kv1 kv2 : List (Key × V)), H0 d1 = none ∧ H0 d2 = none ∧ d1 ≠ d2 ∧ H fa = some (.ins CF dx fs) ∧ fs.lookup ("kinds" : Str) = some (.ref d1) ∧ fs.lookup ("funs" : Str) = some (.ref d2) ∧ H d1 = some (.dK kv1) ∧ H d2 = some (.dK kv2) ∧ PkAt (KdAt K H) kv1 m1 ∧ PkAt (FunAt K H) kv2 m2 ∧ fs.lookup ("hidden" : Str) = none ∧ fs.lookup ("put" : Str) = none
def spPutFace (K : PySem.W.Frag) (CF : Addr) (n : Nat) : Sp := fun vs H Q _ => ∃ (fa g : Addr) (m1 : List (Str × Kd)) (m2 : List (Str × (List Kd × Kd))) (kvs : List (List Key × V)) (G : Str × Str → Option Kd), vs = [.ref fa, .ref g] ∧ FaceF K H CF fa m1 m2 ∧ (m1.map (·.1)).Nodup ∧ (m2.map (·.1)).Nodup ∧ m1.length ≤ 100 ∧ m2.length ≤ 100 ∧
  (∀ q ∈ m1, Kd.depth q.2 ≤ n) ∧ (∀ q ∈ m2, (∀ k ∈ q.2.1, Kd.depth k ≤ n) ∧ Kd.depth q.2.2 ≤ n ∧ q.2.1.length ≤ 100) ∧ H g = some (.dT kvs) ∧ GvAt K H kvs G ∧
  ∀ H' (x : Addr), Same H H' → H x = none → FaceN K H H' CF x (m1.map (putP G)) (m2.map (putQ G)) → Q (.ref x) H'
section
variable {P : Program} {w : World} {K : PySem.W.Frag} {mg : Str → Option Value} {base : Heap}
set_option maxHeartbeats 0 in
theorem ok_putFace {n : Nat} {f fp fq fi CF : Addr} {fd fdp fdq fdi : FuncData} (F : Fun K "put_in_face" "put_in_face" sPutFace f fd) (GP : FnOk P w K mg base CX0 n fp fdp ["kind", "given"] (spPut K n)) (bP : Binds K fdp ["kind", "given"] []) (kP : PySem.W.keepIn K (.ref fp) = true) (mP : mg "put" = some (.ref fp))
    (GF : FnOk P w K mg base CX0 (n + 1) fq fdq ["fun", "given"] (spPutFun K n)) (bF : Binds K fdq ["fun", "given"] []) (kF : PySem.W.keepIn K (.ref fq) = true) (mF : mg "put_in_fun" = some (.ref fq))
    (GI : FnOk P w K mg base CX0 1 fi fdi ["self", "kinds", "funs"] (spInitF CF)) (bI : Binds K fdi ["self", "kinds", "funs"] []) (MF : Mk K CF fi) (mC : mg "Face" = some (.ref CF)) (cF : Cls K CF) (nK : NoAttr K CF "kinds") (nF : NoAttr K CF "funs") :
    FnOk P w K mg base CX0 (n + 2 + 1) f fd ["face", "given"] (spPutFace K CF n) := by
  refine F.ok scPutFace (fun vs H Q E h => ?_) (fun cdv A outer s H vs Q E hr h => ?_)
  · obtain ⟨fa, g, m1, m2, kvs, G, rfl, _⟩ := h
    rfl
  obtain ⟨fa, g, m1, m2, kvs, G, rfl, ⟨dx, d1, d2, fs, kv1, kv2, hfa, l1, l2, hd1, hd2, hk1, hk2, _, _⟩, nd1, nd2, hm1, hm2, dp1, dp2, hg, hG, q⟩ := h
  have hr2 : Room (1 + 1) _ := hr.mono (by omega)
  obtain ⟨t1, e1, k1⟩ := pf_loop (outer := outer) (H := H) (E := E) GP bP kP mP cF nK hr
  obtain ⟨t3, e3, k3⟩ := pf_loop2 (outer := outer) (H := H) (E := E) GF bF kF mF cF nF hr
  refine ⟨_, (@pss_cons _ _ _ _ _ (@ps_set _ _ 2 _ _ _ _ scPutFace.nd rfl (Or.inl rfl) (@pe_dnewK _ _) rfl (Or.inl rfl))
    (@pss_cons _ _ _ _ _ @e1
    (@pss_cons _ _ _ _ _ (@ps_set _ _ 5 _ _ _ _ scPutFace.nd rfl (Or.inl rfl) (@pe_dnewK _ _) rfl (Or.inl rfl))
    (@pss_cons _ _ _ _ _ @e3
    (pss_one (ps_ret (pe_make MF GI hr2 (by rfl) mC bI .nil pass0 (pa_cons (pv 2) (pa_cons (pv 5) pa_nil)))))))) : PSs (cxOf CX0 P w K mg base pfN "put_in_face" (defScope sPutFace) f cdv A outer s H E).nox (defBody sPutFace) _), ?_⟩
  intro kd hkd
  refine k1 _ _ fa g dx d1 kd fs kv1 m1 kvs G (same_new hkd _) hfa l1 hd1 hk1 nd1 hm1 dp1 hg hG hkd upd_same fun H4 y3 y4 kv' s4 hkd4 hpk => ?_
  intro fd2 hfd2
  refine k3 _ H4 _ fa g dx d2 fd2 _ y3 y4 fs kv2 m2 kvs G (fun o u e => by rw [hd2] at e; cases e) (same_new hfd2 _) (s4 _ _ hfa) l2 (s4 _ _ hd2) (hk2.imp fun v x h => h.keep fun a xs t => s4.tup t) nd2 hm2 dp2 (s4 _ _ hg) (hG.same s4) hfd2 upd_same fun H6 y3' y6 kv6 s6 hfd6 hpf => ?_
  refine ⟨_, rfl, _, rfl, fun x dx' nx ndx nex => ?_⟩
  have ea := same_new ndx (.own x)
  have nx' : upd H6 dx' (.own x) x = none := by rw [upd_ne (Ne.symm nex)]; exact nx
  have eb := same_new nx' (.ins CF dx' [])
  have eab := ea.trans eb
  refine ⟨x, dx', kd, fd2, kv', kv6, rfl, upd_same, eab _ _ (s6 _ _ hkd4), eab _ _ hfd6, fun d e fs' H7 hd he nde hx lk lf lh lp hd7 he7 keep => ⟨rfl, ?_⟩⟩
  have s7 : Same H6 H7 := fun b o hb => keep b o (eab _ _ hb) (fun z => by rw [z, nx] at hb; cases hb)
  have sA := s4.trans (s6.trans s7)
  exact q H7 x sA ((s4.trans s6).free nx) ⟨dx', d, e, fs', kv', kv6, (s4.trans (s6.trans eab)).free hd, (s4.trans (s6.trans eab)).free he, nde, hx, lk, lf, hd7, he7, hpk.imp fun v y h => (h.same s6).same s7, hpf.imp fun v y h => h.keep fun a xs t => s7.tup t, lh, lp⟩
end
end K25

namespace K25
open PySem L2 Kk
/-! kinds as data -/
def Kd.dat : Kd → PyData
  | .num n => .tuple [.str "num", .int n]
  | .name q t => .tuple [.str "name", .str q, .str t]
  | .pair a b => .tuple [.str "pair", Kd.dat a, Kd.dat b]
theorem kd_dat {K : PySem.W.Frag} {H : Hp} : ∀ {x : V} {k : Kd}, KdAt K H x k → Dat K H x (Kd.dat k)
  | _, _, .num t => .tup t (.cons (.str _) (.cons (.int _) .nil))
  | _, _, .name t => .tup t (.cons (.str _) (.cons (.str _) (.cons (.str _) .nil)))
  | _, _, .pair t a b => .tup t (.cons (.str _) (.cons (kd_dat a) (.cons (kd_dat b) .nil)))
theorem eqv_tup (xs ys : List PyData) : PyData.eqv (.tuple xs) (.tuple ys) = PyData.eqvAll xs ys := by simp [PyData.eqv]
theorem eqv_lst (xs ys : List PyData) : PyData.eqv (.list xs) (.list ys) = PyData.eqvAll xs ys := by simp [PyData.eqv]
theorem eqvA_cons (x y : PyData) (xs ys : List PyData) : PyData.eqvAll (x :: xs) (y :: ys) = (PyData.eqv x y && PyData.eqvAll xs ys) := by simp [PyData.eqvAll]
theorem eqvA_nil : PyData.eqvAll [] [] = true := by simp [PyData.eqvAll]
theorem eqv_str (x y : Str) : PyData.eqv (.str x) (.str y) = decide (x = y) := by
  rw [show PyData.eqv (.str x) (.str y) = (x == y) by simp [PyData.eqv]]
  rfl
theorem eqv_int (x y : Int) : PyData.eqv (.int x) (.int y) = decide (x = y) := by
  rw [show PyData.eqv (.int x) (.int y) = (x == y) by simp [PyData.eqv]]
  rfl
theorem eqv_dat (a : Kd) : ∀ b : Kd, PyData.eqv (Kd.dat a) (Kd.dat b) = decide (a = b) := by
  induction a with
  | num n =>
    intro b
    cases b with
    | num m =>
      show PyData.eqv (.tuple [.str "num", .int n]) (.tuple [.str "num", .int m]) = _
      rw [eqv_tup, eqvA_cons, eqvA_cons, eqvA_nil, eqv_str, eqv_int]
      simp
    | name q t =>
      show PyData.eqv (.tuple (.str "num" :: _)) (.tuple (.str "name" :: _)) = _
      rw [eqv_tup, eqvA_cons, eqv_str, decide_eq_false (by decide +kernel), decide_eq_false (by intro e; cases e)]
      rfl
    | pair c d =>
      show PyData.eqv (.tuple (.str "num" :: _)) (.tuple (.str "pair" :: _)) = _
      rw [eqv_tup, eqvA_cons, eqv_str, decide_eq_false (by decide +kernel), decide_eq_false (by intro e; cases e)]
      rfl
  | name q t =>
    intro b
    cases b with
    | num m =>
      show PyData.eqv (.tuple (.str "name" :: _)) (.tuple (.str "num" :: _)) = _
      rw [eqv_tup, eqvA_cons, eqv_str, decide_eq_false (by decide +kernel), decide_eq_false (by intro e; cases e)]
      rfl
    | name q' t' =>
      show PyData.eqv (.tuple [.str "name", .str q, .str t]) (.tuple [.str "name", .str q', .str t']) = _
      rw [eqv_tup, eqvA_cons, eqvA_cons, eqvA_cons, eqvA_nil, eqv_str, eqv_str, eqv_str]
      simp
    | pair c d =>
      show PyData.eqv (.tuple (.str "name" :: _)) (.tuple (.str "pair" :: _)) = _
      rw [eqv_tup, eqvA_cons, eqv_str, decide_eq_false (by decide +kernel), decide_eq_false (by intro e; cases e)]
      rfl
  | pair a1 a2 h1 h2 =>
    intro b
    cases b with
    | num m =>
      show PyData.eqv (.tuple (.str "pair" :: _)) (.tuple (.str "num" :: _)) = _
      rw [eqv_tup, eqvA_cons, eqv_str, decide_eq_false (by decide +kernel), decide_eq_false (by intro e; cases e)]
      rfl
    | name q' t' =>
      show PyData.eqv (.tuple (.str "pair" :: _)) (.tuple (.str "name" :: _)) = _
      rw [eqv_tup, eqvA_cons, eqv_str, decide_eq_false (by decide +kernel), decide_eq_false (by intro e; cases e)]
      rfl
    | pair c d =>
      show PyData.eqv (.tuple [.str "pair", Kd.dat a1, Kd.dat a2]) (.tuple [.str "pair", Kd.dat c, Kd.dat d]) = _
      rw [eqv_tup, eqvA_cons, eqvA_cons, eqvA_cons, eqvA_nil, eqv_str, h1, h2]
      simp
theorem lay_kd : ∀ {k : Kd}, Kd.ok k → PyData.canLay0 (Kd.dat k) = true
  | .num n, _ => by
    have h : PyData.strOk "num" = true := by decide +kernel
    simp [Kd.dat, PyData.canLay0, PyData.canLayAll0, h]
  | .name q t, ⟨h1, h2⟩ => by
    have h : PyData.strOk "name" = true := by decide +kernel
    simp [Kd.dat, PyData.canLay0, PyData.canLayAll0, h, h1.1, h2.1]
  | .pair a b, ⟨h1, h2⟩ => by
    have h : PyData.strOk "pair" = true := by decide +kernel
    simp [Kd.dat, PyData.canLay0, PyData.canLayAll0, h, lay_kd h1, lay_kd h2]
theorem deep_kd : ∀ k : Kd, PyData.depth (Kd.dat k) ≤ Kd.depth k
  | .num n => by simp [Kd.dat, PyData.depth, PyData.depthAll, Kd.depth]
  | .name q t => by simp [Kd.dat, PyData.depth, PyData.depthAll, Kd.depth]
  | .pair a b => by
    have h1 := deep_kd a
    have h2 := deep_kd b
    simp only [Kd.dat, PyData.depth, PyData.depthAll, Kd.depth]
    omega
theorem kd_shaped {k : Kd} (h : Kd.ok k) (hd : Kd.depth k ≤ 60) : SeqAt.shaped (Kd.dat k) = true := by
  have h1 := lay_kd h
  have h2 := deep_kd k
  unfold SeqAt.shaped
  rw [h1, decide_eq_true (show PyData.depth (Kd.dat k) ≤ 64 by omega)]
  rfl
theorem depth_words : ∀ k : Kd, Kd.depth k ≤ k.words
  | .num n => Nat.le_refl _
  | .name q t => Nat.le_refl _
  | .pair a b => by
    have h1 := depth_words a
    have h2 := depth_words b
    simp only [Kd.depth, Kd.words]
    omega
abbrev sHidden : Stmt := inClass (top 9) 2
abbrev sPutM : Stmt := inClass (top 9) 1
def ownK (z : Str) : Kd := .name "" z
def spOwn (K : PySem.W.Frag) : Sp := fun vs H Q _ => ∃ z : Str, vs = [.str z] ∧ ∀ H' x, Same H H' → KdAt K H' x (ownK z) → Q x H'
def hidB (q : Str × Kd) : Bool := decide (q.2 = ownK q.1)
def hidL (m : List (Str × Kd)) : List Str := (m.filter hidB).map (·.1)
def spHidden (K : PySem.W.Frag) (CF : Addr) : Sp := fun vs H Q _ => ∃ (fa : Addr) (m1 : List (Str × Kd)) (m2 : List (Str × (List Kd × Kd))), vs = [.ref fa] ∧ FaceF K H CF fa m1 m2 ∧ m1.length ≤ 100 ∧ (∀ q ∈ m1, okW q.1 ∧ Kd.ok q.2 ∧ Kd.depth q.2 ≤ 60) ∧
  ∀ H' (l : Addr), Same H H' → H l = none → H' l = some (.lst ((hidL m1).map V.str)) → Q (.ref l) H'
theorem ok_empty : okW "" := ⟨by decide +kernel, by decide +kernel⟩
section
variable {P : Program} {w : World} {K : PySem.W.Frag} {mg : Str → Option Value} {base : Heap}
theorem scOwn : FnScope ["word"] ["word"] (defScope sOwn) := ⟨rfl, rfl, rfl, by decide +kernel, rfl, by decide +kernel, by decide +kernel⟩
theorem ok_own {f : Addr} {fd : FuncData} (F : Fun K "own_name" "own_name" sOwn f fd) : FnOk P w K mg base CX0 1 f fd ["word"] (spOwn K) := by
  refine F.ok scOwn (fun vs H Q E h => ?_) (fun cdv A outer s H vs Q E hr h => ?_)
  · obtain ⟨z, rfl, _⟩ := h
    rfl
  obtain ⟨z, rfl, q⟩ := h
  refine ⟨_, pss_one (ps_ret (pe_tup (pa_cons pe_str (pa_cons pe_str (pa_cons (pv 0) pa_nil))))), ?_⟩
  exact ⟨_, rfl, (by show 3 ≤ sizeLine; decide), fun p hp => q _ _ (same_new hp _) (.name (SqT.of upd_same))⟩
theorem scHidden : FnScope ["self"] ["self"] (defScope sHidden) := ⟨rfl, rfl, rfl, by decide +kernel, rfl, by decide +kernel, by decide +kernel⟩
set_option maxHeartbeats 0 in
theorem ok_hidden {f fo CF : Addr} {fd fdo : FuncData} (F : Fun K "hidden" "Face.hidden" sHidden f fd) (GO : FnOk P w K mg base CX0 1 fo fdo ["word"] (spOwn K)) (bO : Binds K fdo ["word"] []) (kO : PySem.W.keepIn K (.ref fo) = true) (mO : mg "own_name" = some (.ref fo)) (cF : Cls K CF) (nK : NoAttr K CF "kinds") :
    FnOk P w K mg base CX0 2 f fd ["self"] (spHidden K CF) := by
  refine F.ok scHidden (fun vs H Q E h => ?_) (fun cdv A outer s H vs Q E hr h => ?_)
  · obtain ⟨fa, m1, m2, rfl, _⟩ := h
    rfl
  obtain ⟨fa, m1, m2, rfl, hF, h100, hok, q⟩ := h
  have hu := hr.units
  refine ⟨_, pss_one (ps_ret (pe_thaw (pe_comp_if (own := ["word", "kind"]) (caps := []) (κ := []) rfl ⟨rfl, by decide +kernel, by decide +kernel, rfl, rfl, (fun y hy => nomatch hy), (fun y hy => nomatch hy)⟩ rfl
    (pi_items (pe_fld (pv 0) rfl)) (fun _ _ _ _ => pg_two (K := K) (i := 0) (j := 1) rfl rfl (show (["word", "kind"] : List Str).Nodup from by decide +kernel) rfl (Or.inl rfl) (Or.inr rfl) rfl (Or.inl rfl) (Or.inr rfl))
    (fun _ _ _ _ => pt_cmpR (eqK (K := K) rfl hu) (pv 1) (pe_call GO hr rfl mO kO bO .nil pass0 (pa_cons (pv 0) pa_nil)) (nomark _)) (fun _ _ _ _ => pv 0)))), ?_⟩
  obtain ⟨dx, d1, d2, fs, kv1, kv2, hfa, hl1, hl2, hd1, hd2, hk1, hk2, _, _⟩ := hF
  have hlen : kv1.length = m1.length := Paired.length hk1
  refine ⟨_, rfl, fa, CF, dx, fs, _, rfl, hfa, cF, nK, hl1, d1, kv1, rfl, hd1, fun o => ?_⟩
  refine comp_items (fun i ys H3 => (∀ b u, H b = some u → b ≠ d1 → H3 b = some u) ∧ H3 d1 = some (.frz o (.dK kv1)) ∧ ys = (hidL (m1.take i)).map V.str ∧ ys.length ≤ i ∧ (∀ a xs, SqT K H a xs → SqT K H3 a xs)) ?_ (small (by omega)) ?_ ?_ ?_ ?_
  · exact ⟨fun b u hb nb => by rw [upd_ne nb]; exact hb, upd_same, rfl, Nat.le_refl _, fun a xs h => sqt_dk hd1 h⟩
  · rintro i ys H3 ⟨_, _, _, h, _⟩
    exact h
  · rintro i ys H3 ⟨_, h, _⟩
    exact h
  · rintro i p a ys H3 N hN hp ha ⟨old, hd3, rfl, hys, keep⟩
    obtain ⟨⟨z, k⟩, hq, ez, hkz⟩ := pair_get hk1 hp
    obtain ⟨pk, pw⟩ := p
    replace ez : pk = .inr z := ez
    replace hkz : KdAt K H pw k := hkz
    subst ez
    obtain ⟨oz, ok, od⟩ := hok (z, k) (List.mem_of_getElem? hq)
    have ea := same_new ha (.tup [kV (.inr z), pw])
    refine ⟨a, _, rfl, SqT.of upd_same, rfl, _, _, rfl, _, _, rfl, rfl, rfl, ?_⟩
    have keepA : ∀ b xs, SqT K H b xs → SqT K (upd H3 a (.tup [kV (.inr z), pw])) b xs := fun b xs h => ea.tup (keep b xs h)
    refine ⟨_, rfl, _, rfl, z, rfl, fun H4 x4 s4 hx4 => ?_⟩
    have hkz4 := (kd_keep keepA hkz).same s4
    refine ⟨_, _, kd_dat hkz4, kd_dat hx4, kd_shaped ok od, kd_shaped ⟨ok_empty, oz⟩ (by show 1 ≤ 60; decide), _, rfl, ?_⟩
    have eT : hidL (m1.take (i + 1)) = hidL (m1.take i) ++ (if hidB (z, k) = true then [z] else []) := by
      rw [List.take_add_one, hq]
      unfold hidL
      rw [List.filter_append, List.map_append]
      congr 1
      show ((([(z, k)] : List (Str × Kd)).filter hidB).map (·.1)) = _
      rw [List.filter_cons]
      by_cases c : hidB (z, k) = true
      · rw [if_pos c, if_pos c]; rfl
      · rw [if_neg c, if_neg c]; rfl
    have old4 : ∀ b u, H b = some u → b ≠ d1 → H4 b = some u := fun b u hb nb => s4 _ _ (ea _ _ (old b u hb nb))
    have eb : PyData.eqv (Kd.dat k) (Kd.dat (ownK z)) = hidB (z, k) := eqv_dat _ _
    refine ite2 (fun c => ?_) (fun c => ?_)
    · have c' : hidB (z, k) = true := by rw [← eb]; exact c
      rw [if_pos c'] at eT
      refine ⟨_, rfl, hN _ _ ⟨old4, s4 _ _ (ea _ _ hd3), ?_, ?_, fun b xs t => s4.tup (keepA b xs t)⟩⟩
      · rw [eT, List.map_append]; rfl
      · rw [List.length_append]; show _ + 1 ≤ _; omega
    · have c' : ¬ hidB (z, k) = true := by rw [← eb]; exact c
      rw [if_neg c', List.append_nil] at eT
      refine hN _ _ ⟨old4, s4 _ _ (ea _ _ hd3), by rw [eT], by omega, fun b xs t => s4.tup (keepA b xs t)⟩
  · rintro ys H3 D ⟨old, hd3, rfl, hys, keep⟩ hD
    have nD : d1 ≠ D := ne_of_none hd3 hD
    have nofz : ∀ o' u', H d1 ≠ some (.frz o' u') := fun o' u' e => by
      rw [e] at hd1
      cases hd1
    refine ⟨d1, o, .dK kv1, (by rw [upd_ne nD]; exact hd3), nofz, ?_⟩
    have hs : Same H (upd (upd H3 D (.lst ((hidL (m1.take kv1.length)).map V.str))) d1 (.dK kv1)) := fun b u hb => by
      by_cases e : b = d1
      · rw [e] at hb ⊢
        rw [hd1] at hb
        cases hb
        exact upd_same
      · rw [upd_ne e]
        have h3 := old b u hb e
        rw [upd_ne (ne_of_none h3 hD)]
        exact h3
    have hD0 : H D = none := by
      cases e : H D with
      | none => rfl
      | some u => rw [old D u e (Ne.symm nD)] at hD; cases hD
    refine q _ D hs hD0 ?_
    rw [upd_ne (Ne.symm nD), upd_same, hlen, List.take_length]
end
end K25

namespace K25
open PySem L2 Kk
/-! Face.put -/
abbrev pmN : List Str := ["self", "given", "most", "result", "kind", "taken", "answer"]
section
variable {P : Program} {w : World} {K : PySem.W.Frag} {mg : Str → Option Value} {base : Heap}
theorem nofz {H : Hp} {d : Addr} (h : H d = none) : ∀ o' u', H d ≠ some (.frz o' u') := fun o' u' e => by
  rw [h] at e
  cases e
theorem scPutM : FnScope pmN ["self", "given", "most"] (defScope sPutM) := ⟨rfl, rfl, rfl, by decide +kernel, rfl, by decide +kernel, by decide +kernel⟩
set_option maxHeartbeats 0 in
theorem pm_loop1 {f fb CF CT : Addr} {fdb : FuncData} (GB : FnOk P w K mg base (CX1 P w) 2 fb fdb ["kind", "most"] (spBounded K CT)) (bB : Binds K fdb ["kind", "most"] []) (kB : PySem.W.keepIn K (.ref fb) = true) (mB : mg "bounded" = some (.ref fb)) (cF : Cls K CF) (nK : NoAttr K CF "kinds")
    {cdv : Value} {A : Around} {outer : List Env} {s : Shared} {H : Hp} {E : XK} (hr : Room 2 (A.deeper (PyProof.Rows.envOfC "Face.put" (defScope sPutM) s.heap.objs.size f cdv))) :
    ∃ t, PS (cxOf (CX1 P w) P w K mg base pmN "Face.put" (defScope sPutM) f cdv A outer s H E) ((defBody sPutM).getD 1 (.Pass ⟨0, 0, 0, 0⟩)) t ∧
      ∀ (D : Ends) (B : Hp) (a0 a1 : Option V) (x dx d1 : Addr) (fs : List (Str × V)) (kv1 : List (Key × V)) (m1 : List (Str × Kd)) (m : Int), Same H B → H d1 = none → B x = some (.ins CF dx fs) → fs.lookup ("kinds" : Str) = some (.ref d1) → B d1 = some (.dK kv1) → PkAt (KdAt K B) kv1 m1 → m1.length ≤ 100 →
        (∀ q ∈ m1, q.2.words ≤ 900) → 0 ≤ m → m ≤ 1000000 →
        ((∀ q ∈ m1, (q.2.words : Int) ≤ m) → ∀ (H4 : Hp) (y4 : Option V), Same B H4 → D.nx [a0, a1, some (.int m), some (.ref x), y4, none, none] H4) →
        ((∃ q ∈ m1, ¬ (q.2.words : Int) ≤ m) → ∀ H4 : Hp, Same H H4 → E (.ref CT) none H4) →
        t D [a0, a1, some (.int m), some (.ref x), none, none, none] B := by
  refine ⟨_, ps_thaw (ps_for PassesOwn.leaving rfl (pi_values (pe_fld (pv 3) rfl)) (pg_name (i := 4) scPutM.nd rfl (Or.inl rfl))
      (pss_one (ps_expr (pe_call GB hr rfl mB kB bB .nil pass1 (pa_cons (pv 4) (pa_cons (pv 2) pa_nil)))))), ?_⟩
  intro D B a0 a1 x dx d1 fs kv1 m1 m sB hd0 hx hl1 hd1 hk1 h100 h9 m0 mM qN qE
  have hlen : kv1.length = m1.length := Paired.length hk1
  refine ⟨_, rfl, x, CF, dx, fs, _, rfl, hx, cF, nK, hl1, d1, kv1, rfl, hd1, fun o => ?_⟩
  refine for_values (fun i σ H3 => ∃ y4 : Option V, σ = [a0, a1, some (.int m), some (.ref x), y4, none, none] ∧ (∀ b u, B b = some u → b ≠ d1 → H3 b = some u) ∧ H3 d1 = some (.frz o (.dK kv1)) ∧ (∀ a xs, SqT K B a xs → SqT K H3 a xs) ∧ ∀ q ∈ m1.take i, (q.2.words : Int) ≤ m) ?_ ?_ ?_ ?_
  · exact ⟨none, rfl, fun b u hb nb => by rw [upd_ne nb]; exact hb, upd_same, fun a xs h => sqt_dk hd1 h, fun q hq => by simp at hq⟩
  · rintro i σ H3 _ ⟨_, _, _, h, _⟩
    exact h
  · rintro i p σ H3 hp ⟨y4, rfl, old, hd3, keep, hto⟩
    obtain ⟨⟨z, k⟩, hq, ez, hkz⟩ := pair_get hk1 hp
    obtain ⟨pk, pw⟩ := p
    replace hkz : KdAt K B pw k := hkz
    have hmem : (z, k) ∈ m1 := List.mem_of_getElem? hq
    refine ⟨_, rfl, _, rfl, pw, k, m, rfl, kd_keep keep hkz, h9 _ hmem, m0, mM, fun H4 s4 => ?_⟩
    have old4 : ∀ b u, B b = some u → b ≠ d1 → H4 b = some u := fun b u hb nb => s4 _ _ (old b u hb nb)
    by_cases c : (k.words : Int) > m
    · rw [if_pos c]
      refine qE ⟨_, hmem, by show ¬ (k.words : Int) ≤ m; omega⟩ H4 fun b u hb => old4 b u (sB _ _ hb) fun e => ?_
      rw [e, hd0] at hb
      cases hb
    · rw [if_neg c]
      refine ⟨_, rfl, old4, s4 _ _ hd3, fun a xs t => s4.tup (keep a xs t), fun q hq' => ?_⟩
      rw [List.take_add_one, hq] at hq'
      rcases List.mem_append.mp hq' with h | h
      · exact hto q h
      · rw [List.mem_singleton.mp h]
        show (k.words : Int) ≤ m
        omega
  · rintro σ H3 ⟨y4, rfl, old, hd3, keep, hto⟩
    rw [hlen, List.take_length] at hto
    refine ⟨d1, o, .dK kv1, hd3, nofz hd0, qN hto _ y4 fun b u hb => ?_⟩
    by_cases e : b = d1
    · rw [e] at hb ⊢
      rw [hd1] at hb
      cases hb
      exact upd_same
    · rw [upd_ne e]
      exact old b u hb e
def FunFit (m : Int) (g : List Kd × Kd) : Prop := (∀ k ∈ g.1, (k.words : Int) ≤ m) ∧ (g.2.words : Int) ≤ m
set_option maxHeartbeats 0 in
theorem pm_loop2 {f fb CF CT : Addr} {fdb : FuncData} (GB : FnOk P w K mg base (CX1 P w) 2 fb fdb ["kind", "most"] (spBounded K CT)) (bB : Binds K fdb ["kind", "most"] []) (kB : PySem.W.keepIn K (.ref fb) = true) (mB : mg "bounded" = some (.ref fb)) (cF : Cls K CF) (nF : NoAttr K CF "funs")
    {cdv : Value} {A : Around} {outer : List Env} {s : Shared} {H : Hp} {E : XK} (hr : Room 2 (A.deeper (PyProof.Rows.envOfC "Face.put" (defScope sPutM) s.heap.objs.size f cdv))) :
    ∃ t, PS (cxOf (CX1 P w) P w K mg base pmN "Face.put" (defScope sPutM) f cdv A outer s H E) ((defBody sPutM).getD 2 (.Pass ⟨0, 0, 0, 0⟩)) t ∧
      ∀ (D : Ends) (B : Hp) (a0 a1 y4 : Option V) (x dx d1 : Addr) (fs : List (Str × V)) (kv1 : List (Key × V)) (m1 : List (Str × (List Kd × Kd))) (m : Int), Same H B → H d1 = none → B x = some (.ins CF dx fs) → fs.lookup ("funs" : Str) = some (.ref d1) → B d1 = some (.dK kv1) → PkAt (FunAt K B) kv1 m1 → m1.length ≤ 100 →
        (∀ q ∈ m1, (∀ k ∈ q.2.1, k.words ≤ 900) ∧ q.2.2.words ≤ 900 ∧ q.2.1.length ≤ 100) → 0 ≤ m → m ≤ 1000000 →
        ((∀ q ∈ m1, FunFit m q.2) → ∀ (H4 : Hp) (y4 y5 y6 : Option V), Same B H4 → D.nx [a0, a1, some (.int m), some (.ref x), y4, y5, y6] H4) →
        ((∃ q ∈ m1, ¬ FunFit m q.2) → ∀ H4 : Hp, Same H H4 → E (.ref CT) none H4) →
        t D [a0, a1, some (.int m), some (.ref x), y4, none, none] B := by
  refine ⟨_, ps_thaw (ps_for PassesOwn.leaving rfl (pi_values (pe_fld (pv 3) rfl)) (pg_tup rfl (pgs_cons (pg_name (i := 5) scPutM.nd rfl (Or.inl rfl)) (pgs_cons (pg_name (i := 6) scPutM.nd rfl (Or.inl rfl)) pgs_nil)))
      (pss_one (ps_for PassesOwn.leaving rfl (pi_tup (pe_op op_catA (pv 5) (pe_tup (pa_cons (pv 6) pa_nil)))) (pg_name (i := 4) scPutM.nd rfl (Or.inl rfl))
        (pss_one (ps_expr (pe_call GB hr rfl mB kB bB .nil pass1 (pa_cons (pv 4) (pa_cons (pv 2) pa_nil)))))))), ?_⟩
  intro D B a0 a1 y40 x dx d1 fs kv1 m1 m sB hd0 hx hl1 hd1 hk1 h100 h9 m0 mM qN qE
  have hlen : kv1.length = m1.length := Paired.length hk1
  refine ⟨_, rfl, x, CF, dx, fs, _, rfl, hx, cF, nF, hl1, d1, kv1, rfl, hd1, fun o => ?_⟩
  refine for_values (fun i σ H3 => ∃ y4 y5 y6 : Option V, σ = [a0, a1, some (.int m), some (.ref x), y4, y5, y6] ∧ (∀ b u, B b = some u → b ≠ d1 → H3 b = some u) ∧ H3 d1 = some (.frz o (.dK kv1)) ∧ (∀ a xs, SqT K B a xs → SqT K H3 a xs) ∧ ∀ q ∈ m1.take i, FunFit m q.2) ?_ ?_ ?_ ?_
  · exact ⟨y40, none, none, rfl, fun b u hb nb => by rw [upd_ne nb]; exact hb, upd_same, fun a xs h => sqt_dk hd1 h, fun q hq => by simp at hq⟩
  · rintro i σ H3 _ ⟨_, _, _, _, _, h, _⟩
    exact h
  · rintro i p σ H3 hp ⟨y4, y5, y6, rfl, old, hd3, keep, hto⟩
    obtain ⟨⟨z, g⟩, hq, ez, hkz⟩ := pair_get hk1 hp
    obtain ⟨pk, pw⟩ := p
    replace hkz : FunAt K B pw g := hkz
    obtain ⟨tp, ta, tx, txs, rfl, f1, f2, f3, f4⟩ := hkz
    have hmem : (z, g) ∈ m1 := List.mem_of_getElem? hq
    obtain ⟨w1, w2, w3⟩ := h9 _ hmem
    have hl3 := f3.length
    refine ⟨tp, _, rfl, keep _ _ f1, rfl, _, _, rfl, _, _, rfl, rfl, ?_⟩
    refine ⟨_, rfl, _, rfl, (by show 1 ≤ sizeLine; decide), fun p1 hp1 => ?_⟩
    have e1 := same_new hp1 (.tup [tx])
    have hw3 : txs.length + ([tx] : List V).length ≤ sizeLine := small (by show txs.length + 1 ≤ 1000; have : g.1.length ≤ 100 := w3; omega)
    refine ⟨ta, p1, txs, [tx], rfl, rfl, e1.tup (keep _ _ f2), SqT.of upd_same, (by intro z; cases z), hw3, fun p2 H4 s4 hp2 => ?_⟩
    have sA := e1.trans s4
    have hks : KdsAt K B (txs ++ [tx]) (g.1 ++ [g.2]) := f3.append (one f4)
    refine ⟨p2, rfl, ⟨_, hp2⟩, for_tup (K := K) (xs := txs ++ [tx]) (fun j σ H5 => ∃ y4 : Option V, σ = [a0, a1, some (.int m), some (.ref x), y4, some (.ref ta), some tx] ∧ Same H4 H5 ∧ ∀ k ∈ (g.1 ++ [g.2]).take j, (k.words : Int) ≤ m) ⟨y4, rfl, Same.refl _, fun k hk => by simp at hk⟩ ?_ ?_ ?_⟩
    · rintro j σ H5 _ ⟨_, _, s5, _⟩
      exact s5.tup hp2
    · rintro j y σ H5 hy ⟨y4', rfl, s5, hto5⟩
      obtain ⟨k, hk, hky⟩ := kds_get hks hy
      have hkm : k ∈ g.1 ++ [g.2] := List.mem_of_getElem? hk
      have hk9 : k.words ≤ 900 := by
        rcases List.mem_append.mp hkm with h | h
        · exact w1 k h
        · rw [List.mem_singleton.mp h]; exact w2
      have keep5 : ∀ a xs, SqT K B a xs → SqT K H5 a xs := fun a xs t => (sA.trans s5).tup (keep a xs t)
      refine ⟨_, rfl, _, rfl, y, k, m, rfl, kd_keep keep5 hky, hk9, m0, mM, fun H6 s6 => ?_⟩
      by_cases c : (k.words : Int) > m
      · rw [if_pos c]
        refine qE ⟨_, hmem, fun hf => ?_⟩ H6 fun b u hb => s6 _ _ (s5 _ _ (sA _ _ (old b u (sB _ _ hb) fun e => ?_)))
        · rcases List.mem_append.mp hkm with h | h
          · have := hf.1 k h
            omega
          · have h2 : (g.2.words : Int) ≤ m := hf.2
            rw [List.mem_singleton.mp h] at c
            omega
        · rw [e, hd0] at hb
          cases hb
      · rw [if_neg c]
        refine ⟨_, rfl, s5.trans s6, fun k' hk' => ?_⟩
        rw [List.take_add_one, hk] at hk'
        rcases List.mem_append.mp hk' with h | h
        · exact hto5 k' h
        · rw [List.mem_singleton.mp h]
          omega
    · rintro σ H5 ⟨y4', rfl, s5, hto5⟩
      have el : (txs ++ [tx]).length = (g.1 ++ [g.2]).length := hks.length
      rw [el, List.take_length] at hto5
      refine ⟨_, _, _, rfl, fun b u hb nb => s5 _ _ (sA _ _ (old b u hb nb)), s5 _ _ (sA _ _ hd3), fun a xs t => (sA.trans s5).tup (keep a xs t), fun q hq' => ?_⟩
      rw [List.take_add_one, hq] at hq'
      rcases List.mem_append.mp hq' with h | h
      · exact hto q h
      · rw [List.mem_singleton.mp h]
        exact ⟨fun k hk => hto5 k (List.mem_append_left _ hk), hto5 g.2 (List.mem_append_right _ (List.mem_singleton.mpr rfl))⟩
  · rintro σ H3 ⟨y4, y5, y6, rfl, old, hd3, keep, hto⟩
    rw [hlen, List.take_length] at hto
    refine ⟨d1, o, .dK kv1, hd3, nofz hd0, qN hto _ y4 y5 y6 fun b u hb => ?_⟩
    by_cases e : b = d1
    · rw [e] at hb ⊢
      rw [hd1] at hb
      cases hb
      exact upd_same
    · rw [upd_ne e]
      exact old b u hb e
/-- what Face.put tells: all fit, or some don't -/
def Fits (m : Int) (m1 : List (Str × Kd)) (m2 : List (Str × (List Kd × Kd))) : Prop := (∀ q ∈ m1, (q.2.words : Int) ≤ m) ∧ ∀ q ∈ m2, FunFit m q.2
def spPutM (K : PySem.W.Frag) (CF CT : Addr) (n : Nat) : Sp := fun vs H Q E => ∃ (fa g : Addr) (m : Int) (m1 : List (Str × Kd)) (m2 : List (Str × (List Kd × Kd))) (kvs : List (List Key × V)) (G : Str × Str → Option Kd), vs = [.ref fa, .ref g, .int m] ∧ FaceF K H CF fa m1 m2 ∧ (m1.map (·.1)).Nodup ∧ (m2.map (·.1)).Nodup ∧ m1.length ≤ 100 ∧ m2.length ≤ 100 ∧
  (∀ q ∈ m1, Kd.depth q.2 ≤ n) ∧ (∀ q ∈ m2, (∀ k ∈ q.2.1, Kd.depth k ≤ n) ∧ Kd.depth q.2.2 ≤ n ∧ q.2.1.length ≤ 100) ∧ H g = some (.dT kvs) ∧ GvAt K H kvs G ∧
  (∀ q ∈ m1, (Kd.put G q.2).words ≤ 900) ∧ (∀ q ∈ m2, (∀ k ∈ q.2.1, (Kd.put G k).words ≤ 900) ∧ (Kd.put G q.2.2).words ≤ 900) ∧ 0 ≤ m ∧ m ≤ 1000000 ∧
  (Fits m (m1.map (putP G)) (m2.map (putQ G)) → ∀ H' (x : Addr), Same H H' → H x = none → FaceN K H H' CF x (m1.map (putP G)) (m2.map (putQ G)) → Q (.ref x) H') ∧
  (¬ Fits m (m1.map (putP G)) (m2.map (putQ G)) → ∀ H', Same H H' → E (.ref CT) none H')
theorem ok_putM {n : Nat} {f fq fb CF CT : Addr} {dV : Value} {fd fdq fdb : FuncData} (F : FunD K "put" "Face.put" sPutM dV f fd) (GF : FnOk P w K mg base CX0 (n + 2 + 1) fq fdq ["face", "given"] (spPutFace K CF n)) (bF : Binds K fdq ["face", "given"] []) (kF : PySem.W.keepIn K (.ref fq) = true) (mF : mg "put_in_face" = some (.ref fq))
    (GB : FnOk P w K mg base (CX1 P w) 2 fb fdb ["kind", "most"] (spBounded K CT)) (bB : Binds K fdb ["kind", "most"] []) (kB : PySem.W.keepIn K (.ref fb) = true) (mB : mg "bounded" = some (.ref fb)) (cF : Cls K CF) (nK : NoAttr K CF "kinds") (nF : NoAttr K CF "funs") :
    FnOk P w K mg base (CX1 P w) (n + 2 + 1 + 1) f fd ["self", "given", "most"] (spPutM K CF CT n) := by
  refine F.okX scPutM (fun vs H Q E h => ?_) (fun cdv A outer s H vs Q E hr h => ?_)
  · obtain ⟨fa, g, m, m1, m2, kvs, G, rfl, _⟩ := h
    rfl
  obtain ⟨fa, g, m, m1, m2, kvs, G, rfl, hF, nd1, nd2, hm1, hm2, dp1, dp2, hg, hG, w1, w2, m0, mM, qN, qE⟩ := h
  have hr2 : Room 2 _ := hr.mono (by omega)
  obtain ⟨t1, e1, k1⟩ := pm_loop1 (outer := outer) (H := H) (E := E) GB bB kB mB cF nK hr2
  obtain ⟨t2, e2, k2⟩ := pm_loop2 (outer := outer) (H := H) (E := E) GB bB kB mB cF nF hr2
  refine ⟨_, (@pss_cons _ _ _ _ _ (ps_set (i := 3) scPutM.nd rfl (Or.inl rfl) (pe_call GF hr (by rfl) mF kF bF .nil pass0 (pa_cons (pv 0) (pa_cons (pv 1) pa_nil))))
    (@pss_cons _ _ _ _ _ @e1
    (@pss_cons _ _ _ _ _ @e2
    (pss_one (ps_ret (pv 3))))) : PSs (cxOf (CX1 P w) P w K mg base pmN "Face.put" (defScope sPutM) f cdv A outer s H E) (defBody sPutM) _), ?_⟩
  refine ⟨_, rfl, _, rfl, fa, g, m1, m2, kvs, G, rfl, hF, nd1, nd2, hm1, hm2, dp1, dp2, hg, hG, fun H1 x s1 hx hN => ?_⟩
  obtain ⟨dx, d1, d2, fs, kv1, kv2, n1, n2, ne, hfx, l1, l2, hd1, hd2, hk1, hk2, lh, lp⟩ := id hN
  refine k1 _ H1 _ _ x dx d1 fs kv1 (m1.map (putP G)) m s1 n1 hfx l1 hd1 hk1 (by rw [List.length_map]; exact hm1) ?_ m0 mM (fun hf1 H2 y4 s2 => ?_) fun hb1 H2 s2 => qE (fun hf => ?_) H2 s2
  · intro q hq
    obtain ⟨q', hq', rfl⟩ := List.mem_map.mp hq
    exact w1 q' hq'
  · refine k2 _ H2 _ _ y4 x dx d2 fs kv2 (m2.map (putQ G)) m (s1.trans s2) n2 (s2 _ _ hfx) l2 (s2 _ _ hd2) (hk2.imp fun v y h => h.keep fun a xs t => s2.tup t) (by rw [List.length_map]; exact hm2) ?_ m0 mM (fun hf2 H3 y4 y5 y6 s3 => ?_) fun hb2 H3 s3 => qE (fun hf => ?_) H3 s3
    · intro q hq
      obtain ⟨q', hq', rfl⟩ := List.mem_map.mp hq
      refine ⟨fun k hk => ?_, (w2 q' hq').2, ?_⟩
      · obtain ⟨k', hk', rfl⟩ := List.mem_map.mp hk
        exact (w2 q' hq').1 k' hk'
      · show (q'.2.1.map (Kd.put G)).length ≤ 100
        rw [List.length_map]
        exact (dp2 q' hq').2.2
    · have s23 := s2.trans s3
      refine ⟨_, rfl, qN ⟨hf1, hf2⟩ H3 x (s1.trans s23) hx ⟨dx, d1, d2, fs, kv1, kv2, n1, n2, ne, s23 _ _ hfx, l1, l2, s23 _ _ hd1, s23 _ _ hd2, hk1.imp fun v y h => h.same s23, hk2.imp fun v y h => h.keep fun a xs t => s23.tup t, lh, lp⟩⟩
    · obtain ⟨q, hq, hn⟩ := hb2
      exact hn (hf.2 q hq)
  · obtain ⟨q, hq, hn⟩ := hb1
    exact hn (hf.1 q hq)
end
end K25

namespace K25
open PySem L2 Kk
/-! the mathematics of refining -/
def stepP (t : Str) (g : Kd) : Str × Str → Option Kd := fun n => if n = (("" : Str), t) then some g else none
def fitB (m1 : List (Str × Kd)) (m2 : List (Str × (List Kd × Kd))) : Bool := (m1.all fun q => decide ((q.2.words : Int) ≤ 40)) && m2.all fun q => (q.2.1.all fun k => decide ((k.words : Int) ≤ 40)) && decide ((q.2.2.words : Int) ≤ 40)
theorem fitB_iff {m1 : List (Str × Kd)} {m2 : List (Str × (List Kd × Kd))} : fitB m1 m2 = true ↔ Fits 40 m1 m2 := by
  unfold fitB Fits FunFit
  simp only [Bool.and_eq_true, List.all_eq_true, decide_eq_true_eq]
inductive RR where
  | ok (m1 : List (Str × Kd)) (m2 : List (Str × (List Kd × Kd)))
  | no
  | big
def rstep : RR → Str × Kd → RR
  | .ok m1 m2, (t, g) => if t ∈ hidL m1 then (if fitB (m1.map (putP (stepP t g))) (m2.map (putQ (stepP t g))) = true then .ok (m1.map (putP (stepP t g))) (m2.map (putQ (stepP t g))) else .big) else .no
  | .no, _ => .no
  | .big, _ => .big
def rrun (m1 : List (Str × Kd)) (m2 : List (Str × (List Kd × Kd))) (ws : List (Str × Kd)) : RR := ws.foldl rstep (.ok m1 m2)
theorem fold_no : ∀ ws : List (Str × Kd), ws.foldl rstep .no = .no
  | [] => rfl
  | _ :: ws => fold_no ws
theorem fold_big : ∀ ws : List (Str × Kd), ws.foldl rstep .big = .big
  | [] => rfl
  | _ :: ws => fold_big ws
theorem rrun_app (m1 : List (Str × Kd)) (m2 : List (Str × (List Kd × Kd))) (a b : List (Str × Kd)) : rrun m1 m2 (a ++ b) = b.foldl rstep (rrun m1 m2 a) := List.foldl_append
theorem rrun_snoc (m1 : List (Str × Kd)) (m2 : List (Str × (List Kd × Kd))) {ws : List (Str × Kd)} {i : Nat} {q : Str × Kd} (h : ws[i]? = some q) : rrun m1 m2 (ws.take (i + 1)) = rstep (rrun m1 m2 (ws.take i)) q := by
  rw [List.take_add_one, h, rrun_app]
  rfl
theorem rrun_no {m1 : List (Str × Kd)} {m2 : List (Str × (List Kd × Kd))} {ws : List (Str × Kd)} {i : Nat} (h : rrun m1 m2 (ws.take i) = .no) : rrun m1 m2 ws = .no := by
  rw [← List.take_append_drop i ws, rrun_app, h, fold_no]
theorem rrun_big {m1 : List (Str × Kd)} {m2 : List (Str × (List Kd × Kd))} {ws : List (Str × Kd)} {i : Nat} (h : rrun m1 m2 (ws.take i) = .big) : rrun m1 m2 ws = .big := by
  rw [← List.take_append_drop i ws, rrun_app, h, fold_big]
def GoodK (k : Kd) : Prop := Kd.ok k ∧ k.words ≤ 40
structure Good (m1 : List (Str × Kd)) (m2 : List (Str × (List Kd × Kd))) : Prop where
  nd1 : (m1.map (·.1)).Nodup
  nd2 : (m2.map (·.1)).Nodup
  l1 : m1.length ≤ 100
  l2 : m2.length ≤ 100
  k1 : ∀ q ∈ m1, okW q.1 ∧ GoodK q.2
  k2 : ∀ q ∈ m2, okW q.1 ∧ (∀ k ∈ q.2.1, GoodK k) ∧ GoodK q.2.2 ∧ q.2.1.length ≤ 100
def WGood (ws : List (Str × Kd)) : Prop := ∀ q ∈ ws, okW q.1 ∧ Kd.ok q.2 ∧ q.2.words ≤ 27
theorem put_leaves {G : Str × Str → Option Kd} {c : Nat} (hc : 1 ≤ c) (hG : ∀ n g, G n = some g → g.leaves.length ≤ c) : ∀ k : Kd, (Kd.put G k).leaves.length ≤ k.leaves.length * c
  | .num n => by
    show 1 ≤ 1 * c
    omega
  | .name q t => by
    show ((G (q, t)).getD (.name q t)).leaves.length ≤ 1 * c
    cases e : G (q, t) with
    | none =>
      show 1 ≤ 1 * c
      omega
    | some g =>
      have := hG _ _ e
      show g.leaves.length ≤ 1 * c
      omega
  | .pair a b => by
    have h1 := put_leaves hc hG a
    have h2 := put_leaves hc hG b
    show ((Kd.put G a).leaves ++ (Kd.put G b).leaves).length ≤ (a.leaves ++ b.leaves).length * c
    rw [List.length_append, List.length_append, Nat.add_mul]
    omega
theorem put_okK {G : Str × Str → Option Kd} (hG : ∀ n g, G n = some g → Kd.ok g) : ∀ {k : Kd}, Kd.ok k → Kd.ok (Kd.put G k)
  | .num n, _ => trivial
  | .name q t, h => by
    show Kd.ok ((G (q, t)).getD (.name q t))
    cases e : G (q, t) with
    | none => exact h
    | some g => exact hG _ _ e
  | .pair a b, h => ⟨put_okK hG h.1, put_okK hG h.2⟩
theorem step_some {t : Str} {g : Kd} {n : Str × Str} {g' : Kd} (h : stepP t g n = some g') : g' = g := by
  unfold stepP at h
  split at h
  · exact (Option.some.inj h).symm
  · cases h
theorem step_words {t : Str} {g k : Kd} (hg : g.words ≤ 27) (hk : k.words ≤ 40) : (Kd.put (stepP t g) k).words ≤ 900 := by
  have h1 := put_leaves (G := stepP t g) (c := 14) (by decide) (fun n g' e => by
    rw [step_some e]
    have := words_leaves g
    omega) k
  have h2 := words_leaves (Kd.put (stepP t g) k)
  have h3 := words_leaves k
  have h4 : k.leaves.length * 14 ≤ 20 * 14 := Nat.mul_le_mul_right _ (by omega)
  omega
theorem putP_keys (G : Str × Str → Option Kd) (m1 : List (Str × Kd)) : (m1.map (putP G)).map (·.1) = m1.map (·.1) := by
  rw [List.map_map]
  rfl
theorem putQ_keys (G : Str × Str → Option Kd) (m2 : List (Str × (List Kd × Kd))) : (m2.map (putQ G)).map (·.1) = m2.map (·.1) := by
  rw [List.map_map]
  rfl
theorem Good.step {m1 : List (Str × Kd)} {m2 : List (Str × (List Kd × Kd))} {t : Str} {g : Kd} (h : Good m1 m2) (hg : Kd.ok g) (hf : Fits 40 (m1.map (putP (stepP t g))) (m2.map (putQ (stepP t g)))) : Good (m1.map (putP (stepP t g))) (m2.map (putQ (stepP t g))) where
  nd1 := by rw [putP_keys]; exact h.nd1
  nd2 := by rw [putQ_keys]; exact h.nd2
  l1 := by rw [List.length_map]; exact h.l1
  l2 := by rw [List.length_map]; exact h.l2
  k1 := fun q hq => by
    have hw := hf.1 q hq
    obtain ⟨q', hq', rfl⟩ := List.mem_map.mp hq
    exact ⟨(h.k1 q' hq').1, put_okK (fun n g' e => by rw [step_some e]; exact hg) (h.k1 q' hq').2.1, by omega⟩
  k2 := fun q hq => by
    have hw := hf.2 q hq
    obtain ⟨q', hq', rfl⟩ := List.mem_map.mp hq
    obtain ⟨o1, o2, o3, o4⟩ := h.k2 q' hq'
    refine ⟨o1, fun k hk => ?_, ⟨put_okK (fun n g' e => by rw [step_some e]; exact hg) o3.1, by have := hw.2; omega⟩, by show (q'.2.1.map _).length ≤ 100; rw [List.length_map]; exact o4⟩
    have hkw := hw.1 k hk
    obtain ⟨k', hk', rfl⟩ := List.mem_map.mp hk
    exact ⟨put_okK (fun n g' e => by rw [step_some e]; exact hg) (o2 k' hk').1, by omega⟩
/-- the withs as they lie -/
def WithAt (K : PySem.W.Frag) (H : Hp) (v : V) (q : Str × Kd) : Prop := ∃ (p : Addr) (y : V), v = .ref p ∧ SqT K H p [.str q.1, y] ∧ KdAt K H y q.2
theorem WithAt.same {K : PySem.W.Frag} {H H' : Hp} {v : V} {q : Str × Kd} (e : Same H H') (h : WithAt K H v q) : WithAt K H' v q := by
  obtain ⟨p, y, h1, h2, h3⟩ := h
  exact ⟨p, y, h1, e.tup h2, h3.same e⟩
def WithsAt (K : PySem.W.Frag) (H : Hp) (xs : List V) (ws : List (Str × Kd)) : Prop := Paired (WithAt K H) xs ws
theorem FaceN.face {K : PySem.W.Frag} {H0 H : Hp} {CF x : Addr} {m1 : List (Str × Kd)} {m2 : List (Str × (List Kd × Kd))} (h : FaceN K H0 H CF x m1 m2) : FaceF K H CF x m1 m2 := by
  obtain ⟨dx, d1, d2, fs, kv1, kv2, _, _, _, r⟩ := h
  exact ⟨dx, d1, d2, fs, kv1, kv2, r⟩
theorem FaceN.anti {K : PySem.W.Frag} {H0 H1 H : Hp} {CF x : Addr} {m1 : List (Str × Kd)} {m2 : List (Str × (List Kd × Kd))} (e : Same H0 H1) (h : FaceN K H1 H CF x m1 m2) : FaceN K H0 H CF x m1 m2 := by
  obtain ⟨dx, d1, d2, fs, kv1, kv2, n1, n2, r⟩ := h
  exact ⟨dx, d1, d2, fs, kv1, kv2, e.free n1, e.free n2, r⟩
theorem FaceF.same {K : PySem.W.Frag} {H H' : Hp} {CF x : Addr} {m1 : List (Str × Kd)} {m2 : List (Str × (List Kd × Kd))} (e : Same H H') (h : FaceF K H CF x m1 m2) : FaceF K H' CF x m1 m2 := by
  obtain ⟨dx, d1, d2, fs, kv1, kv2, h1, h2, h3, h4, h5, h6, h7, h8⟩ := h
  exact ⟨dx, d1, d2, fs, kv1, kv2, e _ _ h1, h2, h3, e _ _ h4, e _ _ h5, h6.imp fun v y h => h.same e, h7.imp fun v y h => h.keep fun a xs t => e.tup t, h8⟩
def spRefined (K : PySem.W.Frag) (CF CN CT : Addr) : Sp := fun vs H Q E => ∃ (fa tw : Addr) (m1 : List (Str × Kd)) (m2 : List (Str × (List Kd × Kd))) (xs : List V) (ws : List (Str × Kd)), vs = [.ref fa, .ref tw] ∧ FaceF K H CF fa m1 m2 ∧ Good m1 m2 ∧ SqT K H tw xs ∧ WithsAt K H xs ws ∧ WGood ws ∧
  (∀ m1' m2', rrun m1 m2 ws = .ok m1' m2' → ∀ H' (x : Addr), Same H H' → H x = none → FaceN K H H' CF x m1' m2' → Q (.ref x) H') ∧
  (rrun m1 m2 ws = .no → ∀ H', Same H H' → E (.ref CN) none H') ∧ (rrun m1 m2 ws = .big → ∀ H', Same H H' → E (.ref CT) none H')
section
variable {P : Program} {w : World} {K : PySem.W.Frag} {mg : Str → Option Value} {base : Heap}
theorem bindM {f T : Addr} {fd : FuncData} {oT : Value} {dT : Option Addr} {nT : Nat} {sT : Array (Option Value)} {tk : Tok} (F : FunD K "put" "Face.put" sPutM (.ref T) f fd) (lT : K.lookup T = some ⟨oT, dT, .seq #[.int 40 tk] nT, sT⟩) : Binds K fd ["self", "given", "most"] [.int 40 tk] :=
  F.binds lT fun _ _ _ _ _ _ us hl => by
    have hl' : us.length = 2 := by simpa using hl
    match us, hl' with
    | [_, _], _ => exact ⟨_, rfl, rfl⟩
theorem scRefined : FnScope ["face", "withs", "result", "word", "kind"] ["face", "withs"] (defScope sRefined) := ⟨rfl, rfl, rfl, by decide +kernel, rfl, by decide +kernel, by decide +kernel⟩
set_option maxHeartbeats 0 in
theorem ok_refined {f fi fh fm CF CN CT T : Addr} {fd fdi fdh fdm : FuncData} {oT : Value} {dT : Option Addr} {nT : Nat} {sT : Array (Option Value)} {tk : Tok} (F : Fun K "refined" "refined" sRefined f fd)
    (GI : FnOk P w K mg base CX0 1 fi fdi ["self", "kinds", "funs"] (spInitF CF)) (bI : Binds K fdi ["self", "kinds", "funs"] []) (MF : Mk K CF fi) (mC : mg "Face" = some (.ref CF)) (cF : Cls K CF) (nK : NoAttr K CF "kinds") (nF : NoAttr K CF "funs")
    (GH : FnOk P w K mg base CX0 2 fh fdh ["self"] (spHidden K CF)) (bH : Binds K fdh ["self"] []) (MH : Meth K CF "hidden" fh)
    (FM : FunD K "put" "Face.put" sPutM (.ref T) fm fdm) (lT : K.lookup T = some ⟨oT, dT, .seq #[.int 40 tk] nT, sT⟩)
    (GM : FnOk P w K mg base (CX1 P w) 44 fm fdm ["self", "given", "most"] (spPutM K CF CT 40)) (MM : Meth K CF "put" fm) (mN : mg "NoKind" = some (.ref CN)) (xN : PySem.W.excIn K CN bmVE "ValueError.__new__" = true) :
    FnOk P w K mg base (CX1 P w) 45 f fd ["face", "withs"] (spRefined K CF CN CT) := by
  refine F.okX scRefined (fun vs H Q E h => ?_) (fun cdv A outer s H vs Q E hr h => ?_)
  · obtain ⟨fa, tw, m1, m2, xs, ws, rfl, _⟩ := h
    rfl
  obtain ⟨fa, tw, m1, m2, xs, ws, rfl, hF, hG, htw, hxs, hW, q1, q2, q3⟩ := h
  have hu := hu_of hr
  have hr2 : Room (1 + 1) _ := hr.mono (by decide)
  have bM := bindM FM lT
  refine ⟨_, pss_cons (ps_set (i := 2) scRefined.nd rfl (Or.inl rfl) (pe_make MF GI hr2 (by rfl) mC bI .nil pass0 (pa_cons (pe_fld (pv 0) rfl) (pa_cons (pe_fld (pv 0) rfl) pa_nil))))
    (pss_cons (ps_for PassesOwn.leaving rfl (pi_tup (pv 1)) (pg_tup rfl (pgs_cons (pg_name (i := 3) scRefined.nd rfl (Or.inl rfl)) (pgs_cons (pg_name (i := 4) scRefined.nd rfl (Or.inl rfl)) pgs_nil)))
      (pss_cons (ps_if (pt_cmpR op_notIn_seq (pv 3) (pe_meth0 (pv 2) cF MH GH hr2 bH .nil pass0) (by with_unfolding_all rfl))
        (pss_one (ps_raise1 rfl mN xN (pa_cons (pe_fstr (pj_cons (pe_fv (pv 3)) (pj_cons pe_str pj_nil)) (by decide)) pa_nil))) pss_nil)
      (pss_one (ps_set (i := 2) scRefined.nd rfl (Or.inl rfl) (pe_meth (pv 2) cF MM GM hr bM (.cons (show RelV (.int 40) (.int 40 tk) from ⟨tk, rfl⟩) .nil) pass1 (pa_cons (pe_disp1T hu (pe_tup (pa_cons pe_str (pa_cons (pv 3) pa_nil))) (pv 4)) pa_nil))))))
    (pss_one (ps_ret (pv 2)))), ?_⟩
  obtain ⟨dx, d1, d2, fs, kv1, kv2, hfa, l1, l2, hd1, hd2, hk1, hk2, _, _⟩ := hF
  refine ⟨_, rfl, fa, CF, dx, fs, _, rfl, hfa, cF, nK, l1, _, rfl, fa, CF, dx, fs, _, rfl, hfa, cF, nF, l2, fun x dx' nx ndx nex => ?_⟩
  have ea := same_new ndx (.own x)
  have nx' : upd H dx' (.own x) x = none := by rw [upd_ne (Ne.symm nex)]; exact nx
  have eab := ea.trans (same_new nx' (.ins CF dx' []))
  refine ⟨x, dx', d1, d2, kv1, kv2, rfl, upd_same, eab _ _ hd1, eab _ _ hd2, fun d e fs' H7 hd he nde hx lk lf lh lp hd7 he7 keep => ⟨rfl, ?_⟩⟩
  have s7 : Same H H7 := fun b o hb => keep b o (eab _ _ hb) (fun z => by rw [z, nx] at hb; cases hb)
  have hN7 : FaceN K H H7 CF x m1 m2 := ⟨dx', d, e, fs', kv1, kv2, eab.free hd, eab.free he, nde, hx, lk, lf, hd7, he7, hk1.imp fun v y h => h.same s7, hk2.imp fun v y h => h.keep fun a xs t => s7.tup t, lh, lp⟩
  have hlen : xs.length = ws.length := Paired.length hxs
  refine ⟨_, rfl, tw, rfl, ⟨_, s7.tup htw⟩, for_tup (K := K) (xs := xs) (fun i σ H3 => ∃ (n1 : List (Str × Kd)) (n2 : List (Str × (List Kd × Kd))) (x : Addr) (y3 y4 : Option V), σ = [some (.ref fa), some (.ref tw), some (.ref x), y3, y4] ∧ Same H H3 ∧ H x = none ∧ FaceN K H H3 CF x n1 n2 ∧ Good n1 n2 ∧ rrun m1 m2 (ws.take i) = .ok n1 n2)
    ⟨m1, m2, x, none, none, rfl, s7, nx, hN7, hG, rfl⟩ ?_ ?_ ?_⟩
  · rintro i σ H3 _ ⟨_, _, _, _, _, _, s3, _⟩
    exact s3.tup htw
  · rintro i y σ H3 hy ⟨n1, n2, x3, y3, y4, rfl, s3, nx3, hN3, hG3, hrun⟩
    obtain ⟨⟨t, g⟩, hq, p, yk, rfl, hp, hyk⟩ := pair_get hxs hy
    replace hp : SqT K H p [.str t, yk] := hp
    replace hyk : KdAt K H yk g := hyk
    obtain ⟨wo, wk, ww⟩ := hW (t, g) (List.mem_of_getElem? hq)
    replace ww : g.words ≤ 27 := ww
    replace wk : Kd.ok g := wk
    have esnoc := rrun_snoc m1 m2 hq
    rw [hrun] at esnoc
    refine ⟨p, _, rfl, s3.tup hp, rfl, _, _, rfl, _, _, rfl, rfl, ?_⟩
    have hF3 := hN3.face
    obtain ⟨ex, e1, e2, es, ek1, ek2, g1, g2, g3, g4, g5, g6, g7, g8, g9⟩ := id hF3
    refine ⟨_, rfl, _, rfl, x3, ex, es, rfl, g1, g8, x3, n1, n2, rfl, hF3, hG3.l1, fun q hq => ⟨(hG3.k1 q hq).1, (hG3.k1 q hq).2.1, Nat.le_trans (depth_words _) (by have := (hG3.k1 q hq).2.2; omega)⟩, fun H4 l s4 hl hL => ?_⟩
    refine ⟨l, _, rfl, .inl (SqL.of hL), rfl, flat_strs _, _, rfl, ?_⟩
    have sA := s3.trans s4
    refine ite2 (fun c => ?_) (fun c => ?_)
    · have c' : ¬ t ∈ hidL n1 := fun hm => by
        have c2 : (!inV (V.str t) ((hidL n1).map V.str)) = true := c
        rw [inV_str.mpr hm] at c2
        cases c2
      have er : rstep (.ok n1 n2) (t, g) = .no := if_neg c'
      rw [er] at esnoc
      refine ⟨_, rfl, .inl ⟨t, rfl, Nat.le_trans wo.2 (by decide), ?_⟩⟩
      refine ⟨_, rfl, Nat.le_trans wo.2 (by decide), _, rfl, by decide +kernel, fun z hz => ⟨by show 1 ≤ sizeLine; decide, q2 (rrun_no esnoc) _ sA⟩⟩
    · have c' : t ∈ hidL n1 := by
        have c2 : ¬ (!inV (V.str t) ((hidL n1).map V.str)) = true := c
        refine inV_str.mp ?_
        simpa using c2
      refine ⟨_, rfl, x3, ex, es, rfl, s4 _ _ g1, g9, fun pd hpd => ?_⟩
      have sd := same_new hpd (.dT [])
      refine ⟨_, rfl, (by show 2 ≤ sizeLine; decide), fun pb hpb => ?_⟩
      have sb := same_new hpb (.tup [.str "", .str t])
      refine ⟨_, rfl, pb, [.inr "", .inr t], rfl, sb _ _ upd_same, upd_same, ?_⟩
      have hpd0 : H4 pd = none := hpd
      have sE : Same H4 (upd (upd (upd H4 pd (.dT [])) pb (.tup [.str "", .str t])) pd (.dT (putK [] [.inr "", .inr t] yk))) := sput (sd.trans sb) hpd0
      have gv : GvAt K (upd (upd (upd H4 pd (.dT [])) pb (.tup [.str "", .str t])) pd (.dT (putK [] [.inr "", .inr t] yk))) (putK [] [.inr "", .inr t] yk) (stepP t g) := fun n => by
        by_cases e : n = (("" : Str), t)
        · subst e
          exact .inr ⟨yk, g, (valV_put ..).trans (if_pos rfl), if_pos rfl, (hyk.same sA).same sE⟩
        · have e2 : keyN n ≠ keyN (("" : Str), t) := fun z => e (keyN_inj z)
          exact .inl ⟨(valV_put ..).trans ((if_neg e2).trans rfl), if_neg e⟩
      have hF5 := (hF3.same s4).same sE
      have sF := sA.trans sE
      refine ⟨x3, pd, 40, n1, n2, _, stepP t g, rfl, hF5, hG3.nd1, hG3.nd2, hG3.l1, hG3.l2, fun q hq => Nat.le_trans (depth_words _) (hG3.k1 q hq).2.2, fun q hq => ⟨fun k hk => Nat.le_trans (depth_words _) ((hG3.k2 q hq).2.1 k hk).2, Nat.le_trans (depth_words _) (hG3.k2 q hq).2.2.1.2, (hG3.k2 q hq).2.2.2⟩, upd_same, gv,
        fun q hq => step_words ww (hG3.k1 q hq).2.2, fun q hq => ⟨fun k hk => step_words ww ((hG3.k2 q hq).2.1 k hk).2, step_words ww (hG3.k2 q hq).2.2.1.2⟩, by decide, by decide, fun hf H6 x6 s6 nx6 hN6 => ?_, fun hf H6 s6 => ?_⟩
      · have er : rstep (.ok n1 n2) (t, g) = .ok (n1.map (putP (stepP t g))) (n2.map (putQ (stepP t g))) := (if_pos c').trans (if_pos (fitB_iff.mpr hf))
        rw [er] at esnoc
        exact ⟨_, _, x6, _, _, rfl, sF.trans s6, sF.free nx6, hN6.anti sF, hG3.step wk hf, esnoc⟩
      · have er : rstep (.ok n1 n2) (t, g) = .big := (if_pos c').trans (if_neg fun z => hf (fitB_iff.mp z))
        rw [er] at esnoc
        exact q3 (rrun_big esnoc) _ (sF.trans s6)
  · rintro σ H3 ⟨n1, n2, x3, y3, y4, rfl, s3, nx3, hN3, hG3, hrun⟩
    rw [hlen, List.take_length] at hrun
    exact ⟨_, rfl, q1 n1 n2 hrun H3 x3 s3 nx3 hN3⟩
end
end K25

namespace K25
open PySem L2 Kk
/-! _law_put -/
def spPutL (K : PySem.W.Frag) (n : Nat) : Sp := fun vs H Q _ => ∃ (x y : V) (k g : Kd) (t : Str), vs = [x, .str t, y] ∧ KdAt K H x k ∧ Kd.depth k ≤ n ∧ Kd.depth k ≤ 60 ∧ Kd.ok k ∧ okW t ∧ KdAt K H y g ∧
  ∀ H' v, Same H H' → KdAt K H' v (Kd.put (stepP t g) k) → Q v H'
theorem step_own {t : Str} {g k : Kd} (h : k = ownK t) : Kd.put (stepP t g) k = g := by
  subst h
  show (stepP t g ("", t)).getD _ = g
  unfold stepP
  rw [if_pos rfl]
  rfl
theorem step_name {t a b : Str} {g : Kd} (h : Kd.name a b ≠ ownK t) : Kd.put (stepP t g) (.name a b) = .name a b := by
  show (stepP t g (a, b)).getD _ = _
  unfold stepP
  rw [if_neg]
  · rfl
  · intro e
    cases e
    exact h rfl
section
variable {P : Program} {w : World} {K : PySem.W.Frag} {mg : Str → Option Value} {base : Heap}
abbrev plN : List Str := ["_law_kind", "_law_t", "_law_given"]
theorem scPutL : FnScope plN plN (defScope sPutL) := ⟨rfl, rfl, rfl, by decide +kernel, rfl, by decide +kernel, by decide +kernel⟩
theorem ok_putL {f : Addr} {fd : FuncData} (F : Fun K "_law_put" "_law_put" sPutL f fd) (bP : Binds K fd plN []) (kP : PySem.W.keepIn K (.ref f) = true) (mP : mg "_law_put" = some (.ref f)) :
    ∀ n, FnOk P w K mg base CX0 n f fd plN (spPutL K n)
  | 0 => ⟨fun vs H Q E h => by obtain ⟨x, y, k, g, t, rfl, _⟩ := h; rfl, fun A outer s H args us vs Q E _ _ _ _ h => by
      obtain ⟨x, y, k, g, t, _, _, hd, _⟩ := h
      have := depth_pos k
      omega⟩
  | n + 1 => by
    have IH := ok_putL F bP kP mP n
    refine F.ok scPutL (fun vs H Q E h => ?_) (fun cdv A outer s H vs Q E hr h => ?_)
    · obtain ⟨x, y, k, g, t, rfl, _⟩ := h
      rfl
    obtain ⟨x, yg, k, g, tt, rfl, hk, hd, hd6, hok, htt, hg, q⟩ := h
    have hu := hr.units
    refine ⟨_, pss_cons (ps_if (pt_cmpR op_eq (pe_ix ix_tup (pv 0) pe_int (fun _ _ => rfl)) pe_str (nomark _))
        (pss_one (ps_ret (pe_tup (pa_cons pe_str (pa_cons (pe_call IH hr rfl mP kP bP .nil pass0 (pa_cons (pe_ix ix_tup (pv 0) pe_int (fun _ _ => rfl)) (pa_cons (pv 1) (pa_cons (pv 2) pa_nil))))
          (pa_cons (pe_call IH hr rfl mP kP bP .nil pass0 (pa_cons (pe_ix ix_tup (pv 0) pe_int (fun _ _ => rfl)) (pa_cons (pv 1) (pa_cons (pv 2) pa_nil)))) pa_nil)))))) pss_nil)
      (pss_cons (ps_if (pt_cmpR (op_eqD hu) (pv 0) (pe_tup (pa_cons pe_str (pa_cons pe_str (pa_cons (pv 1) pa_nil)))) (nomark _))
        (pss_one (ps_ret (pv 2))) pss_nil)
      (pss_one (ps_ret (pv 0)))), ?_⟩
    have leaf : ∀ (H1 : Hp) (u : Addr), H u = none → H1 = upd H u (.tup [.str "", .str tt]) → True := fun _ _ _ _ => trivial
    cases hk with
    | @num p m t =>
      refine ⟨_, rfl, _, _, _, _, rfl, rfl, t, (show atI [V.str "num", .int m] 0 = some (.str "num") from rfl), rfl, _, rfl, ite2 (fun c => absurd c (by decide +kernel)) (fun _ => ?_)⟩
      refine ⟨_, rfl, _, rfl, (by show 3 ≤ sizeLine; decide), fun u hu' => ?_⟩
      have su := same_new hu' (.tup [.str "name", .str "", .str tt])
      refine ⟨_, _, kd_dat (.num (su.tup t)), kd_dat (.name (SqT.of upd_same)), kd_shaped hok hd6, kd_shaped (k := ownK tt) ⟨ok_empty, htt⟩ (by show 1 ≤ 60; decide), _, rfl, ?_⟩
      have e : PyData.eqv (Kd.dat (.num m)) (Kd.dat (ownK tt)) = false := by rw [eqv_dat]; exact decide_eq_false (by intro z; cases z)
      refine ite2 (fun c => ?_) (fun _ => ?_)
      · have c' : PyData.eqv (Kd.dat (.num m)) (Kd.dat (ownK tt)) = true := c
        rw [e] at c'
        cases c'
      · exact ⟨_, rfl, q _ _ su (.num (su.tup t))⟩
    | @name p a b t =>
      refine ⟨_, rfl, _, _, _, _, rfl, rfl, t, (show atI [V.str "name", .str a, .str b] 0 = some (.str "name") from rfl), rfl, _, rfl, ite2 (fun c => absurd c (by decide +kernel)) (fun _ => ?_)⟩
      refine ⟨_, rfl, _, rfl, (by show 3 ≤ sizeLine; decide), fun u hu' => ?_⟩
      have su := same_new hu' (.tup [.str "name", .str "", .str tt])
      refine ⟨_, _, kd_dat (.name (su.tup t)), kd_dat (.name (SqT.of upd_same)), kd_shaped hok hd6, kd_shaped (k := ownK tt) ⟨ok_empty, htt⟩ (by show 1 ≤ 60; decide), _, rfl, ?_⟩
      refine ite2 (fun c => ?_) (fun c => ?_)
      · have c' : PyData.eqv (Kd.dat (.name a b)) (Kd.dat (ownK tt)) = true := c
        rw [eqv_dat] at c'
        refine ⟨_, rfl, q _ _ su ?_⟩
        rw [step_own (of_decide_eq_true c')]
        exact hg.same su
      · have c' : ¬ PyData.eqv (Kd.dat (.name a b)) (Kd.dat (ownK tt)) = true := c
        rw [eqv_dat] at c'
        refine ⟨_, rfl, q _ _ su ?_⟩
        rw [step_name (fun e => c' (decide_eq_true e))]
        exact .name (su.tup t)
    | @pair p y z a b t ha hb =>
      have hd' : 1 + max (Kd.depth a) (Kd.depth b) ≤ n + 1 := hd
      have hd6' : 1 + max (Kd.depth a) (Kd.depth b) ≤ 60 := hd6
      refine ⟨_, rfl, _, _, _, _, rfl, rfl, t, (show atI [V.str "pair", y, z] 0 = some (.str "pair") from rfl), rfl, _, rfl, ite2 (fun _ => ?_) (fun c => absurd (by decide +kernel) c)⟩
      refine ⟨_, rfl, _, _, _, _, rfl, rfl, t, (show atI [V.str "pair", y, z] 1 = some y from rfl), _, rfl, _, rfl, y, yg, a, g, tt, rfl, ha, by omega, by omega, hok.1, htt, hg, fun H1 v1 s1 k1 => ?_⟩
      refine ⟨_, rfl, _, _, _, _, rfl, rfl, s1.tup t, (show atI [V.str "pair", y, z] 2 = some z from rfl), _, rfl, _, rfl, z, yg, b, g, tt, rfl, hb.same s1, by omega, by omega, hok.2, htt, hg.same s1, fun H2 v2 s2 k2 => ?_⟩
      refine ⟨(by show 3 ≤ sizeLine; decide), fun c hc => q _ _ (same_trans (same_trans s1 s2) (same_new hc _)) ?_⟩
      exact .pair (SqT.of upd_same) ((k1.same s2).same (same_new hc _)) (k2.same (same_new hc _))
end
end K25

namespace K25
open PySem L2 Kk
/-! _law_kinds -/
theorem PkAt.get {α : Type} {R : V → α → Prop} {kvs : List (Key × V)} {m : List (Str × α)} {j : Nat} {z : Str} {x : α} (h : PkAt R kvs m) (hn : (m.map (·.1)).Nodup) (hj : m[j]? = some (z, x)) : ∃ v, valV kvs (.inr z) = some v ∧ R v x := by
  have hk : (kvs.map (·.1)).Nodup := by
    rw [h.keys, show (m.map fun q => (Sum.inr q.1 : Key)) = (m.map (·.1)).map Sum.inr by rw [List.map_map]; rfl]
    exact List.Pairwise.map Sum.inr (fun a b hne e => hne (Sum.inr.inj e)) hn
  have sw : Paired (fun (q : Str × α) (p : Key × V) => p.1 = .inr q.1 ∧ R p.2 q.2) m kvs := by
    unfold PkAt at h
    clear hn hj hk
    induction h with
    | nil => exact .nil
    | cons a _ ih => exact .cons a ih
  obtain ⟨⟨pk, pv⟩, hp, e1, e2⟩ := pair_get sw hj
  replace e1 : pk = .inr z := e1
  subst e1
  exact ⟨pv, valV_nodup hk _ (List.mem_of_getElem? hp), e2⟩
theorem PkAt.snoc_inv {α : Type} {R : V → α → Prop} : ∀ {m : List (Str × α)} {kvs : List (Key × V)} {z : Str} {x : α}, PkAt R kvs (m ++ [(z, x)]) → ∃ kvs' v, kvs = kvs' ++ [(.inr z, v)] ∧ PkAt R kvs' m ∧ R v x
  | [], _, z, x, .cons (a := p) a .nil => ⟨[], p.2, by
      obtain ⟨pk, pv⟩ := p
      have e : pk = .inr z := a.1
      rw [e]
      rfl, .nil, a.2⟩
  | q :: m, _, z, x, .cons (a := p) a b => by
    obtain ⟨kvs', v, e, h1, h2⟩ := PkAt.snoc_inv (m := m) b
    exact ⟨p :: kvs', v, by rw [e]; rfl, .cons a h1, h2⟩
theorem putK_last {kvs : List (Key × V)} {z : Str} {v0 v : V} (h : (.inr z : Key) ∉ kvs.map (·.1)) : putK (kvs ++ [(.inr z, v0)]) (.inr z) v = kvs ++ [(.inr z, v)] := by
  unfold putK
  rw [if_pos (by rw [List.any_eq_true]; exact ⟨_, List.mem_append_right _ (List.mem_singleton.mpr rfl), decide_eq_true rfl⟩), List.map_append]
  congr 1
  · have : kvs.map (fun kv => if kv.1 = (.inr z : Key) then (kv.1, v) else kv) = kvs.map id := List.map_congr_left fun p hp => by
      rw [if_neg]
      · rfl
      · intro e
        exact h (List.mem_map.mpr ⟨p, hp, e⟩)
    rw [this, List.map_id]
  · show [if (Sum.inr z : Key) = .inr z then ((.inr z : Key), v) else (.inr z, v0)] = _
    rw [if_pos rfl]
theorem PkAt.last {α : Type} {R S : V → α → Prop} {kvs : List (Key × V)} {m : List (Str × α)} {z : Str} {v : V} {x y : α} (h : PkAt R kvs (m ++ [(z, x)])) (hz : z ∉ m.map (·.1)) (f : ∀ v x, R v x → S v x) (hv : S v y) : PkAt S (putK kvs (.inr z) v) (m ++ [(z, y)]) := by
  obtain ⟨kvs', v0, rfl, h1, _⟩ := h.snoc_inv
  rw [putK_last]
  · exact (h1.imp f).snoc hv
  · rw [h1.keys]
    intro hm
    obtain ⟨q, hq, e⟩ := List.mem_map.mp hm
    exact hz (by rw [← Sum.inr.inj e]; exact List.mem_map_of_mem hq)
def KOk (k : Kd) : Prop := Kd.ok k ∧ k.words ≤ 20
theorem at_nat0 {α : Type} {xs : List α} {i : Nat} {x : α} (h : xs[i]? = some x) : atI xs (0 + (i : Int)) = some x := by
  rw [Int.zero_add]
  exact atI_nat h
theorem at_mod {α : Type} {xs : List α} {c : Int} {i : Nat} (h0 : 0 < i) (h1 : i ≤ xs.length) : ∃ (j : Nat) (x : α), j < i ∧ xs[j]? = some x ∧ atI xs (c % (0 + (i : Int))) = some x := by
  have a0 : 0 ≤ c % (0 + (i : Int)) := Int.emod_nonneg _ (by omega)
  have a1 : c % (0 + (i : Int)) < 0 + (i : Int) := Int.emod_lt_of_pos _ (by omega)
  have hj : (c % (0 + (i : Int))).toNat < xs.length := by omega
  refine ⟨(c % (0 + (i : Int))).toNat, xs[(c % (0 + (i : Int))).toNat], by omega, List.getElem?_eq_getElem hj, ?_⟩
  have e : c % (0 + (i : Int)) = (((c % (0 + (i : Int))).toNat : Nat) : Int) := by omega
  have q : atI xs (((c % (0 + (i : Int))).toNat : Nat) : Int) = some xs[(c % (0 + (i : Int))).toNat] := atI_nat (by simp)
  rw [← e] at q
  exact q
/-- the dict while a word's kind is made: what stood ahead, and the word at the end -/
def LastAt (K : PySem.W.Frag) (H H' : Hp) (d : Addr) (kvs : List (Key × V)) (m : List (Str × Kd)) (z : Str) (k : Kd) : Prop := Same H H' ∧ H' d = some (.dK kvs) ∧ PkAt (KdAt K H') kvs (m ++ [(z, k)])
theorem LastAt.write {K : PySem.W.Frag} {H H' : Hp} {d : Addr} {kvs : List (Key × V)} {m : List (Str × Kd)} {z : Str} {k k' : Kd} {v : V} (h : LastAt K H H' d kvs m z k) (h0 : H d = none) (hz : z ∉ m.map (·.1)) (hv : KdAt K H' v k') : LastAt K H (upd H' d (.dK (putK kvs (.inr z) v))) d (putK kvs (.inr z) v) m z k' := by
  obtain ⟨h1, h2, h3⟩ := h
  exact ⟨sput h1 h0, upd_same, h3.last hz (fun v x hx => kd_keep (fun a xs t => sqt_dk h2 t) hx) (kd_keep (fun a xs t => sqt_dk h2 t) hv)⟩
theorem LastAt.go {K : PySem.W.Frag} {H H' H2 : Hp} {d : Addr} {kvs : List (Key × V)} {m : List (Str × Kd)} {z : Str} {k : Kd} (h : LastAt K H H' d kvs m z k) (e : Same H' H2) : LastAt K H H2 d kvs m z k := ⟨h.1.trans e, e _ _ h.2.1, h.2.2.imp fun v x hx => hx.same e⟩
theorem LastAt.len {K : PySem.W.Frag} {H H' : Hp} {d : Addr} {kvs : List (Key × V)} {m : List (Str × Kd)} {z : Str} {k : Kd} (h : LastAt K H H' d kvs m z k) : kvs.length = m.length + 1 := by
  have := Paired.length h.2.2
  rw [List.length_append] at this
  exact this
theorem LastAt.own {K : PySem.W.Frag} {H H' : Hp} {d : Addr} {kvs : List (Key × V)} {m : List (Str × Kd)} {z : Str} {k : Kd} (h : LastAt K H H' d kvs m z k) (hn : ((m ++ [(z, k)]).map (·.1)).Nodup) : ∃ v, DGet H' d (.str z) (some v) ∧ KdAt K H' v k := by
  obtain ⟨v, h1, h2⟩ := h.2.2.get hn (j := m.length) (z := z) (x := k) (by simp)
  refine ⟨v, ?_, h2⟩
  rw [← h1]
  exact DGet.k (k := .inr z) h.2.1
theorem LastAt.old {K : PySem.W.Frag} {H H' : Hp} {d : Addr} {kvs : List (Key × V)} {m : List (Str × Kd)} {z y : Str} {k k' : Kd} {j : Nat} (h : LastAt K H H' d kvs m z k) (hn : ((m ++ [(z, k)]).map (·.1)).Nodup) (hj : m[j]? = some (y, k')) : ∃ v, DGet H' d (.str y) (some v) ∧ KdAt K H' v k' := by
  obtain ⟨v, h1, h2⟩ := h.2.2.get hn (j := j) (z := y) (x := k') (by rw [List.getElem?_append_left (List.getElem?_eq_some_iff.mp hj).1]; exact hj)
  refine ⟨v, ?_, h2⟩
  rw [← h1]
  exact DGet.k (k := .inr y) h.2.1
def spKinds (K : PySem.W.Frag) : Sp := fun vs H Q _ => ∃ (a wl : Addr) (ns : List Int) (ws : List Str), vs = [.ref a, .ref wl] ∧ SqL K H a (ns.map V.int) ∧ ns.length ≤ 63 ∧ H wl = some (.lst (ws.map V.str)) ∧ ws.length ≤ 6 ∧ ws.Nodup ∧ (∀ z ∈ ws, okW z) ∧
  ∀ H' (d : Addr) (kvs : List (Key × V)) (m : List (Str × Kd)), Same H H' → H d = none → H' d = some (.dK kvs) → PkAt (KdAt K H') kvs m → m.map (·.1) = ws → (∀ q ∈ m, KOk q.2) → Q (.ref d) H'
section
variable {P : Program} {w : World} {K : PySem.W.Frag} {mg : Str → Option Value} {base : Heap}
theorem scKinds : FnScope ["_law_script", "_law_words_here", "_law_kinds_here", "_law_k", "_law_cell_here"] ["_law_script", "_law_words_here"] (defScope sKinds) := ⟨rfl, rfl, rfl, by decide +kernel, rfl, by decide +kernel, by decide +kernel⟩
set_option maxHeartbeats 0 in
theorem ok_kinds {f fc fz : Addr} {fd fdc fdz : FuncData} (F : Fun K "_law_kinds" "_law_kinds" sKinds f fd)
    (GC : FnOk P w K mg base CX0 1 fc fdc ["_law_script", "_law_k"] (spCell K)) (bC : Binds K fdc ["_law_script", "_law_k"] []) (kC : PySem.W.keepIn K (.ref fc) = true) (mC : mg "_law_cell" = some (.ref fc))
    (GZ : FnOk P w K mg base CX0 1 fz fdz ["_law_kind"] (spSize K)) (bZ : Binds K fdz ["_law_kind"] []) (kZ : PySem.W.keepIn K (.ref fz) = true) (mZ : mg "_law_size" = some (.ref fz)) (mr : mg "range" = none) (ml : mg "len" = none) :
    FnOk P w K mg base CX0 2 f fd ["_law_script", "_law_words_here"] (spKinds K) := by
  refine F.ok scKinds (fun vs H Q E h => ?_) (fun cdv A outer s H vs Q E hr h => ?_)
  · obtain ⟨a, wl, ns, ws, rfl, _⟩ := h
    rfl
  obtain ⟨a, wl, ns, ws, rfl, hS, h63, hwl, h6, hnd, hok, q⟩ := h
  have hu := hu_of hr
  refine ⟨_, pss_cons (ps_set (i := 2) scKinds.nd rfl (Or.inl rfl) pe_dnewK)
    (pss_cons (ps_for PassesOwn.never rfl (pi_range1 rfl mr (pa_cons (pe_callB call_len_seq rfl ml PySem.boot_len (pa_cons (pv 1) pa_nil)) pa_nil)) (pg_name (i := 3) scKinds.nd rfl (Or.inl rfl))
      (pss_cons (ps_set (i := 4) scKinds.nd rfl (Or.inl rfl) (pe_call GC hr rfl mC kC bC .nil pass0 (pa_cons (pv 0) (pa_cons (pe_op op_add pe_int (pv 3)) pa_nil))))
      (pss_cons (ps_dput hu (pv 2) (pe_ix ix_list (pv 1) (pv 3) (fun _ _ => rfl)) (pe_tup (pa_cons pe_str (pa_cons pe_str (pa_cons (pe_ix ix_list (pv 1) (pv 3) (fun _ _ => rfl)) pa_nil)))) rfl)
      (pss_one (ps_if (PW.pt (pw_and (pt_cmpR op_gt (pv 3) pe_int (nomark _)) (pw_and1 (pt_cmpR op_gt (pe_op op_mod (pv 4) pe_int) pe_int (nomark _)))))
        (pss_cons (ps_dput hu (pv 2) (pe_ix ix_list (pv 1) (pv 3) (fun _ _ => rfl)) (pe_dget hu (pv 2) (pe_ix ix_list (pv 1) (pe_op op_mod (pe_op op_fdiv (pv 4) pe_int) (pv 3)) (fun _ _ => rfl)) (fun _ _ => rfl)) rfl)
        (pss_cons (ps_if (pt_cmpR op_eq (pe_op op_mod (pv 4) pe_int) pe_int (nomark _))
          (pss_one (ps_dput hu (pv 2) (pe_ix ix_list (pv 1) (pv 3) (fun _ _ => rfl)) (pe_tup (pa_cons pe_str (pa_cons (pe_dget hu (pv 2) (pe_ix ix_list (pv 1) (pv 3) (fun _ _ => rfl)) (fun _ _ => rfl)) (pa_cons (pe_dget hu (pv 2) (pe_ix ix_list (pv 1) (pe_op op_mod (pe_op op_fdiv (pv 4) pe_int) (pv 3)) (fun _ _ => rfl)) (fun _ _ => rfl)) pa_nil)))) rfl)) pss_nil)
        (pss_one (ps_if (pt_cmpR op_gt (pe_call GZ hr rfl mZ kZ bZ .nil pass0 (pa_cons (pe_dget hu (pv 2) (pe_ix ix_list (pv 1) (pv 3) (fun _ _ => rfl)) (fun _ _ => rfl)) pa_nil)) pe_int (nomark _))
          (pss_one (ps_dput hu (pv 2) (pe_ix ix_list (pv 1) (pv 3) (fun _ _ => rfl)) (pe_tup (pa_cons pe_str (pa_cons (pe_op op_add pe_int (pe_op op_mod (pv 4) (pe_op op_pow pe_int pe_int))) pa_nil))) rfl)) pss_nil)))) pss_nil)))))
    (pss_one (ps_ret (pv 2)))), ?_⟩
  intro d hd0
  have hsd := same_new hd0 (.dK [])
  have hwl6 : (ws.map V.str).length = ws.length := List.length_map ..
  refine ⟨_, rfl, wl, _, rfl, .inl (SqL.of (hsd _ _ hwl)), _, rfl, by omega, by omega, for_range (fun i σ H2 => ∃ (kvs : List (Key × V)) (m : List (Str × Kd)) (v3 v4 : Option V), σ = [some (.ref a), some (.ref wl), some (.ref d), v3, v4] ∧ Same H H2 ∧ H2 d = some (.dK kvs) ∧ PkAt (KdAt K H2) kvs m ∧ m.map (·.1) = ws.take i ∧ ∀ q ∈ m, KOk q.2)
    ⟨[], [], none, none, rfl, hsd, upd_same, .nil, rfl, fun q hq => nomatch hq⟩ ?_ ?_⟩
  · rintro i σ H2 hi ⟨kvs, m, v3, v4, rfl, s2, hd2, hpk, hmk, hmo⟩
    have hi' : i < ws.length := by omega
    obtain ⟨z, hz⟩ : ∃ z, ws[i]? = some z := ⟨_, List.getElem?_eq_getElem hi'⟩
    have hzo := hok z (List.mem_of_getElem? hz)
    have hzV : atI (ws.map V.str) (0 + (i : Int)) = some (.str z) := at_nat0 (by rw [List.getElem?_map, hz]; rfl)
    have hml : m.length = i := by
      have e := congrArg List.length hmk
      rw [List.length_map, List.length_take] at e
      omega
    have hzm : z ∉ m.map (·.1) := by rw [hmk]; exact out_take hnd hz
    have hndA : ∀ k : Kd, ((m ++ [(z, k)]).map (·.1)).Nodup := fun k => by
      have e : (m ++ [(z, k)]).map (·.1) = ws.take (i + 1) := by
        rw [List.map_append, hmk, List.take_add_one, hz]
        rfl
      rw [e]
      exact hnd.sublist (List.take_sublist _ _)
    have hpl : kvs.length = m.length := Paired.length hpk
    have fin : ∀ (H3 : Hp) (kv3 : List (Key × V)) (k : Kd) (c : Int), LastAt K H H3 d kv3 m z k → KOk k → ∃ (kvs : List (Key × V)) (m : List (Str × Kd)) (v3 v4 : Option V), ([some (.ref a), some (.ref wl), some (.ref d), some (.int (0 + (i : Int))), some (.int c)] : St) = [some (.ref a), some (.ref wl), some (.ref d), v3, v4] ∧ Same H H3 ∧ H3 d = some (.dK kvs) ∧ PkAt (KdAt K H3) kvs m ∧ m.map (·.1) = ws.take (i + 1) ∧ ∀ q ∈ m, KOk q.2 := by
      intro H3 kv3 k c hL hk
      refine ⟨kv3, m ++ [(z, k)], _, _, rfl, hL.1, hL.2.1, hL.2.2, ?_, fun q hq => ?_⟩
      · rw [List.map_append, hmk, List.take_add_one, hz]
        rfl
      · rcases List.mem_append.mp hq with h | h
        · exact hmo q h
        · rw [List.mem_singleton.mp h]
          exact hk
    have hwlL : ∀ {H3 : Hp}, Same H H3 → SqL K H3 wl (ws.map V.str) := fun s3 => SqL.of (s3 _ _ hwl)
    refine ⟨_, rfl, _, rfl, _, _, rfl, rfl, a, ns, _, rfl, sql_same s2 hS, h63, by omega, by omega, fun c => ?_⟩
    refine ⟨_, rfl, _, rfl, wl, _, _, _, rfl, rfl, hwlL s2, hzV, (by show 3 ≤ sizeLine; decide), fun p hp => ?_⟩
    have sp := same_new hp (.tup [.str "name", .str "", .str z])
    have hL0 : LastAt K H (upd (upd H2 p (.tup [.str "name", .str "", .str z])) d (.dK (putK kvs (.inr z) (.ref p)))) d (putK kvs (.inr z) (.ref p)) m z (ownK z) := by
      refine ⟨sput (s2.trans sp) hd0, upd_same, ?_⟩
      exact PkAt.put (hpk.imp fun v x hx => kd_keep (fun a xs t => sqt_dk (sp _ _ hd2) t) (hx.same sp)) hzm (kd_keep (fun a xs t => sqt_dk (sp _ _ hd2) t) (.name (SqT.of upd_same)))
    refine ⟨_, rfl, _, rfl, _, rfl, wl, _, _, _, rfl, rfl, hwlL (s2.trans sp), hzV, d, _, rfl, DPut.k (k := .inr z) (sp _ _ hd2) (Nat.lt_of_lt_of_le (Nat.lt_succ_self _) (small (by omega))), ?_⟩
    have ownOk : KOk (ownK z) := ⟨⟨ok_empty, hzo⟩, by show 1 ≤ 20; decide⟩
    have oldj : ∀ cc : Int, 0 < i → ∃ (y : Str) (k : Kd), KOk k ∧ atI (ws.map V.str) (cc % (0 + (i : Int))) = some (.str y) ∧ ∀ H3 kv3 k0, LastAt K H H3 d kv3 m z k0 → ∃ v, DGet H3 d (.str y) (some v) ∧ KdAt K H3 v k := by
      intro cc hi0
      obtain ⟨j, x, hji, hjx, hat⟩ := at_mod (xs := ws.map V.str) (c := cc) hi0 (by omega)
      rw [List.getElem?_map] at hjx
      obtain ⟨y, hy, rfl⟩ := Option.map_eq_some_iff.mp hjx
      have hmj : (m.map (·.1))[j]? = some y := by rw [hmk, List.getElem?_take_of_lt hji]; exact hy
      rw [List.getElem?_map] at hmj
      obtain ⟨⟨y', k⟩, hq, e⟩ := Option.map_eq_some_iff.mp hmj
      have e' : y' = y := e
      subst e'
      exact ⟨y', k, hmo _ (List.mem_of_getElem? hq), hat, fun H3 kv3 k0 hL => hL.old (hndA _) hq⟩
    refine ⟨_, rfl, _, _, rfl, rfl, _, rfl, ite2 (fun c1 => ?_) (fun _ => iteF (fin _ _ (ownK z) c hL0 ownOk))⟩
    have hi0 : 0 < i := by
      have c1' : (0 : Int) < 0 + (i : Int) := of_decide_eq_true c1
      omega
    have hip : (0 : Int) < 0 + (i : Int) := by omega
    refine ⟨_, rfl, _, _, rfl, rfl, (by show (0 : Int) < 3; decide), _, _, rfl, rfl, _, rfl, ite2 (fun _ => ?_) (fun _ => fin _ _ (ownK z) c hL0 ownOk)⟩
    obtain ⟨y1, k1, ko1, at1, old1⟩ := oldj (c / 3) hi0
    obtain ⟨v1, g1, hv1⟩ := old1 _ _ _ hL0
    have hl0 := hL0.len
    refine ⟨_, rfl, _, rfl, _, rfl, _, _, rfl, rfl, ⟨by decide, by decide⟩, _, rfl, _, _, rfl, rfl, hip, wl, _, _, _, rfl, rfl, hwlL hL0.1, at1, d, v1, rfl, g1, _, rfl, _, rfl, _, rfl, wl, _, _, _, rfl, rfl, hwlL hL0.1, hzV, d, _, rfl, DPut.k (k := .inr z) hL0.2.1 (Nat.lt_of_lt_of_le (Nat.lt_succ_self _) (small (by omega))), ?_⟩
    have hL2 := hL0.write hd0 hzm hv1
    refine ⟨_, rfl, _, _, rfl, rfl, (by show (0 : Int) < 3; decide), rfl, _, rfl, ite2 (fun _ => ?_) (fun _ => ?_)⟩
    · obtain ⟨v2, g2, hv2⟩ := hL2.own (hndA _)
      obtain ⟨y3, k3, ko3, at3, old3⟩ := oldj (c / 18) hi0
      obtain ⟨v3', g3, hv3⟩ := old3 _ _ _ hL2
      refine ⟨_, rfl, _, rfl, _, rfl, wl, _, _, _, rfl, rfl, hwlL hL2.1, hzV, d, v2, rfl, g2, _, rfl, _, rfl, _, rfl, _, _, rfl, rfl, ⟨by decide, by decide⟩, _, rfl, _, _, rfl, rfl, hip, wl, _, _, _, rfl, rfl, hwlL hL2.1, at3, d, v3', rfl, g3, (by show 3 ≤ sizeLine; decide), fun p4 hp4 => ?_⟩
      have sp4 := same_new hp4 (.tup [.str "pair", v2, v3'])
      have hL3 := hL2.go sp4
      have hl3 := hL3.len
      refine ⟨_, rfl, _, rfl, _, rfl, wl, _, _, _, rfl, rfl, hwlL hL3.1, hzV, d, _, rfl, DPut.k (k := .inr z) hL3.2.1 (Nat.lt_of_lt_of_le (Nat.lt_succ_self _) (small (by omega))), ?_⟩
      have hL4 := hL3.write hd0 hzm (.pair (SqT.of upd_same) (hv2.same sp4) (hv3.same sp4))
      have w4 : (Kd.pair k1 k3).words ≤ 900 := by
        have a1 := ko1.2
        have a2 := ko3.2
        show 1 + k1.words + k3.words ≤ 900
        omega
      obtain ⟨v9, g9, hv9⟩ := hL4.own (hndA _)
      refine ⟨_, rfl, _, rfl, _, rfl, wl, _, _, _, rfl, rfl, hwlL hL4.1, hzV, d, v9, rfl, g9, v9, _, rfl, hv9, w4, fun H9 s9 => ⟨_, _, rfl, rfl, _, rfl, ite2 (fun _ => ?_) (fun c9 => ?_)⟩⟩
      · have HL9 := hL4.go s9
        have e9 : (0 : Int) < ((10 : Int) ^ (18 : Int).toNat) := by decide
        refine ⟨_, rfl, _, _, rfl, rfl, ⟨by decide, by decide, by decide⟩, _, _, rfl, rfl, e9, _, _, rfl, rfl, (by show 2 ≤ sizeLine; decide), fun p9 hp9 => ?_⟩
        have sp9 := same_new hp9 (.tup [.str "num", .int (1 + c % (10 : Int) ^ (18 : Int).toNat)])
        have HLa := HL9.go sp9
        have hll := HLa.len
        refine ⟨_, rfl, _, rfl, _, rfl, wl, _, _, _, rfl, rfl, hwlL HLa.1, hzV, d, _, rfl, DPut.k (k := .inr z) HLa.2.1 (Nat.lt_of_lt_of_le (Nat.lt_succ_self _) (small (by omega))), ?_⟩
        exact fin _ _ _ c (HLa.write hd0 hzm (.num (SqT.of upd_same))) ⟨trivial, by show 1 ≤ 20; decide⟩
      · exact fin _ _ _ c (hL4.go s9) ⟨⟨ko1.1, ko3.1⟩, Int.ofNat_le.mp (Int.not_lt.mp (of_decide_eq_false (Bool.eq_false_iff.mpr c9)))⟩
    · have w2 : k1.words ≤ 900 := Nat.le_trans ko1.2 (by decide)
      obtain ⟨v9, g9, hv9⟩ := hL2.own (hndA _)
      refine ⟨_, rfl, _, rfl, _, rfl, wl, _, _, _, rfl, rfl, hwlL hL2.1, hzV, d, v9, rfl, g9, v9, _, rfl, hv9, w2, fun H9 s9 => ⟨_, _, rfl, rfl, _, rfl, ite2 (fun _ => ?_) (fun c9 => ?_)⟩⟩
      · have HL9 := hL2.go s9
        have e9 : (0 : Int) < ((10 : Int) ^ (18 : Int).toNat) := by decide
        refine ⟨_, rfl, _, _, rfl, rfl, ⟨by decide, by decide, by decide⟩, _, _, rfl, rfl, e9, _, _, rfl, rfl, (by show 2 ≤ sizeLine; decide), fun p9 hp9 => ?_⟩
        have sp9 := same_new hp9 (.tup [.str "num", .int (1 + c % (10 : Int) ^ (18 : Int).toNat)])
        have HLa := HL9.go sp9
        have hll := HLa.len
        refine ⟨_, rfl, _, rfl, _, rfl, wl, _, _, _, rfl, rfl, hwlL HLa.1, hzV, d, _, rfl, DPut.k (k := .inr z) HLa.2.1 (Nat.lt_of_lt_of_le (Nat.lt_succ_self _) (small (by omega))), ?_⟩
        exact fin _ _ _ c (HLa.write hd0 hzm (.num (SqT.of upd_same))) ⟨trivial, by show 1 ≤ 20; decide⟩
      · exact fin _ _ _ c (hL2.go s9) ⟨ko1.1, Int.ofNat_le.mp (Int.not_lt.mp (of_decide_eq_false (Bool.eq_false_iff.mpr c9)))⟩
  · rintro σ H2 ⟨kvs, m, v3, v4, rfl, s2, hd2, hpk, hmk, hmo⟩
    rw [hwl6, Int.toNat_natCast, List.take_length] at hmk
    exact ⟨_, rfl, q H2 d kvs m s2 hd0 hd2 hpk hmk hmo⟩
end
end K25

namespace K25
open PySem L2 Kk
/-! _law_funs -/
def FOk (q : Str × (List Kd × Kd)) : Prop := okW q.1 ∧ (∀ k ∈ q.2.1, KOk k) ∧ KOk q.2.2 ∧ q.2.1.length ≤ 4
def spFuns (K : PySem.W.Frag) : Sp := fun vs H Q _ => ∃ (a wl kd : Addr) (ns : List Int) (ws : List Str) (kvs : List (Key × V)) (m : List (Str × Kd)), vs = [.ref a, .ref wl, .ref kd] ∧ SqL K H a (ns.map V.int) ∧ ns.length ≤ 63 ∧ H wl = some (.lst (ws.map V.str)) ∧ 1 ≤ ws.length ∧ ws.length ≤ 6 ∧ ws.Nodup ∧
  H kd = some (.dK kvs) ∧ PkAt (KdAt K H) kvs m ∧ m.map (·.1) = ws ∧ (∀ q ∈ m, KOk q.2) ∧
  ∀ H' (d : Addr) (fvs : List (Key × V)) (m2 : List (Str × (List Kd × Kd))), Same H H' → H d = none → H' d = some (.dK fvs) → PkAt (FunAt K H') fvs m2 → (m2.map (·.1)).Nodup → m2.length ≤ 6 → (∀ q ∈ m2, FOk q) → Q (.ref d) H'
section
variable {P : Program} {w : World} {K : PySem.W.Frag} {mg : Str → Option Value} {base : Heap}
abbrev fuN : List Str := ["_law_script", "_law_words_here", "_law_kinds_here", "_law_funs_here", "_law_f", "_law_cell_here", "_law_args"]
theorem scFuns : FnScope fuN ["_law_script", "_law_words_here", "_law_kinds_here"] (defScope sFuns) := ⟨rfl, rfl, rfl, by decide +kernel, rfl, by decide +kernel, by decide +kernel⟩
set_option maxHeartbeats 0 in
theorem ok_funs {f fc fw : Addr} {fd fdc fdw : FuncData} (F : Fun K "_law_funs" "_law_funs" sFuns f fd)
    (GC : FnOk P w K mg base CX0 1 fc fdc ["_law_script", "_law_k"] (spCell K)) (bC : Binds K fdc ["_law_script", "_law_k"] []) (kC : PySem.W.keepIn K (.ref fc) = true) (mC : mg "_law_cell" = some (.ref fc))
    (GW : FnOk P w K mg base CX0 2 fw fdw ["_law_script", "_law_start", "_law_many"] (spWordsL K)) (bW : Binds K fdw ["_law_script", "_law_start", "_law_many"] []) (kW : PySem.W.keepIn K (.ref fw) = true) (mW : mg "_law_words" = some (.ref fw)) (mr : mg "range" = none) (ml : mg "len" = none) (mt : mg "tuple" = none) :
    FnOk P w K mg base CX0 3 f fd ["_law_script", "_law_words_here", "_law_kinds_here"] (spFuns K) := by
  refine F.ok scFuns (fun vs H Q E h => ?_) (fun cdv A outer s H vs Q E hr h => ?_)
  · obtain ⟨a, wl, kd, ns, ws, kvs, m, rfl, _⟩ := h
    rfl
  obtain ⟨a, wl, kd, ns, ws, kvs, m, rfl, hS, h63, hwl, hw1, h6, hnd, hkd, hpk, hmk, hmo, q⟩ := h
  have hu := hu_of hr
  have hr1 : Room 1 _ := hr.mono (by decide)
  refine ⟨_, pss_cons (ps_set (i := 3) scFuns.nd rfl (Or.inl rfl) pe_dnewK)
    (pss_cons (ps_for PassesOwn.never rfl (pi_list (pe_call GW hr rfl mW kW bW .nil pass0 (pa_cons (pv 0) (pa_cons pe_int (pa_cons (pe_op op_mod (pe_call GC hr1 rfl mC kC bC .nil pass0 (pa_cons (pv 0) (pa_cons pe_int pa_nil))) pe_int) pa_nil))))) (pg_name (i := 4) scFuns.nd rfl (Or.inl rfl))
      (pss_cons (ps_set (i := 5) scFuns.nd rfl (Or.inr rfl) (pe_call GC hr1 rfl mC kC bC .nil pass0 (pa_cons (pv 0) (pa_cons (pe_op op_add pe_int (pe_callB call_lenD rfl ml PySem.boot_len (pa_cons (pv 3) pa_nil))) pa_nil))))
      (pss_cons (ps_comp (i0 := 6) (own := ["_law_k"]) (caps := ["_law_words_here", "_law_kinds_here", "_law_cell_here"]) (κ := [1, 2, 5]) scFuns.nd rfl (Or.inl rfl) rfl ⟨rfl, by decide +kernel, by decide +kernel, rfl, rfl, (fun y hy => by simp only [List.mem_cons, List.not_mem_nil, or_false] at hy; rcases hy with rfl | rfl | rfl <;> rfl), (fun y hy => by simp only [List.mem_cons, List.not_mem_nil, or_false] at hy; rcases hy with rfl | rfl | rfl <;> exact ⟨.inl rfl, rfl, .inl rfl⟩)⟩ rfl
        (pi_range1 rfl mr (pa_cons (pe_op op_mod (pv 5) pe_int) pa_nil)) (fun _ _ _ _ => pg_name (i := 0) (show (["_law_k", "_law_words_here", "_law_kinds_here", "_law_cell_here"] : List Str).Nodup from by decide +kernel) rfl (Or.inl rfl))
        (fun _ _ _ _ => pe_dget hu (pv 2) (pe_ix (ixLK (K := K) rfl) (pv 1) (pe_op op_mod (pe_op op_fdiv (pv 3) (pe_op op_add pe_int (pe_op op_mul pe_int (pv 0)))) (pe_callB (lenK (K := K) rfl) rfl ml PySem.boot_len (pa_cons (pv 1) pa_nil))) (fun _ _ => rfl)) (fun _ _ => rfl)))
      (pss_one (ps_dput hu (pv 3) (pv 4) (pe_tup (pa_cons (pe_callTy call_tuple_of rfl mt bootTuple (pa_cons (pv 6) pa_nil)) (pa_cons (pe_dget hu (pv 2) (pe_ix ix_list (pv 1) (pe_op op_mod (pe_op op_fdiv (pv 5) pe_int) (pe_callB call_len_seq rfl ml PySem.boot_len (pa_cons (pv 1) pa_nil))) (fun _ _ => rfl)) (fun _ _ => rfl)) pa_nil))) rfl)))))
    (pss_one (ps_ret (pv 3)))), ?_⟩
  intro d hd0
  have sd := same_new hd0 (.dK [])
  have hwlen : ((ws.map V.str).length : Int) = (ws.length : Int) := by rw [List.length_map]
  have hpos : (0 : Int) < ((ws.map V.str).length : Int) := by rw [hwlen]; omega
  have kget : ∀ cc : Int, ∃ (y : Str) (k : Kd), KOk k ∧ atI (ws.map V.str) (cc % ((ws.map V.str).length : Int)) = some (.str y) ∧ ∀ H3, Same H H3 → ∃ v, DGet H3 kd (.str y) (some v) ∧ KdAt K H3 v k := by
    intro cc
    obtain ⟨j, x, hji, hjx, hat⟩ := at_mod (xs := ws.map V.str) (c := cc) (i := (ws.map V.str).length) (by omega) (Nat.le_refl _)
    rw [Int.zero_add] at hat
    rw [List.getElem?_map] at hjx
    obtain ⟨y, hy, rfl⟩ := Option.map_eq_some_iff.mp hjx
    have hmj : (m.map (·.1))[j]? = some y := by rw [hmk]; exact hy
    rw [List.getElem?_map] at hmj
    obtain ⟨⟨y', k⟩, hq, e⟩ := Option.map_eq_some_iff.mp hmj
    have e' : y' = y := e
    subst e'
    refine ⟨y', k, hmo _ (List.mem_of_getElem? hq), hat, fun H3 s3 => ?_⟩
    obtain ⟨v, h1, h2⟩ := hpk.get (by rw [hmk]; exact hnd) hq
    refine ⟨v, ?_, h2.same s3⟩
    rw [← h1]
    exact DGet.k (k := .inr y') (s3 _ _ hkd)
  refine ⟨_, rfl, _, rfl, a, ns, _, rfl, sql_same sd hS, h63, by decide, by decide, fun c1 => ?_⟩
  have r0 := Int.emod_nonneg c1 (show (7 : Int) ≠ 0 by decide)
  have r1 := Int.emod_lt_of_pos c1 (show (0 : Int) < 7 by decide)
  refine ⟨_, _, rfl, rfl, (by show (0 : Int) < 7; decide), a, ns, _, _, rfl, sql_same sd hS, h63, by decide, by decide, by omega, by omega, fun H1 l fs s1 hl hL hlen hfnd hfok => ?_⟩
  have hS1 := sd.trans s1
  have hdl : d ≠ l := fun e => by rw [← e, upd_same] at hl; cases hl
  have hl0 : H l = none := sd.free hl
  refine ⟨l, rfl, ⟨_, SqL.of hL⟩, for_list (K := K) (xs := fs.map V.str) (fun i σ H3 => ∃ (fvs : List (Key × V)) (m2 : List (Str × (List Kd × Kd))) (v4 v5 v6 : Option V), σ = [some (.ref a), some (.ref wl), some (.ref kd), some (.ref d), v4, v5, v6] ∧ Same H H3 ∧ H3 l = some (.lst (fs.map V.str)) ∧ H3 d = some (.dK fvs) ∧ PkAt (FunAt K H3) fvs m2 ∧ m2.map (·.1) = fs.take i ∧ ∀ q ∈ m2, FOk q)
    ⟨[], [], none, none, none, rfl, hS1, hL, s1 _ _ upd_same, .nil, rfl, fun q hq => nomatch hq⟩ ?_ ?_ ?_⟩
  · rintro i σ H3 _ ⟨_, _, _, _, _, _, _, h, _⟩
    exact SqL.of h
  · rintro i y σ H3 hy ⟨fvs, m2, v4, v5, v6, rfl, s3, hL3, hd3, hpf, hmf, hfo⟩
    rw [List.getElem?_map] at hy
    obtain ⟨z, hz, rfl⟩ := Option.map_eq_some_iff.mp hy
    have hil : i < fs.length := (List.getElem?_eq_some_iff.mp hz).1
    have hm2l : m2.length = i := by
      have e := congrArg List.length hmf
      rw [List.length_map, List.length_take] at e
      omega
    have hfl : fvs.length = m2.length := Paired.length hpf
    have hzm : z ∉ m2.map (·.1) := by rw [hmf]; exact out_take hfnd hz
    refine ⟨_, rfl, _, rfl, d, fvs, rfl, hd3, _, _, rfl, rfl, a, ns, _, rfl, sql_same s3 hS, h63, by omega, by omega, fun c => ?_⟩
    have t0 := Int.emod_nonneg c (show (5 : Int) ≠ 0 by decide)
    have t1 := Int.emod_lt_of_pos c (show (0 : Int) < 5 by decide)
    refine ⟨_, rfl, _, _, rfl, rfl, (by show (0 : Int) < 5; decide), _, rfl, by omega, by omega, ?_⟩
    refine comp_by (J := Itr 0 (c % 5).toNat) (xs := rangeV 0 (c % 5).toNat) (fun n ys H4 => n ≤ (c % 5).toNat ∧ H4 = H3 ∧ ∃ ks, KdsAt K H3 ys ks ∧ ks.length = n ∧ ∀ k ∈ ks, KOk k) ⟨Nat.zero_le _, rfl, [], .nil, rfl, fun k hk => nomatch hk⟩ (by rw [rangeV_len]; exact small (by omega)) ?_ ?_ ?_ ?_ ?_ ?_
    · rintro n ys H4 ⟨hn, rfl, ks, h1, h2, _⟩
      rw [h1.length, h2]
      exact Nat.le_refl _
    · rintro n x ys H4 hx _
      exact itr_go hx
    · rintro n ys x H4 H' hn _ hy
      rw [rangeV_len] at hn
      exact itr_yld' hn hy
    · rintro ys H4 _
      rw [rangeV_len]
      exact Nat.le_refl _
    · rintro n x ys H4 N hN hx ⟨hn, rfl, ks, h1, h2, h3⟩
      obtain ⟨hn', rfl⟩ := rangeV_get.mp hx
      obtain ⟨yw, k, ko, hat, hget⟩ := kget (c / (5 + 2 * (0 + (n : Int))))
      obtain ⟨v, g, hv⟩ := hget _ s3
      refine ⟨rfl, tYes_go ⟨_, rfl, _, rfl, _, rfl, _, rfl, _, _, rfl, rfl, .inl ⟨by omega, by omega⟩, _, _, rfl, rfl, _, _, rfl, rfl, ⟨by omega, by omega⟩, _, rfl, wl, _, rfl, .inl (SqL.of (s3 _ _ hwl)), _, _, rfl, rfl, hpos, wl, _, _, _, rfl, rfl, SqL.of (s3 _ _ hwl), hat, kd, v, rfl, g, hN _ _ ⟨hn', rfl, ks ++ [k], h1.append (one hv), by rw [List.length_append, h2]; rfl, fun k' hk' => ?_⟩⟩⟩
      rcases List.mem_append.mp hk' with h | h
      · exact h3 k' h
      · rw [List.mem_singleton.mp h]
        exact ko
    · rintro ys H4 D ⟨hn, rfl, ks, h1, h2, h3⟩ hD
      rw [rangeV_len] at h2
      have sD := same_new hD (.lst ys)
      obtain ⟨yw, k, ko, hat, hget⟩ := kget (c / 3)
      refine ⟨_, rfl, D, ys, rfl, .inl ⟨SqL.of upd_same, fun ta hta => ?_⟩⟩
      have sT := same_new hta (.tup ys)
      have sA := s3.trans (sD.trans sT)
      obtain ⟨v, g, hv⟩ := hget _ sA
      refine ⟨_, rfl, _, rfl, _, rfl, _, _, rfl, rfl, ⟨by decide, by decide⟩, _, rfl, wl, _, rfl, .inl (SqL.of (sA _ _ hwl)), _, _, rfl, rfl, hpos, wl, _, _, _, rfl, rfl, SqL.of (sA _ _ hwl), hat, kd, v, rfl, g, (by show 2 ≤ sizeLine; decide), fun p hp => ?_⟩
      have sP := same_new hp (.tup [.ref ta, v])
      have sB := sA.trans sP
      have sX := sD.trans (sT.trans sP)
      have hdX := sX _ _ hd3
      refine ⟨_, rfl, _, rfl, d, _, rfl, DPut.k (k := .inr z) hdX (Nat.lt_of_lt_of_le (Nat.lt_succ_self _) (small (by omega))), ?_⟩
      have kp : ∀ a xs, SqT K (upd (upd (upd H4 D (.lst ys)) ta (.tup ys)) p (.tup [.ref ta, v])) a xs → SqT K (upd (upd (upd (upd H4 D (.lst ys)) ta (.tup ys)) p (.tup [.ref ta, v])) d (.dK (putK fvs (.inr z) (.ref p)))) a xs := fun a xs t => sqt_dk hdX t
      refine ⟨putK fvs (.inr z) (.ref p), m2 ++ [(z, (ks, k))], _, _, _, rfl, sput sB hd0, ?_, upd_same, ?_, ?_, ?_⟩
      · rw [upd_ne (Ne.symm hdl)]
        exact sX _ _ hL3
      · refine PkAt.put (hpf.imp fun v' x' h => h.keep fun b xs t => kp b xs (sX.tup t)) hzm ⟨p, ta, v, ys, rfl, kp _ _ (SqT.of upd_same), kp _ _ (sP.tup (SqT.of upd_same)), kds_keep (fun b xs t => kp b xs (sX.tup t)) h1, kd_keep (fun b xs t => kp b xs (sP.tup t)) hv⟩
      · rw [List.map_append, hmf, List.take_add_one, hz]
        rfl
      · intro q hq
        rcases List.mem_append.mp hq with h | h
        · exact hfo q h
        · rw [List.mem_singleton.mp h]
          exact ⟨hfok z (List.mem_of_getElem? hz), h3, ko, by show ks.length ≤ 4; omega⟩
  · rintro σ H3 ⟨fvs, m2, v4, v5, v6, rfl, s3, hL3, hd3, hpf, hmf, hfo⟩
    rw [List.length_map, List.take_length] at hmf
    have hm2l : m2.length = fs.length := by
      have e := congrArg List.length hmf
      rw [List.length_map] at e
      exact e
    exact ⟨_, rfl, q H3 d fvs m2 s3 hd0 hd3 hpf (by rw [hmf]; exact hfnd) (by omega) hfo⟩
end
end K25

namespace K25
open PySem L2 Kk
/-! _law_withs -/
def loopBody : Stmt → List Stmt
  | .For _ _ body _ _ => body
  | _ => []
def spWiths (K : PySem.W.Frag) : Sp := fun vs H Q _ => ∃ (a wl : Addr) (ns : List Int) (ws : List Str), vs = [.ref a, .ref wl] ∧ SqL K H a (ns.map V.int) ∧ ns.length ≤ 63 ∧ H wl = some (.lst (ws.map V.str)) ∧ 1 ≤ ws.length ∧ (∀ z ∈ ws, okW z) ∧
  ∀ H' (l : Addr) (xs : List V) (us : List (Str × Kd)), Same H H' → H l = none → H' l = some (.lst xs) → WithsAt K H' xs us → us.length ≤ 5 → WGood us → Q (.ref l) H'
theorem WithsAt.same {K : PySem.W.Frag} {H H' : Hp} {xs : List V} {us : List (Str × Kd)} (e : Same H H') (h : WithsAt K H xs us) : WithsAt K H' xs us := Paired.mapP h fun _ _ r => r.same e
theorem WithsAt.keep {K : PySem.W.Frag} {H H' : Hp} {xs : List V} {us : List (Str × Kd)} (e : ∀ a ys, SqT K H a ys → SqT K H' a ys) (h : WithsAt K H xs us) : WithsAt K H' xs us := Paired.mapP h fun _ _ ⟨p, y, h1, h2, h3⟩ => ⟨p, y, h1, e _ _ h2, kd_keep e h3⟩
theorem WithsAt.snoc {K : PySem.W.Frag} {H : Hp} {xs : List V} {us : List (Str × Kd)} {v : V} {q : Str × Kd} (h : WithsAt K H xs us) (hv : WithAt K H v q) : WithsAt K H (xs ++ [v]) (us ++ [q]) := Paired.snoc h hv
abbrev wiN : List Str := ["_law_script", "_law_words_here", "_law_withs_here", "_law_k", "_law_cell_here", "_law_word_here", "_law_leaves", "_law_j", "_law_some"]
section
variable {P : Program} {w : World} {K : PySem.W.Frag} {mg : Str → Option Value} {base : Heap}
theorem scWiths : FnScope wiN ["_law_script", "_law_words_here"] (defScope sWiths) := ⟨rfl, rfl, rfl, by decide +kernel, rfl, by decide +kernel, by decide +kernel⟩
set_option maxHeartbeats 0 in
theorem wi_tail {f fw ft : Addr} {fdw fdt : FuncData}
    (GW : FnOk P w K mg base CX0 1 fw fdw ["_law_cell_here"] spWordF) (bW : Binds K fdw ["_law_cell_here"] []) (kW : PySem.W.keepIn K (.ref fw) = true) (mW : mg "_law_word" = some (.ref fw))
    (GT : FnOk P w K mg base CX0 1 ft fdt ["_law_leaves", "_law_turn"] (spTree K)) (bT : Binds K fdt ["_law_leaves", "_law_turn"] []) (kT : PySem.W.keepIn K (.ref ft) = true) (mT : mg "_law_tree" = some (.ref ft)) (mr : mg "range" = none)
    {cdv : Value} {A : Around} {outer : List Env} {s : Shared} {H : Hp} {E : XK} (hr : Room 1 (A.deeper (PyProof.Rows.envOfC "_law_withs" (defScope sWiths) s.heap.objs.size f cdv))) :
    ∃ t, PSs (cxOf CX0 P w K mg base wiN "_law_withs" (defScope sWiths) f cdv A outer s H E).nox (List.drop 4 (loopBody ((defBody sWiths).getD 1 (.Pass ⟨0, 0, 0, 0⟩)))) t ∧
      ∀ (D : Ends) (B : Hp) (a0 a1 a3 v6 v7 v8 : Option V) (l : Addr) (c : Int) (z : Str) (xs : List V) (us : List (Str × Kd)), Same H B → H l = none → B l = some (.lst xs) → WithsAt K B xs us → xs.length ≤ 10 → okW z → 
        (∀ (H' : Hp) (k : Kd) (v : V) (v6 v7 v8 : Option V), Same H H' → H' l = some (.lst (xs ++ [v])) → WithsAt K H' (xs ++ [v]) (us ++ [(z, k)]) → Kd.ok k → k.words ≤ 27 → D.nx [a0, a1, some (.ref l), a3, some (.int c), some (.str z), v6, v7, v8] H') →
        t D [a0, a1, some (.ref l), a3, some (.int c), some (.str z), v6, v7, v8] B := by
  refine ⟨_, pss_cons (ps_set (i := 6) scWiths.nd rfl (Or.inl rfl) (pe_lst pa_nil))
    (pss_cons (ps_for PassesOwn.never rfl (pi_range1 rfl mr (pa_cons (pe_op op_add pe_int (pe_op op_mod (pe_op op_fdiv (pv 4) pe_int) (pe_ix ix_list (pe_lst (pa_cons pe_int (pa_cons pe_int (pa_cons pe_int pa_nil)))) (pe_op op_mod (pe_op op_fdiv (pv 4) pe_int) pe_int) (fun _ _ => rfl)))) pa_nil)) (pg_name (i := 7) scWiths.nd rfl (Or.inl rfl))
      (pss_cons (ps_set (i := 8) scWiths.nd rfl (Or.inl rfl) (pe_lst (pa_cons (pe_tup (pa_cons pe_str (pa_cons (pe_op op_add pe_int (pe_op op_mod (pe_op op_add (pv 4) (pv 7)) (pe_op op_pow pe_int pe_int))) pa_nil)))
        (pa_cons (pe_tup (pa_cons pe_str (pa_cons (pe_call GW hr (by rfl) mW kW bW .nil pass0 (pa_cons (pe_op op_fdiv (pv 4) pe_int) pa_nil)) (pa_cons (pv 5) pa_nil)))) pa_nil))))
      (pss_one (ps_expr (pe_bm PySem.F.plainAttrs_list PySem.F.slot_list_append PySem.F.type_list_append mt_append (pv 6) (pa_cons (pe_ix ix_list (pv 8) (pe_op op_mod (pe_op op_add (pe_op op_fdiv (pv 4) pe_int) (pv 7)) pe_int) (fun _ _ => rfl)) pa_nil))))))
    (pss_one (ps_expr (pe_bm PySem.F.plainAttrs_list PySem.F.slot_list_append PySem.F.type_list_append mt_append (pv 2) (pa_cons (pe_tup (pa_cons (pv 5) (pa_cons (pe_call GT hr (by rfl) mT kT bT .nil pass0 (pa_cons (pv 6) (pa_cons (pe_op op_fdiv (pv 4) pe_int) pa_nil))) pa_nil))) pa_nil))))), ?_⟩
  intro D B a0 a1 a3 v60 v70 v80 l c z xs us sB hl0 hl hxs hx10 hz q
  refine ⟨(by show 0 ≤ sizeLine; decide), fun lv hlv => ?_⟩
  have slv := same_new hlv (.lst [])
  refine ⟨_, rfl, _, _, rfl, rfl, ⟨by decide, by decide⟩, (by show 3 ≤ sizeLine; decide), fun pg hpg => ?_⟩
  have spg := same_new hpg (.lst [.int 1, .int 2, .int 14])
  obtain ⟨g, hg, g1, g2⟩ : ∃ g : Int, atI [V.int 1, .int 2, .int 14] (c / 7 % 3) = some (.int g) ∧ 1 ≤ g ∧ g ≤ 14 := by
    have r0 := Int.emod_nonneg (c / 7) (show (3 : Int) ≠ 0 by decide)
    have r1 := Int.emod_lt_of_pos (c / 7) (show (0 : Int) < 3 by decide)
    have h3 : c / 7 % 3 = 0 ∨ c / 7 % 3 = 1 ∨ c / 7 % 3 = 2 := by omega
    rcases h3 with e | e | e <;> rw [e]
    · exact ⟨1, rfl, by decide, by decide⟩
    · exact ⟨2, rfl, by decide, by decide⟩
    · exact ⟨14, rfl, by decide, by decide⟩
  have m0 := Int.emod_nonneg (c / 48) (show g ≠ 0 by omega)
  have m1 := Int.emod_lt_of_pos (c / 48) (show 0 < g by omega)
  refine ⟨_, rfl, _, _, rfl, rfl, ⟨by decide, by decide⟩, _, _, rfl, rfl, (by show (0 : Int) < 3; decide), pg, _, _, _, rfl, rfl, SqL.of upd_same, hg, _, _, rfl, rfl, (by show 0 < g; omega), _, _, rfl, rfl, _, rfl, by omega, by omega,
    for_range (fun j σ H3 => ∃ (ys : List V) (ks : List Kd) (v7 v8 : Option V), σ = [a0, a1, some (.ref l), a3, some (.int c), some (.str z), some (.ref lv), v7, v8] ∧ Same B H3 ∧ H3 lv = some (.lst ys) ∧ KdsAt K H3 ys ks ∧ (∀ k ∈ ks, LfOk k) ∧ ys.length = j)
    ⟨[], [], v70, v80, rfl, slv.trans spg, spg _ _ upd_same, .nil, (fun k hk => nomatch hk), rfl⟩ ?_ ?_⟩
  · rintro j σ H3 hj ⟨ys, ks, v7, v8, rfl, s3, hlv3, hks, hlf, hyl⟩
    have hj14 : j < 14 := by omega
    have e9 : (0 : Int) < ((10 : Int) ^ (18 : Int).toNat) := by decide
    refine ⟨_, rfl, _, rfl, _, _, rfl, rfl, _, _, rfl, rfl, ⟨by decide, by decide, by decide⟩, _, _, rfl, rfl, e9, _, _, rfl, rfl, (by show 2 ≤ sizeLine; decide), fun p1 hp1 => ?_⟩
    have sp1 := same_new hp1 (.tup [.str "num", .int (1 + (c + (0 + (j : Int))) % (10 : Int) ^ (18 : Int).toNat)])
    refine ⟨_, rfl, _, _, rfl, rfl, ⟨by decide, by decide⟩, _, rfl, fun H4 s4 => ?_⟩
    refine ⟨_, rfl, (by show 3 ≤ sizeLine; decide), fun p2 hp2 => ⟨(by show 2 ≤ sizeLine; decide), fun p3 hp3 => ?_⟩⟩
    have sp2 := same_new hp2 (.tup [.str "name", .str (wordF (c / 9)), .str z])
    have sp3 := same_new hp3 (.lst [.ref p1, .ref p2])
    have s13 := sp1.trans (s4.trans (sp2.trans sp3))
    obtain ⟨x, k, hx, hxk, hko⟩ : ∃ (x : V) (k : Kd), atI [V.ref p1, .ref p2] ((c / 3 + (0 + (j : Int))) % 2) = some x ∧ KdAt K (upd (upd H4 p2 (.tup [.str "name", .str (wordF (c / 9)), .str z])) p3 (.lst [.ref p1, .ref p2])) x k ∧ LfOk k := by
      have r0 := Int.emod_nonneg (c / 3 + (0 + (j : Int))) (show (2 : Int) ≠ 0 by decide)
      have r1 := Int.emod_lt_of_pos (c / 3 + (0 + (j : Int))) (show (0 : Int) < 2 by decide)
      have h3 : (c / 3 + (0 + (j : Int))) % 2 = 0 ∨ (c / 3 + (0 + (j : Int))) % 2 = 1 := by omega
      rcases h3 with e | e <;> rw [e]
      · exact ⟨.ref p1, _, rfl, .num ((s4.trans (sp2.trans sp3)).tup (SqT.of upd_same)), rfl, trivial⟩
      · exact ⟨.ref p2, _, rfl, .name (sp3.tup (SqT.of upd_same)), rfl, okW_word _, hz⟩
    have hlv4 := s13 _ _ hlv3
    refine ⟨_, rfl, .inl ⟨rfl, _, SqL.of hlv4⟩, _, rfl, _, rfl, _, _, rfl, rfl, ⟨by decide, by decide⟩, _, rfl, _, _, rfl, rfl, _, _, rfl, rfl, (by show (0 : Int) < 2; decide), p3, _, _, _, rfl, rfl, SqL.of upd_same, hx, lv, _, _, rfl, rfl, hlv4, Nat.lt_of_lt_of_le (Nat.lt_succ_self _) (small (by omega)), ?_⟩
    refine ⟨ys ++ [x], ks ++ [k], _, _, rfl, sput (s3.trans s13) hlv, upd_same, kds_keep (fun _ _ t => sqt_upd hlv4 t) ((hks.same s13).append (one hxk)), ?_, by rw [List.length_append, hyl] <;> rfl⟩
    intro k' hk'
    rcases List.mem_append.mp hk' with h | h
    · exact hlf k' h
    · rw [List.mem_singleton.mp h]
      exact hko
  · rintro σ H3 ⟨ys, ks, v7, v8, rfl, s3, hlv3, hks, hlf, hyl⟩
    have hl3 := s3 _ _ hl
    have hkl := hks.length
    refine ⟨_, rfl, .inl ⟨rfl, _, SqL.of hl3⟩, _, rfl, _, rfl, _, rfl, _, _, rfl, rfl, ⟨by decide, by decide⟩, lv, _, ys, ks, rfl, hlv3, hks, by omega, by omega, fun H4 v k s4 hv hlv4 => ⟨(by show 2 ≤ sizeLine; decide), fun p hp => ?_⟩⟩
    have sp := same_new hp (.tup [.str z, v])
    have s34 := s4.trans sp
    have hl5 := s34 _ _ hl3
    refine ⟨l, _, _, rfl, rfl, hl5, Nat.lt_of_lt_of_le (Nat.lt_succ_self _) (small (by omega)), ?_⟩
    have kp : ∀ b ts, SqT K (upd H4 p (.tup [.str z, v])) b ts → SqT K (upd (upd H4 p (.tup [.str z, v])) l (.lst (xs ++ [.ref p]))) b ts := fun _ _ t => sqt_upd hl5 t
    have hlen := flat_len fun k hk => (hlf k hk).1
    have hwl := words_leaves k
    rw [hlv4, hlen] at hwl
    refine q _ k (.ref p) _ _ _ (sput (sB.trans (s3.trans s34)) hl0) upd_same ?_ (ok_leaves fun lf h => flat_ok hlf lf (by rw [← hlv4]; exact h)) (by omega)
    exact ((hxs.same (s3.trans s34)).keep kp).snoc ⟨p, v, rfl, kp _ _ (SqT.of upd_same), kd_keep kp (hv.same sp)⟩
set_option maxHeartbeats 0 in
theorem ok_withs {f fc fw ft : Addr} {fd fdc fdw fdt : FuncData} (F : Fun K "_law_withs" "_law_withs" sWiths f fd)
    (GC : FnOk P w K mg base CX0 1 fc fdc ["_law_script", "_law_k"] (spCell K)) (bC : Binds K fdc ["_law_script", "_law_k"] []) (kC : PySem.W.keepIn K (.ref fc) = true) (mC : mg "_law_cell" = some (.ref fc))
    (GW : FnOk P w K mg base CX0 1 fw fdw ["_law_cell_here"] spWordF) (bW : Binds K fdw ["_law_cell_here"] []) (kW : PySem.W.keepIn K (.ref fw) = true) (mW : mg "_law_word" = some (.ref fw))
    (GT : FnOk P w K mg base CX0 1 ft fdt ["_law_leaves", "_law_turn"] (spTree K)) (bT : Binds K fdt ["_law_leaves", "_law_turn"] []) (kT : PySem.W.keepIn K (.ref ft) = true) (mT : mg "_law_tree" = some (.ref ft)) (mr : mg "range" = none) (ml : mg "len" = none) :
    FnOk P w K mg base CX0 2 f fd ["_law_script", "_law_words_here"] (spWiths K) := by
  refine F.ok scWiths (fun vs H Q E h => ?_) (fun cdv A outer s H vs Q E hr h => ?_)
  · obtain ⟨a, wl, ns, ws, rfl, _⟩ := h
    rfl
  obtain ⟨a, wl, ns, ws, rfl, hS, h63, hwl, hw1, hok, q⟩ := h
  obtain ⟨t4, e4, k4⟩ := wi_tail (outer := outer) (H := H) (E := E) GW bW kW mW GT bT kT mT mr hr
  refine ⟨_, (@pss_cons _ _ _ _ _ (ps_set (i := 2) scWiths.nd rfl (Or.inl rfl) (pe_lst pa_nil))
    (@pss_cons _ _ _ _ _ (ps_for PassesOwn.never rfl (pi_range1 rfl mr (pa_cons (pe_op op_mod (pe_call GC hr (by rfl) mC kC bC .nil pass0 (pa_cons (pv 0) (pa_cons pe_int pa_nil))) pe_int) pa_nil)) (pg_name (i := 3) scWiths.nd rfl (Or.inl rfl))
      (@pss_cons _ _ _ _ _ (ps_set (i := 4) scWiths.nd rfl (Or.inl rfl) (pe_call GC hr (by rfl) mC kC bC .nil pass0 (pa_cons (pv 0) (pa_cons (pe_op op_add pe_int (pv 3)) pa_nil))))
      (@pss_cons _ _ _ _ _ (ps_set (i := 5) scWiths.nd rfl (Or.inl rfl) (pe_ix ix_list (pv 1) (pe_op op_mod (pv 4) (pe_callB call_len_seq rfl ml PySem.boot_len (pa_cons (pv 1) pa_nil))) (fun _ _ => rfl)))
      (@pss_cons _ _ _ _ _ (ps_if (pt_cmpR op_eq (pe_op op_mod (pe_op op_fdiv (pv 4) pe_int) pe_int) pe_int (nomark _)) (pss_one (ps_set (i := 5) scWiths.nd rfl (Or.inl rfl) pe_str)) pss_nil)
      (@pss_cons _ _ _ _ _ (ps_if (PW.pt (pw_and (pt_cmpR op_eq (pv 3) pe_int (nomark _)) (pw_and1 (pt_cmpR op_lt (pe_op op_mod (pe_op op_fdiv (pv 4) pe_int) pe_int) pe_int (nomark _))))) (pss_one (ps_set (i := 5) scWiths.nd rfl (Or.inl rfl) (pe_ix ix_list (pv 1) pe_int (fun _ _ => rfl)))) pss_nil)
      @e4)))))
    (pss_one (ps_ret (pv 2)))) : PSs (cxOf CX0 P w K mg base wiN "_law_withs" (defScope sWiths) f cdv A outer s H E).nox (defBody sWiths) _), ?_⟩
  refine ⟨(by show 0 ≤ sizeLine; decide), fun l hl => ?_⟩
  have sl := same_new hl (.lst [])
  have hpos : (0 : Int) < ((ws.map V.str).length : Int) := by rw [List.length_map]; omega
  refine ⟨_, rfl, a, ns, _, rfl, sql_same sl hS, h63, by decide, by decide, fun c1 => ?_⟩
  have r0 := Int.emod_nonneg c1 (show (6 : Int) ≠ 0 by decide)
  have r1 := Int.emod_lt_of_pos c1 (show (0 : Int) < 6 by decide)
  refine ⟨_, _, rfl, rfl, (by show (0 : Int) < 6; decide), _, rfl, by omega, by omega,
    for_range (fun i σ H2 => ∃ (xs : List V) (us : List (Str × Kd)) (v3 v4 v5 v6 v7 v8 : Option V), σ = [some (.ref a), some (.ref wl), some (.ref l), v3, v4, v5, v6, v7, v8] ∧ Same H H2 ∧ H2 l = some (.lst xs) ∧ WithsAt K H2 xs us ∧ us.length = i ∧ WGood us)
    ⟨[], [], none, none, none, none, none, none, rfl, sl, upd_same, .nil, rfl, (fun q hq => nomatch hq)⟩ ?_ ?_⟩
  · rintro i σ H2 hi ⟨xs, us, v3, v4, v5, v6, v7, v8, rfl, s2, hl2, hxs, hul, hW⟩
    have hi6 : i < 6 := by omega
    have hxl : xs.length = us.length := Paired.length hxs
    refine ⟨_, rfl, _, rfl, _, _, rfl, rfl, a, ns, _, rfl, sql_same s2 hS, h63, by omega, by omega, fun c => ?_⟩
    have hwl2 : SqL K H2 wl (ws.map V.str) := SqL.of (s2 _ _ hwl)
    obtain ⟨j, x, hji, hjx, hat⟩ := at_mod (xs := ws.map V.str) (c := c) (i := (ws.map V.str).length) (by omega) (Nat.le_refl _)
    rw [Int.zero_add] at hat
    rw [List.getElem?_map] at hjx
    obtain ⟨z, hz, rfl⟩ := Option.map_eq_some_iff.mp hjx
    have hzo := hok z (List.mem_of_getElem? hz)
    have key : ∀ (z' : Str), okW z' → t4 { nx := fun σ H2 => ∃ (xs : List V) (us : List (Str × Kd)) (v3 v4 v5 v6 v7 v8 : Option V), σ = [some (.ref a), some (.ref wl), some (.ref l), v3, v4, v5, v6, v7, v8] ∧ Same H H2 ∧ H2 l = some (.lst xs) ∧ WithsAt K H2 xs us ∧ us.length = i + 1 ∧ WGood us, rt := Q, bk := tRet (tVar 2) { nx := fun _ H' => Q .non H', rt := Q }, ct := fun σ H2 => ∃ (xs : List V) (us : List (Str × Kd)) (v3 v4 v5 v6 v7 v8 : Option V), σ = [some (.ref a), some (.ref wl), some (.ref l), v3, v4, v5, v6, v7, v8] ∧ Same H H2 ∧ H2 l = some (.lst xs) ∧ WithsAt K H2 xs us ∧ us.length = i + 1 ∧ WGood us } [some (.ref a), some (.ref wl), some (.ref l), some (.int (0 + (i : Int))), some (.int c), some (.str z'), v6, v7, v8] H2 := by
      intro z' hz'
      refine k4 _ H2 _ _ _ v6 v7 v8 l c z' xs us s2 hl hl2 hxs (by omega) hz' fun H' k v w6 w7 w8 s' hl' hx' hko hkw => ?_
      refine ⟨xs ++ [v], us ++ [(z', k)], _, _, _, _, _, _, rfl, s', hl', hx', by rw [List.length_append, hul]; rfl, fun q hq => ?_⟩
      rcases List.mem_append.mp hq with h | h
      · exact hW q h
      · rw [List.mem_singleton.mp h]
        exact ⟨hz', hko, hkw⟩
    obtain ⟨z0, hz0⟩ : ∃ z0, ws[0]? = some z0 := ⟨_, List.getElem?_eq_getElem (by omega)⟩
    have hz0V : atI (ws.map V.str) 0 = some (.str z0) := atI_nat (j := 0) (by rw [List.getElem?_map, hz0]; rfl)
    have hlost : okW "lost" := ⟨by decide +kernel, by decide +kernel⟩
    refine ⟨_, rfl, _, rfl, _, rfl, wl, _, rfl, .inl hwl2, _, _, rfl, rfl, hpos, wl, _, _, _, rfl, rfl, hwl2, hat, ?_⟩
    refine ⟨_, rfl, _, _, rfl, rfl, ⟨by decide, by decide⟩, _, _, rfl, rfl, (by show (0 : Int) < 8; decide), rfl, _, rfl, ite2 (fun _ => ?_) (fun _ => ?_)⟩
    · refine ⟨_, rfl, rfl, _, rfl, ite2 (fun _ => ?_) (fun _ => iteF (key _ hlost))⟩
      refine ⟨_, rfl, _, _, rfl, rfl, ⟨by decide, by decide⟩, _, _, rfl, rfl, (by show (0 : Int) < 8; decide), _, _, rfl, rfl, _, rfl, ite2 (fun _ => ?_) (fun _ => key _ hlost)⟩
      exact ⟨_, rfl, wl, _, _, _, rfl, rfl, hwl2, hz0V, key z0 (hok z0 (List.mem_of_getElem? hz0))⟩
    · refine ⟨_, rfl, rfl, _, rfl, ite2 (fun _ => ?_) (fun _ => iteF (key _ hzo))⟩
      refine ⟨_, rfl, _, _, rfl, rfl, ⟨by decide, by decide⟩, _, _, rfl, rfl, (by show (0 : Int) < 8; decide), _, _, rfl, rfl, _, rfl, ite2 (fun _ => ?_) (fun _ => key _ hzo)⟩
      exact ⟨_, rfl, wl, _, _, _, rfl, rfl, hwl2, hz0V, key z0 (hok z0 (List.mem_of_getElem? hz0))⟩
  · rintro σ H2 ⟨xs, us, v3, v4, v5, v6, v7, v8, rfl, s2, hl2, hxs, hul, hW⟩
    exact ⟨_, rfl, q H2 l xs us s2 hl hl2 hxs (by omega) hW⟩
end
end K25

namespace K25
open PySem L2 Kk
/-! rows, _law_step -/
def RowAt (K : PySem.W.Frag) (H : Hp) (v : V) (q : Str × List Kd) : Prop := ∃ (p lk : Addr) (ys : List V), v = .ref p ∧ H p = some (.tup [.str q.1, .ref lk]) ∧ H lk = some (.lst ys) ∧ KdsAt K H ys q.2
theorem RowAt.same {K : PySem.W.Frag} {H H' : Hp} {v : V} {q : Str × List Kd} (e : Same H H') (h : RowAt K H v q) : RowAt K H' v q := by
  obtain ⟨p, lk, ys, h1, h2, h3, h4⟩ := h
  exact ⟨p, lk, ys, h1, e _ _ h2, e _ _ h3, h4.same e⟩
def RowsAt (K : PySem.W.Frag) (H : Hp) (xs : List V) (rs : List (Str × List Kd)) : Prop := Paired (RowAt K H) xs rs
theorem RowsAt.same {K : PySem.W.Frag} {H H' : Hp} {xs : List V} {rs : List (Str × List Kd)} (e : Same H H') (h : RowsAt K H xs rs) : RowsAt K H' xs rs := Paired.mapP h fun _ _ r => r.same e
theorem RowsAt.snoc {K : PySem.W.Frag} {H : Hp} {xs : List V} {rs : List (Str × List Kd)} {v : V} {q : Str × List Kd} (h : RowsAt K H xs rs) (hv : RowAt K H v q) : RowsAt K H (xs ++ [v]) (rs ++ [q]) := Paired.snoc h hv
/-- a write to one thing that no row has: rows keep -/
theorem RowsAt.other {K : PySem.W.Frag} {H : Hp} {l : Addr} {o : HO} {ls : List V} {xs : List V} {rs : List (Str × List Kd)} (hl : H l = some (.lst ls)) (hn : ∀ p lk z, H p = some (.tup [.str z, .ref lk]) → V.ref p ∈ xs → lk ≠ l) (h : RowsAt K H xs rs) : RowsAt K (upd H l o) xs rs := by
  unfold RowsAt at h ⊢
  induction h with
  | nil => exact .nil
  | cons a b ih =>
    refine .cons ?_ (ih fun p lk z h1 h2 => hn p lk z h1 (List.mem_cons_of_mem _ h2))
    obtain ⟨p, lk, ys, h1, h2, h3, h4⟩ := a
    refine ⟨p, lk, ys, h1, ?_, ?_, kds_keep (fun _ _ t => sqt_upd hl t) h4⟩
    · rw [upd_ne (fun e => by rw [e, hl] at h2; cases h2)]
      exact h2
    · rw [upd_ne (hn p lk _ h2 (by rw [h1]; exact List.mem_cons_self))]
      exact h3
def stepRow (t : Str) (g : Kd) (q : Str × List Kd) : Str × List Kd := (q.1, q.2.map (Kd.put (stepP t g)))
def RowsOk (rs : List (Str × List Kd)) : Prop := ∀ q ∈ rs, okW q.1 ∧ q.2.length ≤ 101 ∧ ∀ k ∈ q.2, GoodK k
def spStep (K : PySem.W.Frag) : Sp := fun vs H Q _ => ∃ (r : Addr) (t : Str) (y : V) (g : Kd) (xs : List V) (rs : List (Str × List Kd)), vs = [.ref r, .str t, y] ∧ H r = some (.lst xs) ∧ RowsAt K H xs rs ∧ rs.length ≤ 100 ∧ RowsOk rs ∧ okW t ∧ KdAt K H y g ∧
  ∀ H' (l : Addr) (xs' : List V), Same H H' → H l = none → H' l = some (.lst xs') → RowsAt K H' xs' (rs.map (stepRow t g)) → Q (.ref l) H'
abbrev seN : List Str := ["_law_rows", "_law_t", "_law_given", "_law_found", "_law_word_here", "_law_told"]
section
variable {P : Program} {w : World} {K : PySem.W.Frag} {mg : Str → Option Value} {base : Heap}
theorem scStep : FnScope seN ["_law_rows", "_law_t", "_law_given"] (defScope sStep) := ⟨rfl, rfl, rfl, by decide +kernel, rfl, by decide +kernel, by decide +kernel⟩
set_option maxHeartbeats 0 in
theorem ok_step {f fp : Addr} {fd fdp : FuncData} (F : Fun K "_law_step" "_law_step" sStep f fd) (GP : FnOk P w K mg base CX0 40 fp fdp plN (spPutL K 40)) (bP : Binds K fdp plN []) (kP : PySem.W.keepIn K (.ref fp) = true) (mP : mg "_law_put" = some (.ref fp)) :
    FnOk P w K mg base CX0 41 f fd ["_law_rows", "_law_t", "_law_given"] (spStep K) := by
  refine F.ok scStep (fun vs H Q E h => ?_) (fun cdv A outer s H vs Q E hr h => ?_)
  · obtain ⟨r, t, y, g, xs, rs, rfl, _⟩ := h
    rfl
  obtain ⟨r, t, y, g, xs, rs, rfl, hr0, hxs, h100, hro, ht, hg, q⟩ := h
  refine ⟨_, pss_cons (ps_set (i := 3) scStep.nd rfl (Or.inl rfl) (pe_lst pa_nil))
    (pss_cons (ps_for PassesOwn.never rfl (pi_list (pv 0)) (pg_tup rfl (pgs_cons (pg_name (i := 4) scStep.nd rfl (Or.inl rfl)) (pgs_cons (pg_name (i := 5) scStep.nd rfl (Or.inl rfl)) pgs_nil)))
      (pss_one (ps_expr (pe_bm PySem.F.plainAttrs_list PySem.F.slot_list_append PySem.F.type_list_append mt_append (pv 3) (pa_cons (pe_tup (pa_cons (pv 4) (pa_cons
        (pe_comp (own := ["_law_kind"]) (caps := ["_law_t", "_law_given"]) (κ := [1, 2]) rfl ⟨rfl, by decide +kernel, by decide +kernel, rfl, rfl, (fun y hy => by simp only [List.mem_cons, List.not_mem_nil, or_false] at hy; rcases hy with rfl | rfl <;> rfl), (fun y hy => by simp only [List.mem_cons, List.not_mem_nil, or_false] at hy; rcases hy with rfl | rfl <;> exact ⟨.inl rfl, rfl, .inl rfl⟩)⟩ rfl
          (pi_list (pv 5)) (fun _ _ _ _ => pg_name (i := 0) (show (["_law_kind", "_law_t", "_law_given"] : List Str).Nodup from by decide +kernel) rfl (Or.inl rfl))
          (fun _ _ _ _ => pe_call GP hr (by rfl) mP kP bP .nil pass0 (pa_cons (pv 0) (pa_cons (pv 1) (pa_cons (pv 2) pa_nil))))) pa_nil))) pa_nil)))))
    (pss_one (ps_ret (pv 3)))), ?_⟩
  refine ⟨(by show 0 ≤ sizeLine; decide), fun l hl => ?_⟩
  have sl := same_new hl (.lst [])
  have hlen : xs.length = rs.length := Paired.length hxs
  refine ⟨_, rfl, r, rfl, ⟨_, SqL.of (sl _ _ hr0)⟩, for_list (K := K) (xs := xs) (fun i σ H3 => ∃ (zs : List V) (v4 v5 : Option V), σ = [some (.ref r), some (.str t), some y, some (.ref l), v4, v5] ∧ Same H H3 ∧ H3 l = some (.lst zs) ∧ RowsAt K H3 zs ((rs.take i).map (stepRow t g)) ∧ (∀ p lk z, H3 p = some (.tup [.str z, .ref lk]) → V.ref p ∈ zs → lk ≠ l))
    ⟨[], none, none, rfl, sl, upd_same, .nil, fun p lk z _ h => nomatch h⟩ ?_ ?_ ?_⟩
  · rintro i σ H3 _ ⟨_, _, _, _, s3, _⟩
    exact SqL.of (s3 _ _ hr0)
  · rintro i x σ H3 hx ⟨zs, v4, v5, rfl, s3, hl3, hzs, hno⟩
    obtain ⟨⟨z, ks⟩, hq, p, lk, ys, rfl, hp, hlk, hks⟩ := pair_get hxs hx
    replace hp : H p = some (.tup [.str z, .ref lk]) := hp
    replace hks : KdsAt K H ys ks := hks
    obtain ⟨oz, ol, ok⟩ := hro (z, ks) (List.mem_of_getElem? hq)
    replace ol : ks.length ≤ 101 := ol
    have hyl := hks.length
    have hzl : zs.length = ((rs.take i).map (stepRow t g)).length := Paired.length hzs
    rw [List.length_map, List.length_take] at hzl
    refine ⟨p, _, rfl, SqT.of (s3 _ _ hp), rfl, _, _, rfl, _, _, rfl, rfl, ?_⟩
    refine ⟨_, rfl, .inl ⟨rfl, _, SqL.of hl3⟩, _, rfl, _, rfl, lk, rfl, ⟨_, SqL.of (s3 _ _ hlk)⟩, ?_⟩
    have lkL : ∀ {H4 : Hp}, Same H3 H4 → SqL K H4 lk ys := fun e => SqL.of (e _ _ (s3 _ _ hlk))
    refine comp_by (xs := ys) (fun j us H4 => Same H3 H4 ∧ KdsAt K H4 us ((ks.take j).map (Kd.put (stepP t g))) ∧ us.length = j) ⟨Same.refl _, .nil, rfl⟩ (small (by omega)) ?_ ?_ ?_ ?_ ?_ ?_
    · rintro j us H4 ⟨_, _, h⟩
      exact Nat.le_of_eq h
    · rintro j u us H4 hu ⟨s4, _⟩
      exact ⟨_, _, lkL s4, hu⟩
    · rintro j us u H4 H' hn ⟨s4, _⟩ hy
      exact ⟨hy.1, hy.2 _ (lkL s4)⟩
    · rintro us H4 ⟨s4, _⟩
      exact ⟨_, lkL s4, Nat.le_refl _⟩
    · rintro j u us H4 N hN hu ⟨s4, hus, hul⟩
      obtain ⟨k1, hk1, hku⟩ := kds_get hks hu
      obtain ⟨gk1, gk2⟩ := ok k1 (List.mem_of_getElem? hk1)
      have hdw := depth_words k1
      have sA := s3.trans s4
      refine ⟨rfl, tYes_go ⟨_, rfl, _, rfl, _, rfl, u, y, k1, g, t, rfl, hku.same sA, by omega, by omega, gk1, ht, hg.same sA, fun H5 v s5 hv => hN _ _ ⟨s4.trans s5, ?_, ?_⟩⟩⟩
      · have e : (ks.take (j + 1)).map (Kd.put (stepP t g)) = (ks.take j).map (Kd.put (stepP t g)) ++ [Kd.put (stepP t g) k1] := by
          rw [List.take_add_one, hk1]
          simp
        rw [e]
        exact (hus.same s5).append (one hv)
      · rw [List.length_append, hul]
        rfl
    · rintro us H4 D ⟨s4, hus, hul⟩ hD
      have eA : ks.take ys.length = ks := by rw [hyl]; exact List.take_length
      rw [eA] at hus
      have sD := same_new hD (.lst us)
      refine ⟨(by show 2 ≤ sizeLine; decide), fun p' hp' => ?_⟩
      have sP := same_new hp' (.tup [.str z, .ref D])
      have sX := s4.trans (sD.trans sP)
      have hlX := sX _ _ hl3
      have hDl : D ≠ l := fun e => by
        have z := s4 _ _ hl3
        rw [e, z] at hD
        cases hD
      have hpl' : p' ≠ l := fun e => by
        have z := sD _ _ (s4 _ _ hl3)
        rw [e, z] at hp'
        cases hp'
      refine ⟨l, _, _, rfl, rfl, hlX, Nat.lt_of_lt_of_le (Nat.lt_succ_self _) (small (by omega)), ?_⟩
      have hrowN : RowAt K (upd (upd H4 D (.lst us)) p' (.tup [.str z, .ref D])) (.ref p') (stepRow t g (z, ks)) := ⟨p', D, us, rfl, upd_same, sP _ _ upd_same, (hus.same sD).same sP⟩
      have hno' : ∀ b lk' zz, upd (upd H4 D (.lst us)) p' (.tup [.str z, .ref D]) b = some (.tup [.str zz, .ref lk']) → V.ref b ∈ zs ++ [.ref p'] → lk' ≠ l := by
        intro b lk' zz hb hm
        rcases List.mem_append.mp hm with h | h
        · obtain ⟨j, hj, e⟩ := List.getElem_of_mem h
          obtain ⟨qq, hqq, pp, lk2, ys2, e2, h2, _⟩ := pair_get hzs (List.getElem?_eq_getElem hj)
          rw [e] at e2
          obtain rfl : b = pp := by injection e2
          rw [sX _ _ h2] at hb
          injection hb with hb
          injection hb with hb
          injection hb with h5 h6
          injection h6 with h6
          injection h6 with h6
          exact h6 ▸ hno b lk2 _ h2 h
        · have e : b = p' := by
            have := List.mem_singleton.mp h
            injection this
          rw [e, upd_same] at hb
          injection hb with hb
          injection hb with hb
          injection hb with h5 h6
          injection h6 with h6
          injection h6 with h6
          exact h6 ▸ hDl
      refine ⟨zs ++ [.ref p'], _, _, rfl, sput (s3.trans sX) hl, upd_same, ?_, ?_⟩
      · have e : (rs.take (i + 1)).map (stepRow t g) = (rs.take i).map (stepRow t g) ++ [stepRow t g (z, ks)] := by
          rw [List.take_add_one, hq]
          simp
        rw [e]
        exact RowsAt.other hlX hno' ((hzs.same sX).snoc hrowN)
      · intro b lk' zz hb hm
        by_cases e : b = l
        · rw [e, upd_same] at hb
          cases hb
        · rw [upd_ne e] at hb
          exact hno' b lk' zz hb hm
  · rintro σ H3 ⟨zs, v4, v5, rfl, s3, hl3, hzs, hno⟩
    rw [hlen, List.take_length] at hzs
    exact ⟨_, rfl, q H3 l zs s3 hl hl3 hzs⟩
end
end K25

namespace K25
open PySem L2 Kk
/-! the rows of a face, as the law makes them -/
def rowK (q : Str × Kd) : Str × List Kd := (q.1, [q.2])
def rowF (q : Str × (List Kd × Kd)) : Str × List Kd := (q.1, q.2.1 ++ [q.2.2])
abbrev gTwo (K : PySem.W.Frag) : TG := gTup K 2 (gCons (gName 0) (gCons (gName 1) gNil))
abbrev teK : TE := tTup (tCons (tVar 0) (tCons (tLst (tCons (tVar 1) tNil)) tNil))
abbrev rListK (K : PySem.W.Frag) : List V → Hp → VK → Prop := fun xs H Q => ∃ p ys, xs = [.ref p] ∧ (SqL K H p ys ∨ SqT K H p ys) ∧ ∀ l, H l = none → Q (.ref l) (upd H l (.lst ys))
abbrev teF (K : PySem.W.Frag) : TE := tTup (tCons (tVar 0) (tCons (tOp rCat (tCB (rListK K) (tCons (tOp (rIxT K) (tVar 1) (tC (.int 0))) tNil)) (tLst (tCons (tOp (rIxT K) (tVar 1) (tC (.int 1))) tNil))) tNil))
section
variable {K : PySem.W.Frag}
/-- what stays while a dict is frozen: all but it -/
theorem thaw_same {B H3 : Hp} {d : Addr} {kvs : List (Key × V)} (hd : B d = some (.dK kvs)) (old : ∀ b u, B b = some u → b ≠ d → H3 b = some u) : Same B (upd H3 d (.dK kvs)) := fun b u hb => by
  by_cases e : b = d
  · rw [e] at hb ⊢
    rw [hd] at hb
    cases hb
    exact upd_same
  · rw [upd_ne e]
    exact old b u hb e
theorem rows_thaw {H : Hp} {d : Addr} {ob : Obj} {kvs : List (Key × V)} {xs : List V} {rs : List (Str × List Kd)} (hd : H d = some (.frz ob (.dK kvs))) (h : RowsAt K H xs rs) : RowsAt K (upd H d (.dK kvs)) xs rs :=
  Paired.mapP h fun v q ⟨p, lk, ys, h1, h2, h3, h4⟩ => ⟨p, lk, ys, h1, by rw [upd_ne (fun e => by rw [e, hd] at h2; cases h2)]; exact h2, by rw [upd_ne (fun e => by rw [e, hd] at h3; cases h3)]; exact h3, kds_keep (fun a xs t => sqt_fz hd t) h4⟩
theorem rows_run {H₀ B : Hp} {d : Addr} {o : Obj} {kvs : List (Key × V)} {m1 : List (Str × Kd)} {σ : St} {Q' : V → Hp → Prop} (hd : B d = some (.dK kvs)) (hk : PkAt (KdAt K B) kvs m1) (h100 : m1.length ≤ 100) (h0 : ∀ o' u', H₀ d ≠ some (.frz o' u'))
    (q : ∀ (H' : Hp) (D : Addr) (xs : List V), Same B H' → B D = none → H' D = some (.lst xs) → RowsAt K H' xs (m1.map rowK) → Q' (.ref D) H') :
    CompRun 2 [] (gTwo K) tYes teK σ (Itd d o kvs) (upd B d (.frz o (.dK kvs))) (fun v H' => ∃ d o u, H' d = some (.frz o u) ∧ (∀ o' u', H₀ d ≠ some (.frz o' u')) ∧ Q' v (upd H' d u)) := by
  have hlen : kvs.length = m1.length := Paired.length hk
  refine comp_items (fun i ys H3 => (∀ b u, B b = some u → b ≠ d → H3 b = some u) ∧ H3 d = some (.frz o (.dK kvs)) ∧ RowsAt K H3 ys ((m1.take i).map rowK) ∧ ys.length ≤ i ∧ (∀ a xs, SqT K B a xs → SqT K H3 a xs)) ?_ (small (by omega)) ?_ ?_ ?_ ?_
  · exact ⟨fun b u hb nb => by rw [upd_ne nb]; exact hb, upd_same, .nil, Nat.le_refl _, fun a xs h => sqt_dk hd h⟩
  · rintro i ys H3 ⟨_, _, _, h, _⟩
    exact h
  · rintro i ys H3 ⟨_, h, _⟩
    exact h
  · rintro i p a ys H3 N hN hp ha ⟨old, hd3, hys, hyl, keep⟩
    obtain ⟨⟨z, k⟩, hq, ez, hkz⟩ := pair_get hk hp
    obtain ⟨pk, pw⟩ := p
    replace ez : pk = .inr z := ez
    replace hkz : KdAt K B pw k := hkz
    subst ez
    have ea := same_new ha (.tup [kV (.inr z), pw])
    refine ⟨a, _, rfl, SqT.of upd_same, rfl, _, _, rfl, _, _, rfl, rfl, rfl, tYes_go ?_⟩
    refine ⟨_, rfl, _, rfl, (by show 1 ≤ sizeLine; decide), fun b hb => ?_⟩
    have eb := same_new hb (.lst [pw])
    refine ⟨(by show 2 ≤ sizeLine; decide), fun c hc => hN _ _ ?_⟩
    have ec := same_new hc (.tup [.str z, .ref b])
    have sX := ea.trans (eb.trans ec)
    refine ⟨fun b' u hb' nb => sX _ _ (old b' u hb' nb), sX _ _ hd3, ?_, ?_, fun a' xs t => sX.tup (keep a' xs t)⟩
    · have e : (m1.take (i + 1)).map rowK = (m1.take i).map rowK ++ [rowK (z, k)] := by
        rw [List.take_add_one, hq]
        simp
      rw [e]
      exact (hys.same sX).snoc ⟨c, b, [pw], rfl, upd_same, ec _ _ upd_same, one ((kd_keep keep hkz).same sX)⟩
    · rw [List.length_append]
      show _ + 1 ≤ _
      omega
  · rintro ys H3 D ⟨old, hd3, hys, hyl, keep⟩ hD
    have nD : d ≠ D := ne_of_none hd3 hD
    have sD := same_new hD (.lst ys)
    rw [hlen, List.take_length] at hys
    refine ⟨d, o, .dK kvs, sD _ _ hd3, h0, q _ D ys (thaw_same hd fun b u hb nb => sD _ _ (old b u hb nb)) ?_ ?_ (rows_thaw (sD _ _ hd3) (hys.same sD))⟩
    · cases e : B D with
      | none => rfl
      | some u => rw [old D u e (Ne.symm nD)] at hD; cases hD
    · rw [upd_ne (Ne.symm nD)]
      exact upd_same
theorem calls_run {H₀ B : Hp} {d : Addr} {o : Obj} {kvs : List (Key × V)} {m2 : List (Str × (List Kd × Kd))} {σ : St} {Q' : V → Hp → Prop} (hd : B d = some (.dK kvs)) (hk : PkAt (FunAt K B) kvs m2) (h100 : m2.length ≤ 100) (hl4 : ∀ q ∈ m2, q.2.1.length ≤ 100) (h0 : ∀ o' u', H₀ d ≠ some (.frz o' u'))
    (q : ∀ (H' : Hp) (D : Addr) (xs : List V), Same B H' → B D = none → H' D = some (.lst xs) → RowsAt K H' xs (m2.map rowF) → Q' (.ref D) H') :
    CompRun 2 [] (gTwo K) tYes (teF K) σ (Itd d o kvs) (upd B d (.frz o (.dK kvs))) (fun v H' => ∃ d o u, H' d = some (.frz o u) ∧ (∀ o' u', H₀ d ≠ some (.frz o' u')) ∧ Q' v (upd H' d u)) := by
  have hlen : kvs.length = m2.length := Paired.length hk
  refine comp_items (fun i ys H3 => (∀ b u, B b = some u → b ≠ d → H3 b = some u) ∧ H3 d = some (.frz o (.dK kvs)) ∧ RowsAt K H3 ys ((m2.take i).map rowF) ∧ ys.length ≤ i ∧ (∀ a xs, SqT K B a xs → SqT K H3 a xs)) ?_ (small (by omega)) ?_ ?_ ?_ ?_
  · exact ⟨fun b u hb nb => by rw [upd_ne nb]; exact hb, upd_same, .nil, Nat.le_refl _, fun a xs h => sqt_dk hd h⟩
  · rintro i ys H3 ⟨_, _, _, h, _⟩
    exact h
  · rintro i ys H3 ⟨_, h, _⟩
    exact h
  · rintro i p a ys H3 N hN hp ha ⟨old, hd3, hys, hyl, keep⟩
    obtain ⟨⟨z, g⟩, hq, ez, hkz⟩ := pair_get hk hp
    obtain ⟨pk, pw⟩ := p
    replace ez : pk = .inr z := ez
    replace hkz : FunAt K B pw g := hkz
    subst ez
    obtain ⟨tp, ta, tx, txs, rfl, f1, f2, f3, f4⟩ := hkz
    have hl := hl4 (z, g) (List.mem_of_getElem? hq)
    replace hl : g.1.length ≤ 100 := hl
    have hl3 := f3.length
    have ea := same_new ha (.tup [kV (.inr z), .ref tp])
    refine ⟨a, _, rfl, SqT.of upd_same, rfl, _, _, rfl, _, _, rfl, rfl, rfl, tYes_go ?_⟩
    have kA : ∀ b xs, SqT K B b xs → SqT K (upd H3 a (.tup [kV (.inr z), .ref tp])) b xs := fun b xs t => ea.tup (keep b xs t)
    refine ⟨_, rfl, _, rfl, tp, _, _, _, rfl, rfl, kA _ _ f1, (show atI [V.ref ta, tx] 0 = some (.ref ta) from rfl), ta, txs, rfl, .inr (kA _ _ f2), fun l1 hl1 => ?_⟩
    have e1 := same_new hl1 (.lst txs)
    refine ⟨_, rfl, tp, _, _, _, rfl, rfl, e1.tup (kA _ _ f1), (show atI [V.ref ta, tx] 1 = some tx from rfl), (by show 1 ≤ sizeLine; decide), fun l2 hl2 => ?_⟩
    have e2 := same_new hl2 (.lst [tx])
    refine ⟨l1, l2, txs, [tx], rfl, rfl, e2 _ _ upd_same, upd_same, small (by show txs.length + 1 ≤ 1000; omega), fun l3 hl3' => ?_⟩
    have e3 := same_new hl3' (.lst (txs ++ [tx]))
    refine ⟨(by show 2 ≤ sizeLine; decide), fun c hc => hN _ _ ?_⟩
    have ec := same_new hc (.tup [.str z, .ref l3])
    have sY := e1.trans (e2.trans (e3.trans ec))
    have sX := ea.trans sY
    refine ⟨fun b' u hb' nb => sX _ _ (old b' u hb' nb), sX _ _ hd3, ?_, ?_, fun a' xs t => sX.tup (keep a' xs t)⟩
    · have e : (m2.take (i + 1)).map rowF = (m2.take i).map rowF ++ [rowF (z, g)] := by
        rw [List.take_add_one, hq]
        simp
      rw [e]
      refine (hys.same sX).snoc ⟨c, l3, txs ++ [tx], rfl, upd_same, ec _ _ upd_same, ?_⟩
      exact (kds_keep (fun b xs t => sY.tup (kA b xs t)) f3).append (one (kd_keep (fun b xs t => sY.tup (kA b xs t)) f4))
    · rw [List.length_append]
      show _ + 1 ≤ _
      omega
  · rintro ys H3 D ⟨old, hd3, hys, hyl, keep⟩ hD
    have nD : d ≠ D := ne_of_none hd3 hD
    have sD := same_new hD (.lst ys)
    rw [hlen, List.take_length] at hys
    refine ⟨d, o, .dK kvs, sD _ _ hd3, h0, q _ D ys (thaw_same hd fun b u hb nb => sD _ _ (old b u hb nb)) ?_ ?_ (rows_thaw (sD _ _ hd3) (hys.same sD))⟩
    · cases e : B D with
      | none => rfl
      | some u => rw [old D u e (Ne.symm nD)] at hD; cases hD
    · rw [upd_ne (Ne.symm nD)]
      exact upd_same
end
end K25

namespace K25
open PySem L2 Kk
/-! _law_said -/
def spSaid (K : PySem.W.Frag) (CF : Addr) : Sp := fun vs H Q _ => ∃ (fa tw : Addr) (m1 : List (Str × Kd)) (m2 : List (Str × (List Kd × Kd))) (xs : List V) (ws : List (Str × Kd)), vs = [.ref fa, .ref tw] ∧ FaceF K H CF fa m1 m2 ∧ Good m1 m2 ∧ SqT K H tw xs ∧ WithsAt K H xs ws ∧ WGood ws ∧
  (∀ m1' m2', rrun m1 m2 ws = .ok m1' m2' → ∀ H' (p l1 l2 : Addr) (xs1 xs2 : List V), Same H H' → H' p = some (.tup [.ref l1, .ref l2]) → H' l1 = some (.lst xs1) → H' l2 = some (.lst xs2) → RowsAt K H' xs1 (m1'.map rowK) → RowsAt K H' xs2 (m2'.map rowF) → Q (.ref p) H') ∧
  (rrun m1 m2 ws = .no → ∀ H', Same H H' → Q (.str "no") H') ∧ (rrun m1 m2 ws = .big → ∀ H', Same H H' → Q (.str "big") H')
theorem rrun_good {m1 : List (Str × Kd)} {m2 : List (Str × (List Kd × Kd))} : ∀ {ws : List (Str × Kd)}, Good m1 m2 → WGood ws → ∀ {m1' : List (Str × Kd)} {m2' : List (Str × (List Kd × Kd))}, rrun m1 m2 ws = .ok m1' m2' → Good m1' m2' := by
  intro ws
  induction ws generalizing m1 m2 with
  | nil =>
    intro h _ m1' m2' e
    have e' : RR.ok m1 m2 = .ok m1' m2' := e
    injection e' with e1 e2
    subst e1 e2
    exact h
  | cons q ws ih =>
    intro h hw m1' m2' e
    obtain ⟨t, g⟩ := q
    have e' : ws.foldl rstep (rstep (.ok m1 m2) (t, g)) = .ok m1' m2' := e
    have hw' : WGood ws := fun q hq => hw q (List.mem_cons_of_mem _ hq)
    by_cases c : t ∈ hidL m1
    · by_cases c2 : fitB (m1.map (putP (stepP t g))) (m2.map (putQ (stepP t g))) = true
      · have er : rstep (.ok m1 m2) (t, g) = .ok (m1.map (putP (stepP t g))) (m2.map (putQ (stepP t g))) := (if_pos c).trans (if_pos c2)
        rw [er] at e'
        exact ih (h.step (hw (t, g) List.mem_cons_self).2.1 (fitB_iff.mp c2)) hw' e'
      · have er : rstep (.ok m1 m2) (t, g) = .big := (if_pos c).trans (if_neg c2)
        rw [er, fold_big] at e'
        cases e'
    · have er : rstep (.ok m1 m2) (t, g) = .no := if_neg c
      rw [er, fold_no] at e'
      cases e'
def tryHs : List Stmt → List ExceptHandler
  | .Try _ hs _ _ _ :: _ => hs
  | _ => []
abbrev saN : List Str := ["_law_face", "_law_withs_here", "_law_found", "e", "_law_rows"]
section
variable {P : Program} {w : World} {K : PySem.W.Frag} {mg : Str → Option Value} {base : Heap}
theorem scSaid : FnScope saN ["_law_face", "_law_withs_here"] (defScope sSaid) := ⟨rfl, rfl, rfl, by decide +kernel, rfl, by decide +kernel, by decide +kernel⟩
theorem isiK {X : Cx} {D : Addr} (c : ExcCls K D) (h : X.K = K) : CallR X (.builtin "isinstance") (fun xs H Q => ∃ e y u b, xs = [.ref e, y] ∧ RelV y u ∧ (∀ u', RelV y u' → u' = u) ∧ H e = some (.ext (excAt e (.ref D))) ∧ PySem.W.kitOne K (.ref D) u = some b ∧ Q (.bl b) H) := by
  subst h
  exact call_isiX c
set_option maxHeartbeats 0 in
theorem ok_said {f fr CF CN CT CR : Addr} {fd fdr : FuncData} (F : Fun K "_law_said" "_law_said" sSaid f fd)
    (GR : FnOk P w K mg base (CX1 P w) 45 fr fdr ["face", "withs"] (spRefined K CF CN CT)) (bR : Binds K fdr ["face", "withs"] []) (kR : PySem.W.keepIn K (.ref fr) = true) (mRf : mg "refined" = some (.ref fr))
    (mC : mg "NoKind" = some (.ref CN)) (mT : mg "TooBig" = some (.ref CT)) (mR : mg "Refused" = some (.ref CR)) (mF : mg "Face" = some (.ref CF)) (mi : mg "isinstance" = none) (mI : mg "int" = none) (mL : mg "list" = none)
    (cN : ExcCls K CN) (cT : ExcCls K CT) (cF : Cls K CF) (nK : NoAttr K CF "kinds") (nF : NoAttr K CF "funs")
    (x1 : PySem.W.exmOne K (.ref CN) (.ref CN) = some true) (x2 : PySem.W.exmOne K (.ref CT) (.ref CN) = some false) (x3 : PySem.W.exmOne K (.ref CT) (.ref CT) = some true)
    (k1 : PySem.W.kitOne K (.ref CN) (.ref CR) = some true) (k3 : PySem.W.kitOne K (.ref CT) (.ref CR) = some true) (k5 : PySem.W.kitOne K (.ref CF) (.ref CF) = some true)
    (c1 : PySem.W.findIn K (.ref CF) "__class__" = some (some (.builtin "object.__class__"))) (c2 : PySem.W.specialIn K (.builtin "object.__class__") "__get__" = some (some (.builtin "getset_descriptor.__get__"))) (c3 : PySem.W.takesIn K (.builtin "object.__class__") = some true) (c4 : PySem.W.mroIn K CF (.type "object") = some true) :
    FnOk P w K mg base CX0 46 f fd ["_law_face", "_law_withs_here"] (spSaid K CF) := by
  refine F.ok scSaid (fun vs H Q E h => ?_) (fun cdv A outer s H vs Q E hr h => ?_)
  · obtain ⟨fa, tw, m1, m2, xs, ws, rfl, _⟩ := h
    rfl
  obtain ⟨fa, tw, m1, m2, xs, ws, rfl, hF, hG, htw, hxs, hW, q1, q2, q3⟩ := h
  obtain ⟨th, hh, hN, hT⟩ : ∃ th, PH (cxOf CX0 P w K mg base saN "_law_said" (defScope sSaid) f cdv A outer s H E).nox (tryHs (defBody sSaid)) th ∧
      (∀ D e H', H' e = none → (∀ H2, Same H' H2 → D.rt (.str "no") H2) → th D (.ref CN) e [some (.ref fa), some (.ref tw), none, none, none] H') ∧
      (∀ D e H', H' e = none → (∀ H2, Same H' H2 → D.rt (.str "big") H2) → th D (.ref CT) e [some (.ref fa), some (.ref tw), none, none, none] H') := by
    refine ⟨_, ph_as (i := 3) rfl scSaid.nd rfl rfl rfl mC
      (fun e => pss_one (ps_ret (pe_ix (ixLK (K := K) rfl) (pe_lst (pa_cons pe_str (pa_cons pe_str pa_nil))) (pe_callTy call_int1 rfl mI bootInt (pa_cons (pe_callB (isiK cN rfl) rfl mi bootIsi (pa_cons (pv 3) (pa_cons (pe_glob rfl mR (v := .ref CR) rfl) pa_nil))) pa_nil)) (fun _ _ => rfl))))
      (ph_as (i := 3) rfl scSaid.nd rfl rfl rfl mT
        (fun e => pss_one (ps_ret (pe_ix (ixLK (K := K) rfl) (pe_lst (pa_cons pe_str (pa_cons pe_str pa_nil))) (pe_callTy call_int1 rfl mI bootInt (pa_cons (pe_callB (isiK cT rfl) rfl mi bootIsi (pa_cons (pv 3) (pa_cons (pe_glob rfl mR (v := .ref CR) rfl) pa_nil))) pa_nil)) (fun _ _ => rfl)))) ph_nil), ?_, ?_⟩
    · intro D e H' he q
      refine ⟨true, x1, iteT ?_⟩
      have se := same_new he (.ext (excAt e (.ref CN)))
      refine ⟨(by show 2 ≤ sizeLine; decide), fun l hl => ?_⟩
      have sl := same_new hl (.lst [.str "wrong", .str "no"])
      refine ⟨_, rfl, e, _, _, true, rfl, rfl, (fun _ z => z), sl _ _ upd_same, k1, .inr ⟨true, rfl, ?_⟩⟩
      exact ⟨l, _, _, _, rfl, rfl, SqL.of upd_same, (show atI [V.str "wrong", .str "no"] 1 = some (.str "no") from rfl), q _ (se.trans sl)⟩
    · intro D e H' he q
      refine ⟨false, x2, iteF ⟨true, x3, iteT ?_⟩⟩
      have se := same_new he (.ext (excAt e (.ref CT)))
      refine ⟨(by show 2 ≤ sizeLine; decide), fun l hl => ?_⟩
      have sl := same_new hl (.lst [.str "wrong", .str "big"])
      refine ⟨_, rfl, e, _, _, true, rfl, rfl, (fun _ z => z), sl _ _ upd_same, k3, .inr ⟨true, rfl, ?_⟩⟩
      exact ⟨l, _, _, _, rfl, rfl, SqL.of upd_same, (show atI [V.str "wrong", .str "big"] 1 = some (.str "big") from rfl), q _ (se.trans sl)⟩
  refine ⟨_, pss_cons (ps_try fun pins D => pss_one (ps_set (i := 2) scSaid.nd rfl (Or.inl rfl) (pe_callE GR hr (by rfl) mRf kR bR .nil (passT rfl rfl hh) (pa_cons (pv 0) (pa_cons (pv 1) pa_nil)))))
    (pss_cons (ps_if (pt_not (pt_val (pe_callB call_isiT rfl mi bootIsi (pa_cons (pv 2) (pa_cons (pe_glob rfl mF (v := .ref CF) rfl) pa_nil))))) (pss_one (ps_ret pe_str)) pss_nil)
    (pss_cons (ps_thaw (ps_comp (i0 := 4) (own := ["_law_t", "_law_kind"]) (caps := []) (κ := []) scSaid.nd rfl (Or.inl rfl) rfl ⟨rfl, by decide +kernel, by decide +kernel, rfl, rfl, (fun y hy => nomatch hy), (fun y hy => nomatch hy)⟩ rfl
      (pi_items (pe_fld (pv 2) rfl)) (fun _ _ _ _ => pg_two (K := K) (i := 0) (j := 1) rfl rfl (show (["_law_t", "_law_kind"] : List Str).Nodup from by decide +kernel) rfl (Or.inl rfl) (Or.inr rfl) rfl (Or.inl rfl) (Or.inr rfl))
      (fun _ _ _ _ => pe_tup (pa_cons (pv 0) (pa_cons (pe_lst (pa_cons (pv 1) pa_nil)) pa_nil)))))
    (pss_one (ps_ret (pe_tup (pa_cons (pv 4) (pa_cons (pe_thaw (pe_comp (own := ["_law_f", "_law_told"]) (caps := []) (κ := []) rfl ⟨rfl, by decide +kernel, by decide +kernel, rfl, rfl, (fun y hy => nomatch hy), (fun y hy => nomatch hy)⟩ rfl
      (pi_items (pe_fld (pv 2) rfl)) (fun _ _ _ _ => pg_two (K := K) (i := 0) (j := 1) rfl rfl (show (["_law_f", "_law_told"] : List Str).Nodup from by decide +kernel) rfl (Or.inl rfl) (Or.inr rfl) rfl (Or.inl rfl) (Or.inr rfl))
      (fun _ _ _ _ => pe_tup (pa_cons (pv 0) (pa_cons (pe_op op_cat (pe_callTy (listK (K := K) rfl) rfl mL bootList (pa_cons (pe_ix (ixTK (K := K) rfl) (pv 1) pe_int (fun _ _ => rfl)) pa_nil)) (pe_lst (pa_cons (pe_ix (ixTK (K := K) rfl) (pv 1) pe_int (fun _ _ => rfl)) pa_nil))) pa_nil))))) pa_nil))))))), ?_⟩
  refine ⟨_, rfl, _, rfl, fa, tw, m1, m2, xs, ws, rfl, hF, hG, htw, hxs, hW, fun n1 n2 hrun H1 x s1 nx hN1 => ?_, fun hrun H1 s1 e he => ?_, fun hrun H1 s1 e he => ?_⟩
  · obtain ⟨dx, d1, d2, fs, kv1, kv2, z1, z2, z3, hfx, l1, l2, hd1, hd2, hk1, hk2, _, _⟩ := hN1
    have hGn := rrun_good hG hW hrun
    refine ⟨_, rfl, _, _, _, .ref CF, true, rfl, (fun _ z => z), .ins hfx cF c1 c2 c3 c4, k5, _, rfl, iteF ?_⟩
    refine ⟨_, rfl, x, CF, dx, fs, _, rfl, hfx, cF, nK, l1, d1, kv1, rfl, hd1, fun o => ?_⟩
    refine rows_run (K := K) (H₀ := H) (m1 := n1) hd1 hk1 hGn.l1 (nofz z1) fun H2 D1 xs1 s2 nD1 hD1 hrows => ?_
    refine ⟨_, rfl, _, rfl, x, CF, dx, fs, _, rfl, s2 _ _ hfx, cF, nF, l2, d2, kv2, rfl, s2 _ _ hd2, fun o2 => ?_⟩
    refine calls_run (K := K) (H₀ := H) (m2 := n2) (s2 _ _ hd2) (hk2.imp fun v y h => h.keep fun a xs t => s2.tup t) hGn.l2 (fun q hq => (hGn.k2 q hq).2.2.2) (nofz z2) fun H3 D2 xs2 s3 nD2 hD2 hcalls => ?_
    refine ⟨(by show 2 ≤ sizeLine; decide), fun p hp => ?_⟩
    have sp := same_new hp (.tup [.ref D1, .ref D2])
    have s13 := s3.trans sp
    exact q1 n1 n2 hrun _ p D1 D2 xs1 xs2 (s1.trans (s2.trans s13)) upd_same (s13 _ _ hD1) (sp _ _ hD2) (hrows.same s13) (hcalls.same sp)
  · exact hN _ e H1 he fun H2 s2 => q2 hrun H2 (s1.trans s2)
  · exact hT _ e H1 he fun H2 s2 => q3 hrun H2 (s1.trans s2)
end
end K25

namespace K25
open PySem L2 Kk
/-! rows as data -/
def RowD (q : Str × List Kd) : PyData := .tuple [.str q.1, .list (q.2.map Kd.dat)]
theorem kds_dats {K : PySem.W.Frag} {H : Hp} : ∀ {xs : List V} {ks : List Kd}, KdsAt K H xs ks → Dats K H xs (ks.map Kd.dat)
  | _, _, .nil => .nil
  | _, _, .cons a b => .cons (kd_dat a) (kds_dats b)
theorem row_dat {K : PySem.W.Frag} {H : Hp} {v : V} {q : Str × List Kd} (h : RowAt K H v q) : Dat K H v (RowD q) := by
  obtain ⟨p, lk, ys, rfl, h2, h3, h4⟩ := h
  exact .tup (SqT.of h2) (.cons (.str _) (.cons (.lst (SqL.of h3) (kds_dats h4)) .nil))
theorem rows_dats {K : PySem.W.Frag} {H : Hp} {xs : List V} {rs : List (Str × List Kd)} (h : RowsAt K H xs rs) : Dats K H xs (rs.map RowD) := by
  unfold RowsAt at h
  induction h with
  | nil => exact .nil
  | cons a _ ih => exact .cons (row_dat a) ih
theorem eqvA_refl : ∀ {ds : List PyData}, (∀ d ∈ ds, PyData.eqv d d = true) → PyData.eqvAll ds ds = true
  | [], _ => eqvA_nil
  | d :: ds, h => by
    rw [eqvA_cons, h d List.mem_cons_self, eqvA_refl fun d' hd' => h d' (List.mem_cons_of_mem _ hd')]
    rfl
theorem eqv_kd (k : Kd) : PyData.eqv (Kd.dat k) (Kd.dat k) = true := by
  rw [eqv_dat]
  exact decide_eq_true rfl
theorem eqv_row (q : Str × List Kd) : PyData.eqv (RowD q) (RowD q) = true := by
  unfold RowD
  rw [eqv_tup, eqvA_cons, eqvA_cons, eqvA_nil, eqv_str, eqv_lst, decide_eq_true rfl, eqvA_refl fun d hd => by obtain ⟨k, _, rfl⟩ := List.mem_map.mp hd; exact eqv_kd k]
  rfl
theorem layA {ds : List PyData} (h : ∀ d ∈ ds, PyData.canLay0 d = true) : PyData.canLayAll0 ds = true := by
  induction ds with
  | nil => simp [PyData.canLayAll0]
  | cons d ds ih =>
    simp only [PyData.canLayAll0, Bool.and_eq_true]
    exact ⟨h d List.mem_cons_self, ih fun d' hd' => h d' (List.mem_cons_of_mem _ hd')⟩
theorem deepA {ds : List PyData} {n : Nat} (h : ∀ d ∈ ds, PyData.depth d ≤ n) : PyData.depthAll ds ≤ n := by
  induction ds with
  | nil => simp [PyData.depthAll]
  | cons d ds ih =>
    have h1 := h d List.mem_cons_self
    have h2 := ih fun d' hd' => h d' (List.mem_cons_of_mem _ hd')
    simp only [PyData.depthAll]
    omega
theorem lay_row {q : Str × List Kd} (hz : okW q.1) (hk : ∀ k ∈ q.2, GoodK k) : PyData.canLay0 (RowD q) = true := by
  have h1 : PyData.canLayAll0 (q.2.map Kd.dat) = true := layA fun d hd => by obtain ⟨k, hk', rfl⟩ := List.mem_map.mp hd; exact lay_kd (hk k hk').1
  have h0 := hz.1
  simp [RowD, PyData.canLay0, PyData.canLayAll0, h0, h1]
theorem deep_row {q : Str × List Kd} (hk : ∀ k ∈ q.2, GoodK k) : PyData.depth (RowD q) ≤ 43 := by
  have h1 : PyData.depthAll (q.2.map Kd.dat) ≤ 40 := deepA fun d hd => by
    obtain ⟨k, hk', rfl⟩ := List.mem_map.mp hd
    exact Nat.le_trans (deep_kd k) (Nat.le_trans (depth_words k) (hk k hk').2)
  simp only [RowD, PyData.depth, PyData.depthAll]
  omega
/-- (rows, calls) -/
def PairD (a b : List (Str × List Kd)) : PyData := .tuple [.list (a.map RowD), .list (b.map RowD)]
theorem pair_dat {K : PySem.W.Frag} {H : Hp} {p l1 l2 : Addr} {xs1 xs2 : List V} {a b : List (Str × List Kd)} (hp : H p = some (.tup [.ref l1, .ref l2])) (h1 : H l1 = some (.lst xs1)) (h2 : H l2 = some (.lst xs2)) (r1 : RowsAt K H xs1 a) (r2 : RowsAt K H xs2 b) : Dat K H (.ref p) (PairD a b) :=
  .tup (SqT.of hp) (.cons (.lst (SqL.of h1) (rows_dats r1)) (.cons (.lst (SqL.of h2) (rows_dats r2)) .nil))
theorem pair_eqv (a b : List (Str × List Kd)) : PyData.eqv (PairD a b) (PairD a b) = true := by
  unfold PairD
  have r : ∀ a : List (Str × List Kd), PyData.eqvAll (a.map RowD) (a.map RowD) = true := fun a => eqvA_refl fun d hd => by obtain ⟨k, _, rfl⟩ := List.mem_map.mp hd; exact eqv_row k
  rw [eqv_tup, eqvA_cons, eqvA_cons, eqvA_nil, eqv_lst, eqv_lst, r a, r b]
  rfl
theorem pair_shaped {a b : List (Str × List Kd)} (ha : RowsOk a) (hb : RowsOk b) : SeqAt.shaped (PairD a b) = true := by
  have l : ∀ {a : List (Str × List Kd)}, RowsOk a → PyData.canLayAll0 (a.map RowD) = true := fun h => layA fun d hd => by obtain ⟨k, hk, rfl⟩ := List.mem_map.mp hd; exact lay_row (h k hk).1 (h k hk).2.2
  have e : ∀ {a : List (Str × List Kd)}, RowsOk a → PyData.depthAll (a.map RowD) ≤ 43 := fun h => deepA fun d hd => by obtain ⟨k, hk, rfl⟩ := List.mem_map.mp hd; exact deep_row (h k hk).2.2
  have h1 : PyData.canLay0 (PairD a b) = true := by simp [PairD, PyData.canLay0, PyData.canLayAll0, l ha, l hb]
  have h2 : PyData.depth (PairD a b) ≤ 64 := by
    have := e ha
    have := e hb
    simp only [PairD, PyData.depth, PyData.depthAll]
    omega
  unfold SeqAt.shaped
  rw [h1, decide_eq_true h2]
  rfl
theorem Good.rows {m1 : List (Str × Kd)} {m2 : List (Str × (List Kd × Kd))} (h : Good m1 m2) : RowsOk (m1.map rowK) ∧ RowsOk (m2.map rowF) := by
  refine ⟨fun q hq => ?_, fun q hq => ?_⟩
  · obtain ⟨q', hq', rfl⟩ := List.mem_map.mp hq
    refine ⟨(h.k1 q' hq').1, by show 1 ≤ 101; decide, fun k hk => ?_⟩
    rw [List.mem_singleton.mp hk]
    exact (h.k1 q' hq').2
  · obtain ⟨q', hq', rfl⟩ := List.mem_map.mp hq
    obtain ⟨o1, o2, o3, o4⟩ := h.k2 q' hq'
    refine ⟨o1, ?_, fun k hk => ?_⟩
    · show (q'.2.1 ++ [q'.2.2]).length ≤ 101
      rw [List.length_append]
      exact Nat.succ_le_succ o4
    · rcases List.mem_append.mp hk with z | z
      · exact o2 k z
      · rw [List.mem_singleton.mp z]
        exact o3
theorem step_rows (t : Str) (g : Kd) (m1 : List (Str × Kd)) : (m1.map rowK).map (stepRow t g) = (m1.map (putP (stepP t g))).map rowK := by
  rw [List.map_map, List.map_map]
  rfl
theorem step_calls (t : Str) (g : Kd) (m2 : List (Str × (List Kd × Kd))) : (m2.map rowF).map (stepRow t g) = (m2.map (putQ (stepP t g))).map rowF := by
  rw [List.map_map, List.map_map]
  refine List.map_congr_left fun q _ => ?_
  show (q.1, (q.2.1 ++ [q.2.2]).map (Kd.put (stepP t g))) = (q.1, q.2.1.map (Kd.put (stepP t g)) ++ [Kd.put (stepP t g) q.2.2])
  rw [List.map_append]
  rfl
/-- whether a word is an own hidden one, as the law asks it -/
theorem own_in {m1 : List (Str × Kd)} {t : Str} : (((m1.map rowK).map RowD).any fun e => PyData.eqv e (RowD (t, [ownK t]))) = decide (t ∈ hidL m1) := by
  rw [Bool.eq_iff_iff, List.any_eq_true, decide_eq_true_iff]
  constructor
  · rintro ⟨d, hd, he⟩
    obtain ⟨q', hq', rfl⟩ := List.mem_map.mp hd
    obtain ⟨⟨z, k⟩, hq, rfl⟩ := List.mem_map.mp hq'
    have he' : PyData.eqv (.tuple [.str z, .list [Kd.dat k]]) (.tuple [.str t, .list [Kd.dat (ownK t)]]) = true := he
    rw [eqv_tup, eqvA_cons, eqvA_cons, eqvA_nil, eqv_str, eqv_lst, eqvA_cons, eqvA_nil, eqv_dat] at he'
    simp only [Bool.and_true, Bool.and_eq_true, decide_eq_true_eq] at he'
    obtain ⟨rfl, rfl⟩ := he'
    unfold hidL
    exact List.mem_map.mpr ⟨(z, ownK z), List.mem_filter.mpr ⟨hq, decide_eq_true rfl⟩, rfl⟩
  · intro h
    unfold hidL at h
    obtain ⟨⟨z, k⟩, hq, e⟩ := List.mem_map.mp h
    obtain ⟨hq1, hq2⟩ := List.mem_filter.mp hq
    have e' : z = t := e
    subst e'
    have hk : k = ownK z := of_decide_eq_true hq2
    subst hk
    exact ⟨_, List.mem_map.mpr ⟨_, List.mem_map.mpr ⟨_, hq1, rfl⟩, rfl⟩, eqv_row _⟩
/-- the list of a dict's pairs as data -/
def ItD (q : Str × Kd) : PyData := .tuple [.str q.1, Kd.dat q.2]
theorem items_dats {K : PySem.W.Frag} {H : Hp} : ∀ {m : List (Str × Kd)} {kvs : List (Key × V)} {as : List Addr}, PkAt (KdAt K H) kvs m → Paired (fun (p : Key × V) (k : Addr) => H k = some (.tup [kV p.1, p.2])) kvs as → Dats K H (as.map V.ref) (m.map ItD)
  | _, _, _, .nil, .nil => .nil
  | _, _, _, .cons (a := ⟨pk, pw⟩) (b := ⟨z, k⟩) ha t, .cons hb u => by
    obtain ⟨e, hk⟩ := ha
    replace e : pk = .inr z := e
    subst e
    exact .cons (.tup (SqT.of hb) (.cons (.str z) (.cons (kd_dat hk) .nil))) (items_dats t u)
theorem items_eqv (m : List (Str × Kd)) : PyData.eqv (.list (m.map ItD)) (.list (m.map ItD)) = true := by
  rw [eqv_lst]
  refine eqvA_refl fun d hd => ?_
  obtain ⟨q, _, rfl⟩ := List.mem_map.mp hd
  unfold ItD
  rw [eqv_tup, eqvA_cons, eqvA_cons, eqvA_nil, eqv_str, eqv_kd, decide_eq_true rfl]
  rfl
theorem items_shaped {m : List (Str × Kd)} (h : ∀ q ∈ m, okW q.1 ∧ GoodK q.2) : SeqAt.shaped (.list (m.map ItD)) = true := by
  have h1 : PyData.canLayAll0 (m.map ItD) = true := layA fun d hd => by
    obtain ⟨q, hq, rfl⟩ := List.mem_map.mp hd
    have a1 := (h q hq).1.1
    have a2 := lay_kd (h q hq).2.1
    simp [ItD, PyData.canLay0, PyData.canLayAll0, a1, a2]
  have h2 : PyData.depthAll (m.map ItD) ≤ 41 := deepA fun d hd => by
    obtain ⟨q, hq, rfl⟩ := List.mem_map.mp hd
    have a1 := deep_kd q.2
    have a2 := depth_words q.2
    have a3 := (h q hq).2.2
    simp only [ItD, PyData.depth, PyData.depthAll]
    omega
  have h3 : PyData.canLay0 (.list (m.map ItD)) = true := by simp [PyData.canLay0, h1]
  have h4 : PyData.depth (.list (m.map ItD)) ≤ 64 := by
    simp only [PyData.depth]
    omega
  unfold SeqAt.shaped
  rw [h3, decide_eq_true h4]
  rfl
end K25

namespace K25
open PySem L2 Kk
/-! the law: what stands, and the end of a turn -/
def ifBody : Stmt → List Stmt
  | .If _ b _ _ => b
  | _ => []
abbrev bBody : List Stmt := ifBody ((loopBody ((defBody sLaw).getD 7 (.Pass ⟨0, 0, 0, 0⟩))).getD 1 (.Pass ⟨0, 0, 0, 0⟩))
abbrev lawN : List Str := ["_law_script", "_law_words_here", "_law_kinds_here", "_law_funs_here", "_law_face", "_law_withs_here", "_law_t", "_law_rows", "_law_calls", "_law_k", "_law_due", "_law_sizes"]
structure Wd (K : PySem.W.Frag) (CF : Addr) (H : Hp) (kd fl fa l : Addr) (m1 : List (Str × Kd)) (m2 : List (Str × (List Kd × Kd))) (us : List (Str × Kd)) (kvs fvs : List (Key × V)) (xs : List V) : Prop where
  hk : H kd = some (.dK kvs)
  pk : PkAt (KdAt K H) kvs m1
  hf : H fl = some (.dK fvs)
  pf : PkAt (FunAt K H) fvs m2
  fc : ∃ (dx d e : Addr) (fs : List (Str × V)), H fa = some (.ins CF dx fs) ∧ fs.lookup ("kinds" : Str) = some (.ref d) ∧ fs.lookup ("funs" : Str) = some (.ref e) ∧ H d = some (.dK kvs) ∧ H e = some (.dK fvs) ∧ fs.lookup ("hidden" : Str) = none ∧ fs.lookup ("put" : Str) = none
  hl : H l = some (.lst xs)
  wi : WithsAt K H xs us
  gd : Good m1 m2
  wg : WGood us
  nz : m1 ≠ []
  u5 : us.length ≤ 5
theorem Wd.same {K : PySem.W.Frag} {CF : Addr} {H H' : Hp} {kd fl fa l : Addr} {m1 : List (Str × Kd)} {m2 : List (Str × (List Kd × Kd))} {us : List (Str × Kd)} {kvs fvs : List (Key × V)} {xs : List V} (h : Wd K CF H kd fl fa l m1 m2 us kvs fvs xs) (e : Same H H') : Wd K CF H' kd fl fa l m1 m2 us kvs fvs xs where
  hk := e _ _ h.hk
  pk := h.pk.imp fun v y h => h.same e
  hf := e _ _ h.hf
  pf := h.pf.imp fun v y h => h.keep fun a xs t => e.tup t
  fc := by
    obtain ⟨dx, d, f, fs, h1, h2, h3, h4, h5, h6⟩ := h.fc
    exact ⟨dx, d, f, fs, e _ _ h1, h2, h3, e _ _ h4, e _ _ h5, h6⟩
  hl := e _ _ h.hl
  wi := h.wi.same e
  gd := h.gd
  wg := h.wg
  nz := h.nz
  u5 := h.u5
theorem Wd.face {K : PySem.W.Frag} {CF : Addr} {H : Hp} {kd fl fa l : Addr} {m1 : List (Str × Kd)} {m2 : List (Str × (List Kd × Kd))} {us : List (Str × Kd)} {kvs fvs : List (Key × V)} {xs : List V} (h : Wd K CF H kd fl fa l m1 m2 us kvs fvs xs) : FaceF K H CF fa m1 m2 := by
  obtain ⟨dx, d, f, fs, h1, h2, h3, h4, h5, h6⟩ := h.fc
  exact ⟨dx, d, f, fs, kvs, fvs, h1, h2, h3, h4, h5, h.pk, h.pf, h6⟩
theorem kd_ref {K : PySem.W.Frag} {H : Hp} : ∀ {v : V} {k : Kd}, KdAt K H v k → ∃ c, v = .ref c
  | _, _, .num _ => ⟨_, rfl⟩
  | _, _, .name _ => ⟨_, rfl⟩
  | _, _, .pair _ _ _ => ⟨_, rfl⟩
theorem refs_k {K : PySem.W.Frag} {H : Hp} {kvs : List (Key × V)} {m : List (Str × Kd)} (h : PkAt (KdAt K H) kvs m) : ∀ p ∈ kvs, ∃ c, p.2 = .ref c := by
  unfold PkAt at h
  induction h with
  | nil => exact fun p hp => nomatch hp
  | cons a _ ih =>
    intro p hp
    rcases List.mem_cons.mp hp with rfl | hp
    · exact kd_ref a.2
    · exact ih p hp
theorem refs_f {K : PySem.W.Frag} {H : Hp} {kvs : List (Key × V)} {m : List (Str × (List Kd × Kd))} (h : PkAt (FunAt K H) kvs m) : ∀ p ∈ kvs, ∃ c, p.2 = .ref c := by
  unfold PkAt at h
  induction h with
  | nil => exact fun p hp => nomatch hp
  | cons a _ ih =>
    intro p hp
    rcases List.mem_cons.mp hp with rfl | hp
    · obtain ⟨c, _, _, _, e, _⟩ := a.2
      exact ⟨c, e⟩
    · exact ih p hp
theorem paired_take {α β : Type} {F : α → β → Prop} : ∀ {as : List α} {bs : List β} (n : Nat), Paired F as bs → Paired F (as.take n) (bs.take n)
  | _, _, 0, _ => .nil
  | _, _, n + 1, .nil => .nil
  | _, _, n + 1, .cons a b => .cons a (paired_take n b)
theorem WGood.take {us : List (Str × Kd)} (h : WGood us) (n : Nat) : WGood (us.take n) := fun q hq => h q (List.mem_of_mem_take hq)
section
variable {P : Program} {w : World} {K : PySem.W.Frag} {mg : Str → Option Value} {base : Heap}
theorem scLaw : FnScope lawN ["_law_script"] (defScope sLaw) := ⟨rfl, rfl, rfl, by decide +kernel, rfl, by decide +kernel, by decide +kernel⟩
set_option maxHeartbeats 0 in
theorem law_b7 {f fs CF : Addr} {fds : FuncData} (GS : FnOk P w K mg base CX0 46 fs fds ["_law_face", "_law_withs_here"] (spSaid K CF)) (bS : Binds K fds ["_law_face", "_law_withs_here"] []) (kS : PySem.W.keepIn K (.ref fs) = true) (mS : mg "_law_said" = some (.ref fs)) (mt : mg "tuple" = none) (cF : Cls K CF) (nK : NoAttr K CF "kinds") (nF : NoAttr K CF "funs")
    {cdv : Value} {A : Around} {outer : List Env} {s : Shared} {H : Hp} {E : XK} (hr : Room 46 (A.deeper (PyProof.Rows.envOfC "law" (defScope sLaw) s.heap.objs.size f cdv))) :
    ∃ t, PSs (cxOf CX0 P w K mg base lawN "law" (defScope sLaw) f cdv A outer s H E).nox (List.drop 7 bBody) t ∧
      ∀ (D : Ends) (H3 : Hp) (a0 a1 a6 a7 a8 a11 : Option V) (kd fl fa l : Addr) (m1 : List (Str × Kd)) (m2 : List (Str × (List Kd × Kd))) (us : List (Str × Kd)) (kvs fvs : List (Key × V)) (xs : List V) (i : Nat) (dv : Str), Wd K CF H3 kd fl fa l m1 m2 us kvs fvs xs → i < us.length →
        (dv = "told" ∨ (dv = "no" ∧ rrun m1 m2 (us.take (i + 1)) = .no) ∨ (dv = "big" ∧ rrun m1 m2 (us.take (i + 1)) = .big)) →
        (dv = "told" → D.nx [a0, a1, some (.ref kd), some (.ref fl), some (.ref fa), some (.ref l), a6, a7, a8, some (.int (0 + (i : Int))), some (.str dv), a11] H3) → (∀ H', D.rt (.bl true) H') →
        t D [a0, a1, some (.ref kd), some (.ref fl), some (.ref fa), some (.ref l), a6, a7, a8, some (.int (0 + (i : Int))), some (.str dv), a11] H3 := by
  have hu := hr.units
  have hu1 := hu_of hr
  refine ⟨_, pss_one (ps_if (pt_cmpR op_ne (pv 10) pe_str (nomark _)) (pss_one (ps_ret (pe_and (pe_cmpR (op_eqD hu) (pe_call GS hr (by rfl) mS kS bS .nil pass0 (pa_cons (pv 4) (pa_cons (pe_callTy call_tuple_of (by rfl) mt bootTuple (pa_cons (pe_slice sl_list (pv 5) po_none (po_some (pe_op op_add (pv 9) pe_int))) pa_nil)) pa_nil))) (pv 10) (nomark _))
    (pe_and (pe_cmpR (op_eqSame hu1) (pe_fld (pv 4) rfl) (pv 2) (nomark _)) (pe_one (pe_cmpR (op_eqSame hu1) (pe_fld (pv 4) rfl) (pv 3) (nomark _))))))) pss_nil), ?_⟩
  intro D H3 a0 a1 a6 a7 a8 a11 kd fl fa l m1 m2 us kvs fvs xs i dv hW hi hdv qN qR
  have hxl : xs.length = us.length := Paired.length hW.wi
  have eSl : cutV xs none (some (0 + (i : Int) + 1)) = xs.take (i + 1) := by
    rw [show (0 : Int) + (i : Int) + 1 = ((i + 1 : Nat) : Int) by omega]
    exact cut_to (by omega)
  have fin : ∀ (H4 : Hp) (x : Str), Same H3 H4 → dv = x → SeqAt.shaped (.str x) = true → ∃ dx dy, Dat K H4 (.str x) dx ∧ Dat K H4 (.str dv) dy ∧ SeqAt.shaped dx = true ∧ SeqAt.shaped dy = true ∧ ∃ c, V.bl (if false then !PyData.eqv dx dy else PyData.eqv dx dy) = .bl c ∧ c = true := by
    intro H4 x s4 e hs
    subst e
    exact ⟨_, _, .str _, .str _, hs, hs, true, by show V.bl (PyData.eqv (.str dv) (.str dv)) = _; rw [eqv_str, decide_eq_true rfl], rfl⟩
  refine ⟨_, rfl, rfl, _, rfl, ite2 (fun c => ?_) (fun c => ?_)⟩
  · have c' : dv ≠ "told" := fun e => by
      have c2 : (!decide (V.str dv = V.str "told")) = true := c
      rw [e, decide_eq_true rfl] at c2
      cases c2
    refine ⟨_, rfl, _, rfl, _, rfl, _, _, rfl, rfl, _, rfl, l, _, rfl, SqL.of hW.hl, fun p1 hp1 => ?_⟩
    have s1 := same_new hp1 (.lst (cutV xs none (some (0 + (i : Int) + 1))))
    refine ⟨p1, _, rfl, .inl ⟨SqL.of upd_same, fun tw htw => ?_⟩⟩
    have s2 := same_new htw (.tup (cutV xs none (some (0 + (i : Int) + 1))))
    have s12 := s1.trans s2
    have hW2 := hW.same s12
    have hxT : WithsAt K (upd (upd H3 p1 (.lst (cutV xs none (some (0 + (i : Int) + 1))))) tw (.tup (cutV xs none (some (0 + (i : Int) + 1))))) (cutV xs none (some (0 + (i : Int) + 1))) (us.take (i + 1)) := by
      have z : WithsAt K _ (xs.take (i + 1)) (us.take (i + 1)) := paired_take (i + 1) hW2.wi
      rw [← eSl] at z
      exact z
    have rest : ∀ H4 : Hp, Same (upd (upd H3 p1 (.lst (cutV xs none (some (0 + (i : Int) + 1))))) tw (.tup (cutV xs none (some (0 + (i : Int) + 1))))) H4 → tAndV (tOp (rSameD false) (tFld K (tVar 4) "kinds") (tVar 2)) (tOp (rSameD false) (tFld K (tVar 4) "funs") (tVar 3)) [a0, a1, some (.ref kd), some (.ref fl), some (.ref fa), some (.ref l), a6, a7, a8, some (.int (0 + (i : Int))), some (.str dv), a11] H4 D.rt := by
      intro H4 s4
      have hW4 := hW2.same s4
      obtain ⟨dx, d, e, fs, h1, h2, h3, h4, h5, h6⟩ := hW4.fc
      refine ⟨_, rfl, fa, CF, dx, fs, _, rfl, h1, cF, nK, h2, _, rfl, d, kd, kvs, rfl, rfl, h4, hW4.hk, refs_k hW4.pk, true, rfl, iteT ?_⟩
      exact ⟨_, rfl, fa, CF, dx, fs, _, rfl, h1, cF, nF, h3, _, rfl, e, fl, fvs, rfl, rfl, h5, hW4.hf, refs_f hW4.pf, qR _⟩
    refine ⟨fa, tw, m1, m2, _, us.take (i + 1), rfl, hW2.face, hW.gd, SqT.of upd_same, hxT, hW.wg.take _, fun n1 n2 hrun => ?_, fun hrun H4 s4 => ?_, fun hrun H4 s4 => ?_⟩
    · rcases hdv with h | ⟨_, h⟩ | ⟨_, h⟩
      · exact absurd h c'
      · rw [hrun] at h; cases h
      · rw [hrun] at h; cases h
    · have e : dv = "no" := by
        rcases hdv with h | ⟨h, _⟩ | ⟨_, h⟩
        · exact absurd h c'
        · exact h
        · rw [hrun] at h; cases h
      obtain ⟨dx, dy, h1, h2, h3, h4, cc, h5, h6⟩ := fin H4 "no" (s12.trans s4) e (by decide +kernel)
      exact ⟨_, rfl, dx, dy, h1, h2, h3, h4, cc, h5, by rw [if_pos h6]; exact rest H4 s4⟩
    · have e : dv = "big" := by
        rcases hdv with h | ⟨_, h⟩ | ⟨h, _⟩
        · exact absurd h c'
        · rw [hrun] at h; cases h
        · exact h
      obtain ⟨dx, dy, h1, h2, h3, h4, cc, h5, h6⟩ := fin H4 "big" (s12.trans s4) e (by decide +kernel)
      exact ⟨_, rfl, dx, dy, h1, h2, h3, h4, cc, h5, by rw [if_pos h6]; exact rest H4 s4⟩
  · refine qN (Decidable.byContradiction fun e => c ?_)
    show (!decide (V.str dv = V.str "told")) = true
    rw [decide_eq_false (fun z => e (by injection z))]
    rfl
end
end K25

namespace K25
open PySem L2 Kk
def SzRow (q : Str × List Kd) (M : Int) : Prop := (∃ k ∈ q.2, M = (k.words : Int)) ∧ ∀ k ∈ q.2, (k.words : Int) ≤ M
theorem sz_fits {n1 : List (Str × Kd)} {n2 : List (Str × (List Kd × Kd))} {ns : List Int} (h : Paired SzRow (n1.map rowK ++ n2.map rowF) ns) (ha : ∀ a ∈ ns, a ≤ 40) : Fits 40 n1 n2 := by
  have key : ∀ q ∈ n1.map rowK ++ n2.map rowF, ∀ k ∈ q.2, (k.words : Int) ≤ 40 := fun q hq k hk => by
    obtain ⟨j, hj, e⟩ := List.getElem_of_mem hq
    obtain ⟨M, hM, _, h2⟩ := pair_get h (List.getElem?_eq_getElem hj)
    rw [e] at h2
    exact Int.le_trans (h2 k hk) (ha M (List.mem_of_getElem? hM))
  refine ⟨fun q hq => key _ (List.mem_append_left _ (List.mem_map_of_mem hq)) _ (List.mem_singleton.mpr rfl), fun q hq => ⟨fun k hk => ?_, ?_⟩⟩
  · exact key _ (List.mem_append_right _ (List.mem_map_of_mem hq)) _ (List.mem_append_left _ hk)
  · exact key _ (List.mem_append_right _ (List.mem_map_of_mem hq)) _ (List.mem_append_right _ (List.mem_singleton.mpr rfl))
theorem pair_get' {α β : Type} {F : α → β → Prop} : ∀ {as : List α} {bs : List β}, Paired F as bs → ∀ {j : Nat} {b : β}, bs[j]? = some b → ∃ a, as[j]? = some a ∧ F a b
  | _, _, .nil, j, a, h => by simp at h
  | _, _, .cons x t, 0, a, h => by
    simp at h
    subst h
    exact ⟨_, rfl, x⟩
  | _, _, .cons x t, j + 1, a, h => by
    simp at h
    obtain ⟨b, hb, r⟩ := pair_get' t h
    exact ⟨b, by simpa using hb, r⟩
theorem sz_big {n1 : List (Str × Kd)} {n2 : List (Str × (List Kd × Kd))} {ns : List Int} (h : Paired SzRow (n1.map rowK ++ n2.map rowF) ns) (ha : ∃ a ∈ ns, 40 < a) : ¬ Fits 40 n1 n2 := by
  rintro ⟨f1, f2⟩
  obtain ⟨a, hm, hgt⟩ := ha
  obtain ⟨j, hj, e⟩ := List.getElem_of_mem hm
  obtain ⟨q, hq, ⟨k, hk, hM⟩, _⟩ := pair_get' h (List.getElem?_eq_getElem hj)
  rw [e] at hM
  have hq' := List.mem_of_getElem? hq
  rcases List.mem_append.mp hq' with z | z
  · obtain ⟨q', hq'', rfl⟩ := List.mem_map.mp z
    rw [List.mem_singleton.mp hk] at hM
    have := f1 q' hq''
    omega
  · obtain ⟨q', hq'', rfl⟩ := List.mem_map.mp z
    rcases List.mem_append.mp hk with y | y
    · have := (f2 q' hq'').1 k y
      omega
    · rw [List.mem_singleton.mp y] at hM
      have := (f2 q' hq'').2
      omega
section
variable {P : Program} {w : World} {K : PySem.W.Frag} {mg : Str → Option Value} {base : Heap}
theorem bootMax : bootBuiltins "max" = some (.builtin "max") := by decide +kernel
set_option maxHeartbeats 0 in
theorem law_b6 {f fs CF : Addr} {fds : FuncData} (GS : FnOk P w K mg base CX0 46 fs fds ["_law_face", "_law_withs_here"] (spSaid K CF)) (bS : Binds K fds ["_law_face", "_law_withs_here"] []) (kS : PySem.W.keepIn K (.ref fs) = true) (mS : mg "_law_said" = some (.ref fs)) (mt : mg "tuple" = none) (mm : mg "max" = none) (cF : Cls K CF) (nK : NoAttr K CF "kinds") (nF : NoAttr K CF "funs")
    {cdv : Value} {A : Around} {outer : List Env} {s : Shared} {H : Hp} {E : XK} (hr : Room 46 (A.deeper (PyProof.Rows.envOfC "law" (defScope sLaw) s.heap.objs.size f cdv))) :
    ∃ t, PSs (cxOf CX0 P w K mg base lawN "law" (defScope sLaw) f cdv A outer s H E).nox (List.drop 6 bBody) t ∧
      ∀ (D : Ends) (H3 : Hp) (a0 a1 a6 a7 a8 : Option V) (kd fl fa l z : Addr) (m1 : List (Str × Kd)) (m2 : List (Str × (List Kd × Kd))) (us : List (Str × Kd)) (kvs fvs : List (Key × V)) (xs : List V) (i : Nat) (dv : Str) (ns : List Int), Wd K CF H3 kd fl fa l m1 m2 us kvs fvs xs → i < us.length →
        H3 z = some (.lst (ns.map V.int)) → ns ≠ [] → (dv = "told" ∨ (dv = "no" ∧ rrun m1 m2 (us.take (i + 1)) = .no)) → (dv = "told" → (∃ a ∈ ns, 40 < a) → rrun m1 m2 (us.take (i + 1)) = .big) →
        (dv = "told" → (∀ a ∈ ns, a ≤ 40) → D.nx [a0, a1, some (.ref kd), some (.ref fl), some (.ref fa), some (.ref l), a6, a7, a8, some (.int (0 + (i : Int))), some (.str "told"), some (.ref z)] H3) → (∀ H', D.rt (.bl true) H') →
        t D [a0, a1, some (.ref kd), some (.ref fl), some (.ref fa), some (.ref l), a6, a7, a8, some (.int (0 + (i : Int))), some (.str dv), some (.ref z)] H3 := by
  obtain ⟨t7, e7, k7⟩ := law_b7 (outer := outer) (H := H) (E := E) GS bS kS mS mt cF nK nF hr
  refine ⟨_, (@pss_cons _ _ _ _ _ (ps_if (PW.pt (pw_and (pt_cmpR op_eq (pv 10) pe_str (nomark _)) (pw_and1 (pt_cmpR op_gt (pe_callB (call_maxL rfl) (by rfl) mm bootMax (pa_cons (pv 11) pa_nil)) pe_int (nomark _))))) (pss_one (ps_set (i := 10) scLaw.nd rfl (Or.inl rfl) pe_str)) pss_nil)
    @e7 : PSs (cxOf CX0 P w K mg base lawN "law" (defScope sLaw) f cdv A outer s H E).nox (List.drop 6 bBody) _), ?_⟩
  intro D H3 a0 a1 a6 a7 a8 kd fl fa l z m1 m2 us kvs fvs xs i dv ns hW hi hz hne hdv hbig qN qR
  refine ⟨_, rfl, rfl, _, rfl, ite2 (fun c => ?_) (fun c => ?_)⟩
  · have c' : dv = "told" := by
      have c2 : V.str dv = V.str "told" := of_decide_eq_true c
      injection c2
    subst c'
    refine ⟨_, rfl, z, ns, rfl, SqL.of hz, hne, fun M hM hle => ?_⟩
    refine ⟨_, _, rfl, rfl, _, rfl, ite2 (fun c2 => ?_) (fun c2 => ?_)⟩
    · have c2' : (40 : Int) < M := of_decide_eq_true c2
      exact k7 _ H3 a0 a1 a6 a7 a8 _ kd fl fa l m1 m2 us kvs fvs xs i "big" hW hi (.inr (.inr ⟨rfl, hbig rfl ⟨M, hM, c2'⟩⟩)) (fun e => absurd e (by decide +kernel)) qR
    · have c2' : ¬ (40 : Int) < M := of_decide_eq_false (Bool.eq_false_iff.mpr c2)
      exact k7 _ H3 a0 a1 a6 a7 a8 _ kd fl fa l m1 m2 us kvs fvs xs i "told" hW hi (.inl rfl) (fun _ => qN rfl fun a ha => by have := hle a ha; omega) qR
  · have c' : dv ≠ "told" := fun e => c (by rw [e]; exact decide_eq_true rfl)
    have hno : dv = "no" ∧ rrun m1 m2 (us.take (i + 1)) = .no := hdv.resolve_left c'
    exact iteF (k7 _ H3 a0 a1 a6 a7 a8 _ kd fl fa l m1 m2 us kvs fvs xs i dv hW hi (.inr (.inl hno)) (fun e => absurd e c') qR)
end
end K25

namespace K25
open PySem L2 Kk
theorem RowsAt.append {K : PySem.W.Frag} {H : Hp} {xs ys : List V} {rs qs : List (Str × List Kd)} (h : RowsAt K H xs rs) (h2 : RowsAt K H ys qs) : RowsAt K H (xs ++ ys) (rs ++ qs) := by
  unfold RowsAt at h ⊢
  induction h with
  | nil => exact h2
  | cons a _ ih => exact .cons a ih
section
variable {P : Program} {w : World} {K : PySem.W.Frag} {mg : Str → Option Value} {base : Heap}
set_option maxHeartbeats 0 in
theorem law_b3 {f fs fe fz CF : Addr} {fds fde fdz : FuncData} (GS : FnOk P w K mg base CX0 46 fs fds ["_law_face", "_law_withs_here"] (spSaid K CF)) (bS : Binds K fds ["_law_face", "_law_withs_here"] []) (kS : PySem.W.keepIn K (.ref fs) = true) (mS : mg "_law_said" = some (.ref fs)) (mt : mg "tuple" = none) (mm : mg "max" = none) (cF : Cls K CF) (nK : NoAttr K CF "kinds") (nF : NoAttr K CF "funs")
    (GE : FnOk P w K mg base CX0 41 fe fde ["_law_rows", "_law_t", "_law_given"] (spStep K)) (bE : Binds K fde ["_law_rows", "_law_t", "_law_given"] []) (kE : PySem.W.keepIn K (.ref fe) = true) (mE : mg "_law_step" = some (.ref fe))
    (GZ : FnOk P w K mg base CX0 1 fz fdz ["_law_kind"] (spSize K)) (bZ : Binds K fdz ["_law_kind"] []) (kZ : PySem.W.keepIn K (.ref fz) = true) (mZ : mg "_law_size" = some (.ref fz))
    {cdv : Value} {A : Around} {outer : List Env} {s : Shared} {H : Hp} {E : XK} (hr : Room 46 (A.deeper (PyProof.Rows.envOfC "law" (defScope sLaw) s.heap.objs.size f cdv))) :
    ∃ t_, PSs (cxOf CX0 P w K mg base lawN "law" (defScope sLaw) f cdv A outer s H E).nox (List.drop 3 bBody) t_ ∧
      ∀ (D : Ends) (H3 : Hp) (a0 a1 a11 : Option V) (kd fl fa l r c : Addr) (m1 : List (Str × Kd)) (m2 : List (Str × (List Kd × Kd))) (us : List (Str × Kd)) (kvs fvs : List (Key × V)) (xs xr xc : List V) (i : Nat) (dv t : Str) (g : Kd) (n1 : List (Str × Kd)) (n2 : List (Str × (List Kd × Kd))), Wd K CF H3 kd fl fa l m1 m2 us kvs fvs xs → us[i]? = some (t, g) →
        H3 r = some (.lst xr) → RowsAt K H3 xr (n1.map rowK) → H3 c = some (.lst xc) → RowsAt K H3 xc (n2.map rowF) → Good n1 n2 → n1 ≠ [] → rrun m1 m2 (us.take i) = .ok n1 n2 →
        ((dv = "told" ∧ t ∈ hidL n1) ∨ (dv = "no" ∧ t ∉ hidL n1)) →
        (∀ (H' : Hp) (r' c' : Addr) (xr' xc' : List V) (b11 : Option V), Same H3 H' → H' r' = some (.lst xr') → H' c' = some (.lst xc') → RowsAt K H' xr' ((n1.map (putP (stepP t g))).map rowK) → RowsAt K H' xc' ((n2.map (putQ (stepP t g))).map rowF) → rrun m1 m2 (us.take (i + 1)) = .ok (n1.map (putP (stepP t g))) (n2.map (putQ (stepP t g))) →
          D.nx [a0, a1, some (.ref kd), some (.ref fl), some (.ref fa), some (.ref l), some (.str t), some (.ref r'), some (.ref c'), some (.int (0 + (i : Int))), some (.str "told"), b11] H') → (∀ H', D.rt (.bl true) H') →
        t_ D [a0, a1, some (.ref kd), some (.ref fl), some (.ref fa), some (.ref l), some (.str t), some (.ref r), some (.ref c), some (.int (0 + (i : Int))), some (.str dv), a11] H3 := by
  have hr41 : Room 41 _ := hr.mono (by decide)
  have hr1 : Room 1 _ := hr.mono (by decide)
  obtain ⟨t6, e6, k6⟩ := law_b6 (outer := outer) (H := H) (E := E) GS bS kS mS mt mm cF nK nF hr
  refine ⟨_, (@pss_cons _ _ _ _ _ (ps_set (i := 7) scLaw.nd rfl (Or.inl rfl) (pe_call GE hr41 (by rfl) mE kE bE .nil pass0 (pa_cons (pv 7) (pa_cons (pv 6) (pa_cons (pe_ix ix_tup (pe_ix ix_list (pv 5) (pv 9) (fun _ _ => rfl)) pe_int (fun _ _ => rfl)) pa_nil)))))
    (@pss_cons _ _ _ _ _ (ps_set (i := 8) scLaw.nd rfl (Or.inl rfl) (pe_call GE hr41 (by rfl) mE kE bE .nil pass0 (pa_cons (pv 8) (pa_cons (pv 6) (pa_cons (pe_ix ix_tup (pe_ix ix_list (pv 5) (pv 9) (fun _ _ => rfl)) pe_int (fun _ _ => rfl)) pa_nil)))))
    (@pss_cons _ _ _ _ _ (ps_comp (i0 := 11) (own := ["_law_word_here", "_law_told"]) (caps := []) (κ := []) scLaw.nd rfl (Or.inl rfl) rfl ⟨rfl, by decide +kernel, by decide +kernel, rfl, rfl, (fun y hy => nomatch hy), (fun y hy => nomatch hy)⟩ rfl
      (pi_list (pe_op op_cat (pv 7) (pv 8))) (fun _ _ _ _ => pg_two (K := K) (i := 0) (j := 1) rfl rfl (show (["_law_word_here", "_law_told"] : List Str).Nodup from by decide +kernel) rfl (Or.inl rfl) (Or.inr rfl) rfl (Or.inl rfl) (Or.inr rfl))
      (fun _ _ _ _ => pe_callB (maxK (K := K) rfl rfl) (by rfl) mm bootMax (pa_cons (pe_comp (own := ["_law_kind"]) (caps := []) (κ := []) rfl ⟨rfl, by decide +kernel, by decide +kernel, rfl, rfl, (fun y hy => nomatch hy), (fun y hy => nomatch hy)⟩ rfl
        (piLK (K := K) rfl (pv 1)) (fun _ _ _ _ => pg_name (i := 0) (show (["_law_kind"] : List Str).Nodup from by decide +kernel) rfl (Or.inl rfl)) (fun _ _ _ _ => pe_call GZ hr1 (by rfl) mZ kZ bZ .nil pass0 (pa_cons (pv 0) pa_nil))) pa_nil)))
    @e6)) : PSs (cxOf CX0 P w K mg base lawN "law" (defScope sLaw) f cdv A outer s H E).nox (List.drop 3 bBody) _), ?_⟩
  intro D H3 a0 a1 a11 kd fl fa l r c m1 m2 us kvs fvs xs xr xc i dv t g n1 n2 hW hui hr3 hxr hc3 hxc hG hne hrun hdv qN qR
  obtain ⟨x, hx, p, y, rfl, hp, hy⟩ := pair_get' hW.wi hui
  replace hp : SqT K H3 p [.str t, y] := hp
  replace hy : KdAt K H3 y g := hy
  obtain ⟨ot, og, ow⟩ := hW.wg (t, g) (List.mem_of_getElem? hui)
  replace ot : okW t := ot
  replace ow : g.words ≤ 27 := ow
  have hi : i < us.length := (List.getElem?_eq_some_iff.mp hui).1
  have hat : atI xs (0 + (i : Int)) = some (.ref p) := at_nat0 hx
  have esnoc := rrun_snoc m1 m2 hui
  rw [hrun] at esnoc
  refine ⟨_, rfl, _, rfl, _, rfl, _, rfl, l, _, _, _, rfl, rfl, SqL.of hW.hl, hat, p, _, _, _, rfl, rfl, hp, (show atI [V.str t, y] 1 = some y from rfl), r, t, y, g, xr, _, rfl, hr3, hxr, (by rw [List.length_map]; exact hG.l1), hG.rows.1, ot, hy, fun H4 r' xr' s4 nr hr4 hxr4 => ?_⟩
  refine ⟨_, rfl, _, rfl, _, rfl, _, rfl, l, _, _, _, rfl, rfl, SqL.of (s4 _ _ hW.hl), hat, p, _, _, _, rfl, rfl, s4.tup hp, (show atI [V.str t, y] 1 = some y from rfl), c, t, y, g, xc, _, rfl, s4 _ _ hc3, hxc.same s4, (by rw [List.length_map]; exact hG.l2), hG.rows.2, ot, hy.same s4, fun H5 c' xc' s5 nc hc5 hxc5 => ?_⟩
  rw [step_rows] at hxr4
  rw [step_calls] at hxc5
  have hr5 := s5 _ _ hr4
  have hxr5 := hxr4.same s5
  have l1 : xr'.length = ((n1.map (putP (stepP t g))).map rowK).length := Paired.length hxr5
  have l2 : xc'.length = ((n2.map (putQ (stepP t g))).map rowF).length := Paired.length hxc5
  rw [List.length_map, List.length_map] at l1 l2
  have g1 := hG.l1
  have g2 := hG.l2
  refine ⟨_, rfl, _, rfl, r', c', _, _, rfl, rfl, hr5, hc5, small (by omega), fun p7 hp7 => ⟨p7, rfl, ⟨_, SqL.of upd_same⟩, ?_⟩⟩
  have s7 := same_new hp7 (.lst (xr' ++ xc'))
  have hall : RowsAt K (upd H5 p7 (.lst (xr' ++ xc'))) (xr' ++ xc') ((n1.map (putP (stepP t g))).map rowK ++ (n2.map (putQ (stepP t g))).map rowF) := (hxr5.append hxc5).same s7
  have hwd : ∀ q ∈ (n1.map (putP (stepP t g))).map rowK ++ (n2.map (putQ (stepP t g))).map rowF, q.2 ≠ [] ∧ q.2.length ≤ 101 ∧ ∀ k ∈ q.2, k.words ≤ 900 := by
    intro q hq
    rcases List.mem_append.mp hq with h | h
    · obtain ⟨q', hq', rfl⟩ := List.mem_map.mp h
      obtain ⟨q'', hq'', rfl⟩ := List.mem_map.mp hq'
      refine ⟨(by intro z; cases z), (by show 1 ≤ 101; decide), fun k hk => ?_⟩
      rw [List.mem_singleton.mp hk]
      exact step_words ow (hG.k1 q'' hq'').2.2
    · obtain ⟨q', hq', rfl⟩ := List.mem_map.mp h
      obtain ⟨q'', hq'', rfl⟩ := List.mem_map.mp hq'
      obtain ⟨_, o2, o3, o4⟩ := hG.k2 q'' hq''
      refine ⟨(by intro z; exact absurd z (by show ¬ (q''.2.1.map (Kd.put (stepP t g)) ++ [Kd.put (stepP t g) q''.2.2]) = []; simp)), ?_, fun k hk => ?_⟩
      · show (q''.2.1.map (Kd.put (stepP t g)) ++ [Kd.put (stepP t g) q''.2.2]).length ≤ 101
        rw [List.length_append, List.length_map]
        exact Nat.succ_le_succ o4
      · rcases List.mem_append.mp hk with z | z
        · obtain ⟨k', hk', rfl⟩ := List.mem_map.mp z
          exact step_words ow (o2 k' hk').2
        · rw [List.mem_singleton.mp z]
          exact step_words ow o3.2
  have hlenA := Paired.length hall
  have hne2 : (n1.map (putP (stepP t g))).map rowK ++ (n2.map (putQ (stepP t g))).map rowF ≠ [] := by
    cases n1 with
    | nil => exact absurd rfl hne
    | cons a b => intro z; cases z
  generalize hAll : (n1.map (putP (stepP t g))).map rowK ++ (n2.map (putQ (stepP t g))).map rowF = all at hall hwd hlenA hne2
  refine comp_by (xs := xr' ++ xc') (fun j ys H8 => Same (upd H5 p7 (.lst (xr' ++ xc'))) H8 ∧ ys.length = j ∧ ∃ ns : List Int, ys = ns.map V.int ∧ Paired SzRow (all.take j) ns) ⟨Same.refl _, rfl, [], rfl, .nil⟩ (small (by rw [List.length_append]; omega)) ?_ ?_ ?_ ?_ ?_ ?_
  · rintro j ys H8 ⟨_, h, _⟩
    exact Nat.le_of_eq h
  · rintro j u ys H8 hu ⟨s8, _⟩
    exact ⟨_, _, SqL.of (s8 _ _ upd_same), hu⟩
  · rintro j ys u H8 H' hn ⟨s8, _⟩ hy'
    exact ⟨hy'.1, hy'.2 _ (SqL.of (s8 _ _ upd_same))⟩
  · rintro ys H8 ⟨s8, _⟩
    exact ⟨_, SqL.of (s8 _ _ upd_same), Nat.le_refl _⟩
  · rintro j u ys H8 N hN hu ⟨s8, hyl, ns, rfl, hns⟩
    obtain ⟨⟨z, ks⟩, hq, pr, lk, zs, rfl, hpr, hlk, hks⟩ := pair_get hall hu
    replace hpr : upd H5 p7 (.lst (xr' ++ xc')) pr = some (.tup [.str z, .ref lk]) := hpr
    replace hks : KdsAt K (upd H5 p7 (.lst (xr' ++ xc'))) zs ks := hks
    obtain ⟨w1, w2, w3⟩ := hwd (z, ks) (List.mem_of_getElem? hq)
    replace w1 : ks ≠ [] := w1
    replace w2 : ks.length ≤ 101 := w2
    have hzl := hks.length
    have lkL : ∀ {H9 : Hp}, Same H8 H9 → SqL K H9 lk zs := fun e => SqL.of (e _ _ (s8 _ _ hlk))
    refine ⟨pr, _, rfl, SqT.of (s8 _ _ hpr), rfl, _, _, rfl, _, _, rfl, rfl, rfl, tYes_go ?_⟩
    refine ⟨_, rfl, lk, rfl, ⟨_, lkL (Same.refl _)⟩, ?_⟩
    refine comp_by (xs := zs) (fun j' vs H9 => Same H8 H9 ∧ vs = ((ks.take j').map fun k => ((k.words : Nat) : Int)).map V.int ∧ vs.length = j') ⟨Same.refl _, rfl, rfl⟩ (small (by omega)) ?_ ?_ ?_ ?_ ?_ ?_
    · rintro j' vs H9 ⟨_, _, h⟩
      exact Nat.le_of_eq h
    · rintro j' u' vs H9 hu' ⟨s9, _⟩
      exact ⟨_, _, lkL s9, hu'⟩
    · rintro j' vs u' H9 H' hn ⟨s9, _⟩ hy'
      exact ⟨hy'.1, hy'.2 _ (lkL s9)⟩
    · rintro vs H9 ⟨s9, _⟩
      exact ⟨_, lkL s9, Nat.le_refl _⟩
    · rintro j' u' vs H9 N' hN' hu' ⟨s9, hvs, hvl⟩
      obtain ⟨k1, hk1, hku⟩ := kds_get hks hu'
      refine ⟨rfl, tYes_go ⟨_, rfl, u', k1, rfl, (hku.same s8).same s9, w3 k1 (List.mem_of_getElem? hk1), fun H10 s10 => hN' _ _ ⟨s9.trans s10, ?_, ?_⟩⟩⟩
      · rw [hvs, List.take_add_one, hk1]
        simp
      · rw [List.length_append, hvl]
        rfl
    · rintro vs H9 D9 ⟨s9, hvs, hvl⟩ hD9
      have eA : ks.take zs.length = ks := by rw [hzl]; exact List.take_length
      rw [eA] at hvs
      have sD := same_new hD9 (.lst vs)
      refine ⟨D9, ks.map fun k => ((k.words : Nat) : Int), rfl, SqL.of (by rw [upd_same, hvs]), (fun z => w1 (List.map_eq_nil_iff.mp z)), fun M hM hle => hN _ _ ⟨s8.trans (s9.trans sD), ?_, ns ++ [M], ?_, ?_⟩⟩
      · rw [List.length_append, hyl]
        rfl
      · rw [List.map_append]
        rfl
      · rw [List.take_add_one, hq]
        refine Paired.snoc hns ⟨?_, fun k hk => hle _ (List.mem_map.mpr ⟨k, hk, rfl⟩)⟩
        obtain ⟨k, hk, e⟩ := List.mem_map.mp hM
        exact ⟨k, hk, e.symm⟩
  · rintro ys H8 D8 ⟨s8, hyl, ns, rfl, hns⟩ hD8
    have eA : all.take (xr' ++ xc').length = all := by rw [hlenA]; exact List.take_length
    rw [eA] at hns
    have sD := same_new hD8 (.lst (ns.map V.int))
    have sX := s7.trans (s8.trans sD)
    have sY := s4.trans (s5.trans sX)
    have hnsl : all.length = ns.length := Paired.length hns
    have hnsne : ns ≠ [] := fun z => by
      rw [z] at hnsl
      exact hne2 (List.length_eq_zero_iff.mp hnsl)
    rw [← hAll] at hns
    refine k6 _ _ a0 a1 _ _ _ kd fl fa l D8 m1 m2 us kvs fvs xs i dv ns (hW.same sY) hi upd_same hnsne ?_ ?_ ?_ qR
    · rcases hdv with ⟨h, _⟩ | ⟨h, hn⟩
      · exact .inl h
      · refine .inr ⟨h, ?_⟩
        rw [esnoc]
        exact if_neg hn
    · intro hd hb
      have hh : t ∈ hidL n1 := by
        rcases hdv with ⟨_, h⟩ | ⟨h, _⟩
        · exact h
        · rw [h] at hd
          exact absurd hd (by decide +kernel)
      rw [esnoc]
      exact (if_pos hh).trans (if_neg fun z => sz_big hns hb (fitB_iff.mp z))
    · intro hd ha
      have hh : t ∈ hidL n1 := by
        rcases hdv with ⟨_, h⟩ | ⟨h, _⟩
        · exact h
        · rw [h] at hd
          exact absurd hd (by decide +kernel)
      have hf := sz_fits hns ha
      refine qN _ r' c' xr' xc' _ sY (sX _ _ hr5) (sX _ _ hc5) (hxr5.same sX) (hxc5.same sX) ?_
      rw [esnoc]
      exact (if_pos hh).trans (if_pos (fitB_iff.mpr hf))
end
end K25

namespace K25
open PySem L2 Kk
section
variable {P : Program} {w : World} {K : PySem.W.Frag} {mg : Str → Option Value} {base : Heap}
set_option maxHeartbeats 0 in
theorem law_8 {f CF : Addr} (cF : Cls K CF) (nK : NoAttr K CF "kinds") (nF : NoAttr K CF "funs") (mL : mg "list" = none)
    {cdv : Value} {A : Around} {outer : List Env} {s : Shared} {H : Hp} {E : XK} (hr : Room 46 (A.deeper (PyProof.Rows.envOfC "law" (defScope sLaw) s.heap.objs.size f cdv))) :
    ∃ t, PSs (cxOf CX0 P w K mg base lawN "law" (defScope sLaw) f cdv A outer s H E).nox (List.drop 8 (defBody sLaw)) t ∧
      ∀ (D : Ends) (H3 : Hp) (a0 a1 a5 a6 a7 a8 a9 a10 a11 : Option V) (kd fl fa l : Addr) (m1 : List (Str × Kd)) (m2 : List (Str × (List Kd × Kd))) (us : List (Str × Kd)) (kvs fvs : List (Key × V)) (xs : List V), Wd K CF H3 kd fl fa l m1 m2 us kvs fvs xs → (∀ H', D.rt (.bl true) H') →
        t D [a0, a1, some (.ref kd), some (.ref fl), some (.ref fa), a5, a6, a7, a8, a9, a10, a11] H3 := by
  have hu := hr.units
  have hu1 := hu_of hr
  refine ⟨_, pss_one (ps_ret (pe_and (pe_cmpR (op_eqD hu) (pe_callTy (call_list_items rfl) (by rfl) mL bootList (pa_cons (pe_bm0 PySem.F.plainAttrs_dict PySem.F.slot_dict_items PySem.F.type_dict_items mt_items (pe_fld (pv 4) rfl)) pa_nil))
    (pe_callTy (call_list_items rfl) (by rfl) mL bootList (pa_cons (pe_bm0 PySem.F.plainAttrs_dict PySem.F.slot_dict_items PySem.F.type_dict_items mt_items (pv 2)) pa_nil)) (nomark _)) (pe_one (pe_cmpR (op_eqSame hu1) (pe_fld (pv 4) rfl) (pv 3) (nomark _))))), ?_⟩
  intro D H3 a0 a1 a5 a6 a7 a8 a9 a10 a11 kd fl fa l m1 m2 us kvs fvs xs hW qR
  obtain ⟨dx, d, e, fs, h1, h2, h3, h4, h5, h6⟩ := hW.fc
  refine ⟨_, rfl, fa, CF, dx, fs, _, rfl, h1, cF, nK, h2, .inr (.inr (.inl ⟨rfl, .inl ⟨kvs, h4⟩⟩)), d, kvs, rfl, rfl, h4, fun v hv => ?_⟩
  have sv := same_new hv (.ext (itemsAt v d))
  refine ⟨v, d, kvs, rfl, upd_same, sv _ _ h4, fun H4 as l1 s4 nl nas hl1 hpa => ?_⟩
  have s4' : Same (upd H3 v (.ext (itemsAt v d))) H4 := s4
  have hW4 := hW.same (sv.trans s4')
  refine ⟨_, rfl, .inr (.inr (.inl ⟨rfl, .inl ⟨kvs, hW4.hk⟩⟩)), kd, kvs, rfl, rfl, hW4.hk, fun v2 hv2 => ?_⟩
  have sv2 := same_new hv2 (.ext (itemsAt v2 kd))
  refine ⟨v2, kd, kvs, rfl, upd_same, sv2 _ _ hW4.hk, fun H5 as2 l2 s5 nl2 nas2 hl2 hpa2 => ?_⟩
  have s5' : Same (upd H4 v2 (.ext (itemsAt v2 kd))) H5 := s5
  have s45 := sv2.trans s5'
  have hW5 := hW4.same s45
  have hsh := items_shaped hW.gd.k1
  have hpa5 : Paired (fun (p : Key × V) (k : Addr) => H5 k = some (.tup [kV p.1, p.2])) kvs as := Paired.mapP hpa fun _ _ h => s45 _ _ h
  refine ⟨_, _, .lst (SqL.of (s45 _ _ hl1)) (items_dats hW5.pk hpa5), .lst (SqL.of hl2) (items_dats hW5.pk hpa2), hsh, hsh, true, ?_, iteT ?_⟩
  · show V.bl (PyData.eqv (.list (m1.map ItD)) (.list (m1.map ItD))) = _
    rw [items_eqv]
  · obtain ⟨dx, d, e, fs, h1, h2, h3, h4, h5, h6⟩ := hW5.fc
    exact ⟨_, rfl, fa, CF, dx, fs, _, rfl, h1, cF, nF, h3, _, rfl, e, fl, fvs, rfl, rfl, h5, hW5.hf, refs_f hW5.pf, qR _⟩
set_option maxHeartbeats 0 in
theorem law_7 {f fs fe fz CF : Addr} {fds fde fdz : FuncData} (GS : FnOk P w K mg base CX0 46 fs fds ["_law_face", "_law_withs_here"] (spSaid K CF)) (bS : Binds K fds ["_law_face", "_law_withs_here"] []) (kS : PySem.W.keepIn K (.ref fs) = true) (mS : mg "_law_said" = some (.ref fs)) (mt : mg "tuple" = none) (mm : mg "max" = none) (cF : Cls K CF) (nK : NoAttr K CF "kinds") (nF : NoAttr K CF "funs")
    (GE : FnOk P w K mg base CX0 41 fe fde ["_law_rows", "_law_t", "_law_given"] (spStep K)) (bE : Binds K fde ["_law_rows", "_law_t", "_law_given"] []) (kE : PySem.W.keepIn K (.ref fe) = true) (mE : mg "_law_step" = some (.ref fe))
    (GZ : FnOk P w K mg base CX0 1 fz fdz ["_law_kind"] (spSize K)) (bZ : Binds K fdz ["_law_kind"] []) (kZ : PySem.W.keepIn K (.ref fz) = true) (mZ : mg "_law_size" = some (.ref fz)) (mr : mg "range" = none) (ml : mg "len" = none)
    {cdv : Value} {A : Around} {outer : List Env} {s : Shared} {H : Hp} {E : XK} (hr : Room 46 (A.deeper (PyProof.Rows.envOfC "law" (defScope sLaw) s.heap.objs.size f cdv))) :
    ∃ t_, PS (cxOf CX0 P w K mg base lawN "law" (defScope sLaw) f cdv A outer s H E).nox ((defBody sLaw).getD 7 (.Pass ⟨0, 0, 0, 0⟩)) t_ ∧
      ∀ (D : Ends) (B : Hp) (a0 a1 a6 a9 a10 a11 : Option V) (kd fl fa l r c : Addr) (m1 : List (Str × Kd)) (m2 : List (Str × (List Kd × Kd))) (us : List (Str × Kd)) (kvs fvs : List (Key × V)) (xs xr xc : List V), Wd K CF B kd fl fa l m1 m2 us kvs fvs xs →
        B r = some (.lst xr) → RowsAt K B xr (m1.map rowK) → B c = some (.lst xc) → RowsAt K B xc (m2.map rowF) →
        (∀ (H' : Hp) (b6 b7 b8 b9 b10 b11 : Option V), Same B H' → D.nx [a0, a1, some (.ref kd), some (.ref fl), some (.ref fa), some (.ref l), b6, b7, b8, b9, b10, b11] H') → (∀ H', D.rt (.bl true) H') →
        t_ D [a0, a1, some (.ref kd), some (.ref fl), some (.ref fa), some (.ref l), a6, some (.ref r), some (.ref c), a9, a10, a11] B := by
  have hu := hr.units
  obtain ⟨t3, e3, k3⟩ := law_b3 (outer := outer) (H := H) (E := E) GS bS kS mS mt mm cF nK nF GE bE kE mE GZ bZ kZ mZ hr
  refine ⟨_, ps_for PassesOwn.never rfl (pi_range1 (by rfl) mr (pa_cons (pe_op op_add (pe_callB call_len_seq (by rfl) ml PySem.boot_len (pa_cons (pv 5) pa_nil)) pe_int) pa_nil)) (pg_name (i := 9) scLaw.nd rfl (Or.inl rfl))
    (@pss_cons _ _ _ _ _ (ps_if (pt_cmpR (op_neD hu) (pe_call GS hr (by rfl) mS kS bS .nil pass0 (pa_cons (pv 4) (pa_cons (pe_callTy call_tuple_of (by rfl) mt bootTuple (pa_cons (pe_slice sl_list (pv 5) po_none (po_some (pv 9))) pa_nil)) pa_nil))) (pe_tup (pa_cons (pv 7) (pa_cons (pv 8) pa_nil))) (nomark _)) (pss_one (ps_ret pe_bl)) pss_nil)
    (pss_one (ps_if (pt_cmpR op_lt (pv 9) (pe_callB call_len_seq (by rfl) ml PySem.boot_len (pa_cons (pv 5) pa_nil)) (nomark _))
      (@pss_cons _ _ _ _ _ (ps_set (i := 6) scLaw.nd rfl (Or.inl rfl) (pe_ix ix_tup (pe_ix ix_list (pv 5) (pv 9) (fun _ _ => rfl)) pe_int (fun _ _ => rfl)))
      (@pss_cons _ _ _ _ _ (ps_set (i := 10) scLaw.nd rfl (Or.inl rfl) pe_str)
      (@pss_cons _ _ _ _ _ (ps_if (pt_cmpR (op_notInD hu) (pe_tup (pa_cons (pv 6) (pa_cons (pe_lst (pa_cons (pe_tup (pa_cons pe_str (pa_cons pe_str (pa_cons (pv 6) pa_nil)))) pa_nil)) pa_nil))) (pv 7) (by with_unfolding_all rfl)) (pss_one (ps_set (i := 10) scLaw.nd rfl (Or.inl rfl) pe_str)) pss_nil)
      @e3))) pss_nil))), ?_⟩
  intro D B a0 a1 a6 a9 a10 a11 kd fl fa l r c m1 m2 us kvs fvs xs xr xc hW hr0 hxr hc0 hxc qN qR
  have hxl : xs.length = us.length := Paired.length hW.wi
  have hu5 := hW.u5
  refine ⟨_, rfl, l, _, rfl, .inl (SqL.of hW.hl), _, _, rfl, rfl, _, rfl, by omega, by omega,
    for_range (fun i σ H3 => ∃ (r c : Addr) (xr xc : List V) (n1 : List (Str × Kd)) (n2 : List (Str × (List Kd × Kd))) (b6 b9 b10 b11 : Option V), σ = [a0, a1, some (.ref kd), some (.ref fl), some (.ref fa), some (.ref l), b6, some (.ref r), some (.ref c), b9, b10, b11] ∧ Same B H3 ∧ H3 r = some (.lst xr) ∧ RowsAt K H3 xr (n1.map rowK) ∧ H3 c = some (.lst xc) ∧ RowsAt K H3 xc (n2.map rowF) ∧ n1 ≠ [] ∧ rrun m1 m2 (us.take i) = .ok n1 n2)
    ⟨r, c, xr, xc, m1, m2, a6, a9, a10, a11, rfl, Same.refl _, hr0, hxr, hc0, hxc, hW.nz, rfl⟩ ?_ ?_⟩
  · rintro i σ H3 hi ⟨r, c, xr, xc, n1, n2, b6, b9, b10, b11, rfl, s3, hr3, hxr3, hc3, hxc3, hne, hrun⟩
    have hi' : i ≤ us.length := by omega
    have hG := rrun_good hW.gd (hW.wg.take i) hrun
    have eSl : cutV xs none (some (0 + (i : Int))) = xs.take i := by
      rw [Int.zero_add]
      exact cut_to (by omega)
    have hW3 := hW.same s3
    refine ⟨_, rfl, _, rfl, _, rfl, _, rfl, l, _, rfl, SqL.of hW3.hl, fun p1 hp1 => ?_⟩
    have s1 := same_new hp1 (.lst (cutV xs none (some (0 + (i : Int)))))
    refine ⟨p1, _, rfl, .inl ⟨SqL.of upd_same, fun tw htw => ?_⟩⟩
    have s2 := same_new htw (.tup (cutV xs none (some (0 + (i : Int)))))
    have s12 := s1.trans s2
    have hW4 := hW3.same s12
    have hxT : WithsAt K (upd (upd H3 p1 (.lst (cutV xs none (some (0 + (i : Int)))))) tw (.tup (cutV xs none (some (0 + (i : Int)))))) (cutV xs none (some (0 + (i : Int)))) (us.take i) := by
      have z : WithsAt K _ (xs.take i) (us.take i) := paired_take i hW4.wi
      rw [← eSl] at z
      exact z
    refine ⟨fa, tw, m1, m2, _, us.take i, rfl, hW4.face, hW.gd, SqT.of upd_same, hxT, hW.wg.take _, fun n1' n2' hrun' H5 p l1 l2 xs1 xs2 s5 hp h1 h2 r1 r2 => ?_, (fun hrun' => absurd (hrun.symm.trans hrun') (by intro z; cases z)), (fun hrun' => absurd (hrun.symm.trans hrun') (by intro z; cases z))⟩
    rw [hrun] at hrun'
    injection hrun' with en1 en2
    subst en1 en2
    refine ⟨_, rfl, _, rfl, (by show 2 ≤ sizeLine; decide), fun p6 hp6 => ?_⟩
    have s6 := same_new hp6 (.tup [.ref r, .ref c])
    have sX := s12.trans (s5.trans s6)
    have hsh := pair_shaped hG.rows.1 hG.rows.2
    refine ⟨_, _, pair_dat (s6 _ _ hp) (s6 _ _ h1) (s6 _ _ h2) (r1.same s6) (r2.same s6), pair_dat upd_same (sX _ _ hr3) (sX _ _ hc3) (hxr3.same sX) (hxc3.same sX), hsh, hsh, _, rfl, ite2 (fun cc => ?_) (fun _ => ?_)⟩
    · have cc' : (!PyData.eqv (PairD (n1.map rowK) (n2.map rowF)) (PairD (n1.map rowK) (n2.map rowF))) = true := cc
      rw [pair_eqv] at cc'
      cases cc'
    have hW6 := hW3.same sX
    refine ⟨_, rfl, _, rfl, l, _, rfl, .inl (SqL.of hW6.hl), _, _, rfl, rfl, _, rfl, ite2 (fun cc => ?_) (fun cc => ?_)⟩
    · have hil : i < us.length := by
        have cc' : (0 : Int) + (i : Int) < (xs.length : Int) := of_decide_eq_true cc
        omega
      obtain ⟨⟨t, g⟩, hui⟩ : ∃ q, us[i]? = some q := ⟨_, List.getElem?_eq_getElem hil⟩
      obtain ⟨x, hx, px, y, rfl, hpx, hy⟩ := pair_get' hW6.wi hui
      replace hpx : SqT K _ px [.str t, y] := hpx
      have hat : atI xs (0 + (i : Int)) = some (.ref px) := at_nat0 hx
      obtain ⟨ot, _, _⟩ := hW.wg (t, g) (List.mem_of_getElem? hui)
      replace ot : okW t := ot
      refine ⟨_, rfl, _, rfl, l, _, _, _, rfl, rfl, SqL.of hW6.hl, hat, px, _, _, _, rfl, rfl, hpx, (show atI [V.str t, y] 0 = some (.str t) from rfl), ?_⟩
      refine ⟨_, rfl, _, rfl, (by show 3 ≤ sizeLine; decide), fun q1 hq1 => ⟨(by show 1 ≤ sizeLine; decide), fun q2 hq2 => ⟨(by show 2 ≤ sizeLine; decide), fun q3 hq3 => ?_⟩⟩⟩
      have z1 := same_new hq1 (.tup [.str "name", .str "", .str t])
      have z2 := same_new hq2 (.lst [.ref q1])
      have z3 := same_new hq3 (.tup [.str t, .ref q2])
      have zA := z1.trans (z2.trans z3)
      have sY := sX.trans zA
      have hrow : RowAt K _ (.ref q3) (t, [ownK t]) := ⟨q3, q2, [.ref q1], rfl, upd_same, z3 _ _ upd_same, one (.name ((z2.trans z3).tup (SqT.of upd_same)))⟩
      have hown : ∀ k ∈ [ownK t], GoodK k := fun k hk => by
        rw [List.mem_singleton.mp hk]
        exact ⟨⟨ok_empty, ot⟩, by show 1 ≤ 40; decide⟩
      have hW7 := hW3.same sY
      have nxt : ∀ (H' : Hp) (r' c' : Addr) (xr' xc' : List V) (b11 : Option V), Same (upd (upd (upd (upd H5 p6 (.tup [.ref r, .ref c])) q1 (.tup [.str "name", .str "", .str t])) q2 (.lst [.ref q1])) q3 (.tup [.str t, .ref q2])) H' → H' r' = some (.lst xr') → H' c' = some (.lst xc') → RowsAt K H' xr' ((n1.map (putP (stepP t g))).map rowK) → RowsAt K H' xc' ((n2.map (putQ (stepP t g))).map rowF) → rrun m1 m2 (us.take (i + 1)) = .ok (n1.map (putP (stepP t g))) (n2.map (putQ (stepP t g))) →
          ∃ (r c : Addr) (xr xc : List V) (n1 : List (Str × Kd)) (n2 : List (Str × (List Kd × Kd))) (b6 b9 b10 b11' : Option V), ([a0, a1, some (.ref kd), some (.ref fl), some (.ref fa), some (.ref l), some (.str t), some (.ref r'), some (.ref c'), some (.int (0 + (i : Int))), some (.str "told"), b11] : St) = [a0, a1, some (.ref kd), some (.ref fl), some (.ref fa), some (.ref l), b6, some (.ref r), some (.ref c), b9, b10, b11'] ∧ Same B H' ∧ H' r = some (.lst xr) ∧ RowsAt K H' xr (n1.map rowK) ∧ H' c = some (.lst xc) ∧ RowsAt K H' xc (n2.map rowF) ∧ n1 ≠ [] ∧ rrun m1 m2 (us.take (i + 1)) = .ok n1 n2 := by
        intro H' r' c' xr' xc' b11 s' hr' hc' hxr' hxc' hrun'
        exact ⟨r', c', xr', xc', _, _, _, _, _, _, rfl, s3.trans (sY.trans s'), hr', hxr', hc', hxc', fun z => hne (List.map_eq_nil_iff.mp z), hrun'⟩
      refine ⟨_, rfl, r, xr, _, _, rfl, SqL.of (sY _ _ hr3), rows_dats (hxr3.same sY), row_dat hrow, layA (fun d hd => by obtain ⟨q, hq, rfl⟩ := List.mem_map.mp hd; exact lay_row (hG.rows.1 q hq).1 (hG.rows.1 q hq).2.2), lay_row ot hown, Nat.le_trans (deep_row hown) (by decide), _, rfl, ite2 (fun cn => ?_) (fun cn => ?_)⟩
      · have cn' : (!(((n1.map rowK).map RowD).any fun e => PyData.eqv e (RowD (t, [ownK t])))) = true := cn
        rw [own_in] at cn'
        have hn : t ∉ hidL n1 := by simpa using cn'
        exact k3 _ _ a0 a1 _ kd fl fa l r c m1 m2 us kvs fvs xs xr xc i "no" t g n1 n2 hW7 hui (sY _ _ hr3) (hxr3.same sY) (sY _ _ hc3) (hxc3.same sY) hG hne hrun (.inr ⟨rfl, hn⟩) nxt qR
      · have cn' : ¬ (!(((n1.map rowK).map RowD).any fun e => PyData.eqv e (RowD (t, [ownK t])))) = true := cn
        rw [own_in] at cn'
        have hn : t ∈ hidL n1 := by simpa using cn'
        exact k3 _ _ a0 a1 _ kd fl fa l r c m1 m2 us kvs fvs xs xr xc i "told" t g n1 n2 hW7 hui (sY _ _ hr3) (hxr3.same sY) (sY _ _ hc3) (hxc3.same sY) hG hne hrun (.inl ⟨rfl, hn⟩) nxt qR
    · have hil : us.length ≤ i := by
        have cc' : ¬ (0 : Int) + (i : Int) < (xs.length : Int) := of_decide_eq_false (Bool.eq_false_iff.mpr cc)
        omega
      refine ⟨r, c, xr, xc, n1, n2, _, _, _, _, rfl, s3.trans sX, sX _ _ hr3, hxr3.same sX, sX _ _ hc3, hxc3.same sX, hne, ?_⟩
      rw [List.take_of_length_le (by omega)]
      rw [List.take_of_length_le hil] at hrun
      exact hrun
  · rintro σ H3 ⟨r, c, xr, xc, n1, n2, b6, b9, b10, b11, rfl, s3, _⟩
    exact qN H3 _ _ _ _ _ _ s3
end
end K25

namespace K25
open PySem L2 Kk
/-! the law -/
def spLaw (K : PySem.W.Frag) : Sp := fun vs H Q _ => ∃ (a : Addr) (ns : List Int), vs = [.ref a] ∧ SqL K H a (ns.map V.int) ∧ ns.length ≤ 63 ∧ ∀ H', Q (.bl true) H'
section
variable {P : Program} {w : World} {K : PySem.W.Frag} {mg : Str → Option Value} {base : Heap}
set_option maxHeartbeats 0 in
theorem ok_law {f fc fl' fk fu fi fw fs fe fz CF : Addr} {fd fdc fdl fdk fdu fdi fdw fds fde fdz : FuncData} (F : Fun K "law" "law" sLaw f fd)
    (GC : FnOk P w K mg base CX0 1 fc fdc ["_law_script", "_law_k"] (spCell K)) (bC : Binds K fdc ["_law_script", "_law_k"] []) (kC : PySem.W.keepIn K (.ref fc) = true) (mC : mg "_law_cell" = some (.ref fc))
    (GL : FnOk P w K mg base CX0 2 fl' fdl ["_law_script", "_law_start", "_law_many"] (spWordsL K)) (bL : Binds K fdl ["_law_script", "_law_start", "_law_many"] []) (kL : PySem.W.keepIn K (.ref fl') = true) (mL : mg "_law_words" = some (.ref fl'))
    (GK : FnOk P w K mg base CX0 2 fk fdk ["_law_script", "_law_words_here"] (spKinds K)) (bK : Binds K fdk ["_law_script", "_law_words_here"] []) (kK : PySem.W.keepIn K (.ref fk) = true) (mK : mg "_law_kinds" = some (.ref fk))
    (GU : FnOk P w K mg base CX0 3 fu fdu ["_law_script", "_law_words_here", "_law_kinds_here"] (spFuns K)) (bU : Binds K fdu ["_law_script", "_law_words_here", "_law_kinds_here"] []) (kU : PySem.W.keepIn K (.ref fu) = true) (mU : mg "_law_funs" = some (.ref fu))
    (GI : FnOk P w K mg base CX0 1 fi fdi ["self", "kinds", "funs"] (spInitF CF)) (bI : Binds K fdi ["self", "kinds", "funs"] []) (MF : Mk K CF fi) (mF : mg "Face" = some (.ref CF))
    (GW : FnOk P w K mg base CX0 2 fw fdw ["_law_script", "_law_words_here"] (spWiths K)) (bW : Binds K fdw ["_law_script", "_law_words_here"] []) (kW : PySem.W.keepIn K (.ref fw) = true) (mW : mg "_law_withs" = some (.ref fw))
    (GS : FnOk P w K mg base CX0 46 fs fds ["_law_face", "_law_withs_here"] (spSaid K CF)) (bS : Binds K fds ["_law_face", "_law_withs_here"] []) (kS : PySem.W.keepIn K (.ref fs) = true) (mS : mg "_law_said" = some (.ref fs))
    (GE : FnOk P w K mg base CX0 41 fe fde ["_law_rows", "_law_t", "_law_given"] (spStep K)) (bE : Binds K fde ["_law_rows", "_law_t", "_law_given"] []) (kE : PySem.W.keepIn K (.ref fe) = true) (mE : mg "_law_step" = some (.ref fe))
    (GZ : FnOk P w K mg base CX0 1 fz fdz ["_law_kind"] (spSize K)) (bZ : Binds K fdz ["_law_kind"] []) (kZ : PySem.W.keepIn K (.ref fz) = true) (mZ : mg "_law_size" = some (.ref fz))
    (cF : Cls K CF) (nK : NoAttr K CF "kinds") (nF : NoAttr K CF "funs") (mli : mg "list" = none) (mt : mg "tuple" = none) (mm : mg "max" = none) (mr : mg "range" = none) (ml : mg "len" = none) :
    FnOk P w K mg base CX0 47 f fd ["_law_script"] (spLaw K) := by
  refine F.ok scLaw (fun vs H Q E h => ?_) (fun cdv A outer s H vs Q E hr h => ?_)
  · obtain ⟨a, ns, rfl, _⟩ := h
    rfl
  obtain ⟨a, ns, rfl, hS, h63, q⟩ := h
  have hr1 : Room 1 _ := hr.mono (by decide)
  have hr2 : Room 2 _ := hr.mono (by decide)
  have hr2' : Room (1 + 1) _ := hr.mono (by decide)
  have hr3 : Room 3 _ := hr.mono (by decide)
  obtain ⟨t7, e7, k7⟩ := law_7 (outer := outer) (H := H) (E := E) GS bS kS mS mt mm cF nK nF GE bE kE mE GZ bZ kZ mZ mr ml hr
  obtain ⟨t8, e8, k8⟩ := law_8 (P := P) (w := w) (mg := mg) (base := base) (f := f) (outer := outer) (H := H) (E := E) cF nK nF mli hr
  refine ⟨_, (@pss_cons _ _ _ _ _ (ps_set (i := 1) scLaw.nd rfl (Or.inl rfl) (pe_call GL hr2 (by rfl) mL kL bL .nil pass0 (pa_cons (pv 0) (pa_cons pe_int (pa_cons (pe_op op_add pe_int (pe_op op_mod (pe_call GC hr1 (by rfl) mC kC bC .nil pass0 (pa_cons (pv 0) (pa_cons pe_int pa_nil))) pe_int)) pa_nil)))))
    (@pss_cons _ _ _ _ _ (ps_set (i := 2) scLaw.nd rfl (Or.inl rfl) (pe_call GK hr2 (by rfl) mK kK bK .nil pass0 (pa_cons (pv 0) (pa_cons (pv 1) pa_nil))))
    (@pss_cons _ _ _ _ _ (ps_set (i := 3) scLaw.nd rfl (Or.inl rfl) (pe_call GU hr3 (by rfl) mU kU bU .nil pass0 (pa_cons (pv 0) (pa_cons (pv 1) (pa_cons (pv 2) pa_nil)))))
    (@pss_cons _ _ _ _ _ (ps_set (i := 4) scLaw.nd rfl (Or.inl rfl) (pe_make MF GI hr2' (by rfl) mF bI .nil pass0 (pa_cons (pv 2) (pa_cons (pv 3) pa_nil))))
    (@pss_cons _ _ _ _ _ (ps_set (i := 5) scLaw.nd rfl (Or.inl rfl) (pe_call GW hr2 (by rfl) mW kW bW .nil pass0 (pa_cons (pv 0) (pa_cons (pv 1) pa_nil))))
    (@pss_cons _ _ _ _ _ (ps_thaw (ps_comp (i0 := 7) (own := ["_law_t", "_law_kind"]) (caps := []) (κ := []) scLaw.nd rfl (Or.inl rfl) rfl ⟨rfl, by decide +kernel, by decide +kernel, rfl, rfl, (fun y hy => nomatch hy), (fun y hy => nomatch hy)⟩ rfl
      (pi_items (pv 2)) (fun _ _ _ _ => pg_two (K := K) (i := 0) (j := 1) rfl rfl (show (["_law_t", "_law_kind"] : List Str).Nodup from by decide +kernel) rfl (Or.inl rfl) (Or.inr rfl) rfl (Or.inl rfl) (Or.inr rfl))
      (fun _ _ _ _ => pe_tup (pa_cons (pv 0) (pa_cons (pe_lst (pa_cons (pv 1) pa_nil)) pa_nil)))))
    (@pss_cons _ _ _ _ _ (ps_thaw (ps_comp (i0 := 8) (own := ["_law_f", "_law_told"]) (caps := []) (κ := []) scLaw.nd rfl (Or.inl rfl) rfl ⟨rfl, by decide +kernel, by decide +kernel, rfl, rfl, (fun y hy => nomatch hy), (fun y hy => nomatch hy)⟩ rfl
      (pi_items (pv 3)) (fun _ _ _ _ => pg_two (K := K) (i := 0) (j := 1) rfl rfl (show (["_law_f", "_law_told"] : List Str).Nodup from by decide +kernel) rfl (Or.inl rfl) (Or.inr rfl) rfl (Or.inl rfl) (Or.inr rfl))
      (fun _ _ _ _ => pe_tup (pa_cons (pv 0) (pa_cons (pe_op op_cat (pe_callTy (listK (K := K) rfl) (by rfl) mli bootList (pa_cons (pe_ix (ixTK (K := K) rfl) (pv 1) pe_int (fun _ _ => rfl)) pa_nil)) (pe_lst (pa_cons (pe_ix (ixTK (K := K) rfl) (pv 1) pe_int (fun _ _ => rfl)) pa_nil))) pa_nil)))))
    (@pss_cons _ _ _ _ _ @e7 @e8))))))) : PSs (cxOf CX0 P w K mg base lawN "law" (defScope sLaw) f cdv A outer s H E).nox (defBody sLaw) _), ?_⟩
  refine ⟨_, rfl, _, rfl, a, ns, _, rfl, hS, h63, by decide, by decide, fun c0 => ?_⟩
  have r0 := Int.emod_nonneg c0 (show (5 : Int) ≠ 0 by decide)
  have r1 := Int.emod_lt_of_pos c0 (show (0 : Int) < 5 by decide)
  refine ⟨_, _, rfl, rfl, (by show (0 : Int) < 5; decide), _, _, rfl, rfl, a, ns, _, _, rfl, hS, h63, by decide, by decide, by omega, by omega, fun H1 wl ws s1 nwl hwl hwlen hwnd hwok => ?_⟩
  have hw2 : 2 ≤ ws.length := by omega
  have hw6 : ws.length ≤ 6 := by omega
  refine ⟨_, rfl, _, rfl, a, wl, ns, ws, rfl, sql_same s1 hS, h63, hwl, hw6, hwnd, hwok, fun H2 kd kvs m1 s2 nkd hkd hpk hmk hmo => ?_⟩
  have sA := s1.trans s2
  refine ⟨_, rfl, _, rfl, _, rfl, a, wl, kd, ns, ws, kvs, m1, rfl, sql_same sA hS, h63, s2 _ _ hwl, by omega, hw6, hwnd, hkd, hpk, hmk, hmo, fun H3 fl fvs m2 s3 nfl hfl hpf hnd2 hm2l hfo => ?_⟩
  have sB := sA.trans s3
  refine ⟨_, rfl, _, rfl, fun x dx' nx ndx nex => ?_⟩
  have ea := same_new ndx (.own x)
  have nx' : upd H3 dx' (.own x) x = none := by rw [upd_ne (Ne.symm nex)]; exact nx
  have eab := ea.trans (same_new nx' (.ins CF dx' []))
  refine ⟨x, dx', kd, fl, kvs, fvs, rfl, upd_same, eab _ _ (s3 _ _ hkd), eab _ _ hfl, fun d e fs' H7 hd he nde hx lk lf lh lp hd7 he7 keep => ⟨rfl, ?_⟩⟩
  have s7 : Same H3 H7 := fun b o hb => keep b o (eab _ _ hb) (fun z => by rw [z, nx] at hb; cases hb)
  have sC := sB.trans s7
  refine ⟨_, rfl, _, rfl, a, wl, ns, ws, rfl, sql_same sC hS, h63, s7 _ _ (s3 _ _ (s2 _ _ hwl)), by omega, hwok, fun H8 l xs us s8 nl hl hxs hu5 hwg => ?_⟩
  have s78 := s7.trans s8
  have s38 := s3.trans s78
  have gd : Good m1 m2 := {
    nd1 := by rw [hmk]; exact hwnd
    nd2 := hnd2
    l1 := by
      have z := congrArg List.length hmk
      rw [List.length_map] at z
      omega
    l2 := by omega
    k1 := fun q hq => ⟨hwok q.1 (by rw [← hmk]; exact List.mem_map_of_mem hq), (hmo q hq).1, Nat.le_trans (hmo q hq).2 (by decide)⟩
    k2 := fun q hq => by
      obtain ⟨o1, o2, o3, o4⟩ := hfo q hq
      exact ⟨o1, fun k hk => ⟨(o2 k hk).1, Nat.le_trans (o2 k hk).2 (by decide)⟩, ⟨o3.1, Nat.le_trans o3.2 (by decide)⟩, Nat.le_trans o4 (by decide)⟩ }
  have hnz : m1 ≠ [] := fun z => by
    have y := congrArg List.length hmk
    rw [z] at y
    have y' : 0 = ws.length := y
    omega
  have hWd : Wd K CF H8 kd fl x l m1 m2 us kvs fvs xs := {
    hk := s38 _ _ hkd
    pk := hpk.imp fun v y h => h.same s38
    hf := s78 _ _ hfl
    pf := hpf.imp fun v y h => h.keep fun b zs t => s78.tup t
    fc := ⟨dx', d, e, fs', s8 _ _ hx, lk, lf, s8 _ _ hd7, s8 _ _ he7, lh, lp⟩
    hl := hl
    wi := hxs
    gd := gd
    wg := hwg
    nz := hnz
    u5 := hu5 }
  refine ⟨_, rfl, kd, kvs, rfl, hWd.hk, fun o => ?_⟩
  refine rows_run (K := K) (H₀ := H) (m1 := m1) hWd.hk hWd.pk gd.l1 (nofz (s1.free nkd)) fun H9 rr xr s9 nrr hrr hrows => ?_
  have hWd9 := hWd.same s9
  refine ⟨_, rfl, fl, fvs, rfl, hWd9.hf, fun o2 => ?_⟩
  refine calls_run (K := K) (H₀ := H) (m2 := m2) hWd9.hf hWd9.pf gd.l2 (fun q hq => (gd.k2 q hq).2.2.2) (nofz (sA.free nfl)) fun H10 cc xc s10 ncc hcc hcalls => ?_
  have hWdA := hWd9.same s10
  refine k7 _ H10 _ _ _ _ _ _ kd fl x l rr cc m1 m2 us kvs fvs xs xr xc hWdA (s10 _ _ hrr) (hrows.same s10) hcc hcalls (fun H11 b6 b7 b8 b9 b10 b11 s11 => ?_) fun H' => q H'
  exact k8 _ H11 _ _ _ _ _ _ _ _ _ kd fl x l m1 m2 us kvs fvs xs (hWdA.same s11) fun H' => q H'
end
end K25

namespace K25
open PySem L2 Kk
set_option maxHeartbeats 0 in
theorem all_mk {l : PySem.W.OpenLaw} {w : World} {K : PySem.W.Frag} {h : Heap} {mg : Str → Option Value} {fa f1 f2 f3 f4 f5 f6 f7 f8 f9 f10 f11 f12 f13 f14 f15 f16 f17 f18 f19 : Addr} (X : K.In h) (G : h.Ns mainGlobals mg) (hfa : mg "law" = some (.ref fa))
    {od1 an1 od2 an2 od3 an3 od4 an4 od5 an5 od6 an6 od7 an7 od8 an8 od9 an9 od10 an10 od11 an11 od12 an12 od13 an13 od14 an14 od15 an15 od16 an16 od17 an17 od18 an18 od19 an19 : Option Addr} {sl1 sl2 sl3 sl4 sl5 sl6 sl7 sl8 sl9 sl10 sl11 sl12 sl13 sl14 sl15 sl16 sl17 sl18 sl19 : Array (Option Value)} {oc1 kV1 dc1 pm1 cd1 ct1 oc2 kV2 dc2 pm2 cd2 ct2 oc3 kV3 dc3 pm3 cd3 ct3 oc4 kV4 dc4 pm4 cd4 ct4 oc5 kV5 dc5 pm5 cd5 ct5 oc6 kV6 dc6 pm6 cd6 ct6 oc7 kV7 dc7 pm7 cd7 ct7 oc8 kV8 dc8 pm8 cd8 ct8 oc9 kV9 dc9 pm9 cd9 ct9 oc10 kV10 dc10 pm10 cd10 ct10 oc11 kV11 dc11 pm11 cd11 ct11 oc12 kV12 dc12 pm12 cd12 ct12 oc13 kV13 dc13 pm13 cd13 ct13 oc14 kV14 dc14 pm14 cd14 ct14 oc15 kV15 dc15 pm15 cd15 ct15 oc16 kV16 dc16 pm16 cd16 ct16 oc17 kV17 dc17 pm17 cd17 ct17 oc18 kV18 dc18 pm18 cd18 ct18 oc19 kV19 dc19 pm19 cd19 ct19 : Value}
    {CF CN CT CR T fm fi fh : Addr} {odm anm odi ani odh anh dT : Option Addr} {slm sli slh sT : Array (Option Value)} {ocm kVm dcm pmm cdm ctm oci kVi dci pmi cdi cti och kVh dch pmh cdh cth oT : Value} {nT : Nat} {tk : Tok}
    (a1 : PySem.W.nsIn K mainGlobals "words_in" = some (some (.ref f1))) (l1 : K.lookup f1 = some ⟨oc1, od1, .func (PySem.W.fnOf "words_in" "words_in" (defArgs sWords) (defBody sWords) (defScope sWords) .none kV1 dc1 pm1 an1 cd1 ct1), sl1⟩) (c1 : PySem.W.codeIn K cd1 "words_in" = true) (k1 : PySem.W.keepIn K (.ref f1) = true)
    (a2 : PySem.W.nsIn K mainGlobals "put" = some (some (.ref f2))) (l2 : K.lookup f2 = some ⟨oc2, od2, .func (PySem.W.fnOf "put" "put" (defArgs sPut) (defBody sPut) (defScope sPut) .none kV2 dc2 pm2 an2 cd2 ct2), sl2⟩) (c2 : PySem.W.codeIn K cd2 "put" = true) (k2 : PySem.W.keepIn K (.ref f2) = true)
    (a3 : PySem.W.nsIn K mainGlobals "bounded" = some (some (.ref f3))) (l3 : K.lookup f3 = some ⟨oc3, od3, .func (PySem.W.fnOf "bounded" "bounded" (defArgs sBounded) (defBody sBounded) (defScope sBounded) .none kV3 dc3 pm3 an3 cd3 ct3), sl3⟩) (c3 : PySem.W.codeIn K cd3 "bounded" = true) (k3 : PySem.W.keepIn K (.ref f3) = true)
    (a4 : PySem.W.nsIn K mainGlobals "own_name" = some (some (.ref f4))) (l4 : K.lookup f4 = some ⟨oc4, od4, .func (PySem.W.fnOf "own_name" "own_name" (defArgs sOwn) (defBody sOwn) (defScope sOwn) .none kV4 dc4 pm4 an4 cd4 ct4), sl4⟩) (c4 : PySem.W.codeIn K cd4 "own_name" = true) (k4 : PySem.W.keepIn K (.ref f4) = true)
    (a5 : PySem.W.nsIn K mainGlobals "put_in_face" = some (some (.ref f5))) (l5 : K.lookup f5 = some ⟨oc5, od5, .func (PySem.W.fnOf "put_in_face" "put_in_face" (defArgs sPutFace) (defBody sPutFace) (defScope sPutFace) .none kV5 dc5 pm5 an5 cd5 ct5), sl5⟩) (c5 : PySem.W.codeIn K cd5 "put_in_face" = true) (k5 : PySem.W.keepIn K (.ref f5) = true)
    (a6 : PySem.W.nsIn K mainGlobals "put_in_fun" = some (some (.ref f6))) (l6 : K.lookup f6 = some ⟨oc6, od6, .func (PySem.W.fnOf "put_in_fun" "put_in_fun" (defArgs sPutFun) (defBody sPutFun) (defScope sPutFun) .none kV6 dc6 pm6 an6 cd6 ct6), sl6⟩) (c6 : PySem.W.codeIn K cd6 "put_in_fun" = true) (k6 : PySem.W.keepIn K (.ref f6) = true)
    (a7 : PySem.W.nsIn K mainGlobals "refined" = some (some (.ref f7))) (l7 : K.lookup f7 = some ⟨oc7, od7, .func (PySem.W.fnOf "refined" "refined" (defArgs sRefined) (defBody sRefined) (defScope sRefined) .none kV7 dc7 pm7 an7 cd7 ct7), sl7⟩) (c7 : PySem.W.codeIn K cd7 "refined" = true) (k7 : PySem.W.keepIn K (.ref f7) = true)
    (a8 : PySem.W.nsIn K mainGlobals "_law_cell" = some (some (.ref f8))) (l8 : K.lookup f8 = some ⟨oc8, od8, .func (PySem.W.fnOf "_law_cell" "_law_cell" (defArgs sCell) (defBody sCell) (defScope sCell) .none kV8 dc8 pm8 an8 cd8 ct8), sl8⟩) (c8 : PySem.W.codeIn K cd8 "_law_cell" = true) (k8 : PySem.W.keepIn K (.ref f8) = true)
    (a9 : PySem.W.nsIn K mainGlobals "_law_word" = some (some (.ref f9))) (l9 : K.lookup f9 = some ⟨oc9, od9, .func (PySem.W.fnOf "_law_word" "_law_word" (defArgs sWord) (defBody sWord) (defScope sWord) .none kV9 dc9 pm9 an9 cd9 ct9), sl9⟩) (c9 : PySem.W.codeIn K cd9 "_law_word" = true) (k9 : PySem.W.keepIn K (.ref f9) = true)
    (a10 : PySem.W.nsIn K mainGlobals "_law_tree" = some (some (.ref f10))) (l10 : K.lookup f10 = some ⟨oc10, od10, .func (PySem.W.fnOf "_law_tree" "_law_tree" (defArgs sTree) (defBody sTree) (defScope sTree) .none kV10 dc10 pm10 an10 cd10 ct10), sl10⟩) (c10 : PySem.W.codeIn K cd10 "_law_tree" = true) (k10 : PySem.W.keepIn K (.ref f10) = true)
    (a11 : PySem.W.nsIn K mainGlobals "_law_words" = some (some (.ref f11))) (l11 : K.lookup f11 = some ⟨oc11, od11, .func (PySem.W.fnOf "_law_words" "_law_words" (defArgs sWordsL) (defBody sWordsL) (defScope sWordsL) .none kV11 dc11 pm11 an11 cd11 ct11), sl11⟩) (c11 : PySem.W.codeIn K cd11 "_law_words" = true) (k11 : PySem.W.keepIn K (.ref f11) = true)
    (a12 : PySem.W.nsIn K mainGlobals "_law_put" = some (some (.ref f12))) (l12 : K.lookup f12 = some ⟨oc12, od12, .func (PySem.W.fnOf "_law_put" "_law_put" (defArgs sPutL) (defBody sPutL) (defScope sPutL) .none kV12 dc12 pm12 an12 cd12 ct12), sl12⟩) (c12 : PySem.W.codeIn K cd12 "_law_put" = true) (k12 : PySem.W.keepIn K (.ref f12) = true)
    (a13 : PySem.W.nsIn K mainGlobals "_law_size" = some (some (.ref f13))) (l13 : K.lookup f13 = some ⟨oc13, od13, .func (PySem.W.fnOf "_law_size" "_law_size" (defArgs sSize) (defBody sSize) (defScope sSize) .none kV13 dc13 pm13 an13 cd13 ct13), sl13⟩) (c13 : PySem.W.codeIn K cd13 "_law_size" = true) (k13 : PySem.W.keepIn K (.ref f13) = true)
    (a14 : PySem.W.nsIn K mainGlobals "_law_kinds" = some (some (.ref f14))) (l14 : K.lookup f14 = some ⟨oc14, od14, .func (PySem.W.fnOf "_law_kinds" "_law_kinds" (defArgs sKinds) (defBody sKinds) (defScope sKinds) .none kV14 dc14 pm14 an14 cd14 ct14), sl14⟩) (c14 : PySem.W.codeIn K cd14 "_law_kinds" = true) (k14 : PySem.W.keepIn K (.ref f14) = true)
    (a15 : PySem.W.nsIn K mainGlobals "_law_funs" = some (some (.ref f15))) (l15 : K.lookup f15 = some ⟨oc15, od15, .func (PySem.W.fnOf "_law_funs" "_law_funs" (defArgs sFuns) (defBody sFuns) (defScope sFuns) .none kV15 dc15 pm15 an15 cd15 ct15), sl15⟩) (c15 : PySem.W.codeIn K cd15 "_law_funs" = true) (k15 : PySem.W.keepIn K (.ref f15) = true)
    (a16 : PySem.W.nsIn K mainGlobals "_law_withs" = some (some (.ref f16))) (l16 : K.lookup f16 = some ⟨oc16, od16, .func (PySem.W.fnOf "_law_withs" "_law_withs" (defArgs sWiths) (defBody sWiths) (defScope sWiths) .none kV16 dc16 pm16 an16 cd16 ct16), sl16⟩) (c16 : PySem.W.codeIn K cd16 "_law_withs" = true) (k16 : PySem.W.keepIn K (.ref f16) = true)
    (a17 : PySem.W.nsIn K mainGlobals "_law_step" = some (some (.ref f17))) (l17 : K.lookup f17 = some ⟨oc17, od17, .func (PySem.W.fnOf "_law_step" "_law_step" (defArgs sStep) (defBody sStep) (defScope sStep) .none kV17 dc17 pm17 an17 cd17 ct17), sl17⟩) (c17 : PySem.W.codeIn K cd17 "_law_step" = true) (k17 : PySem.W.keepIn K (.ref f17) = true)
    (a18 : PySem.W.nsIn K mainGlobals "_law_said" = some (some (.ref f18))) (l18 : K.lookup f18 = some ⟨oc18, od18, .func (PySem.W.fnOf "_law_said" "_law_said" (defArgs sSaid) (defBody sSaid) (defScope sSaid) .none kV18 dc18 pm18 an18 cd18 ct18), sl18⟩) (c18 : PySem.W.codeIn K cd18 "_law_said" = true) (k18 : PySem.W.keepIn K (.ref f18) = true)
    (a19 : PySem.W.nsIn K mainGlobals "law" = some (some (.ref f19))) (l19 : K.lookup f19 = some ⟨oc19, od19, .func (PySem.W.fnOf "law" "law" (defArgs sLaw) (defBody sLaw) (defScope sLaw) .none kV19 dc19 pm19 an19 cd19 ct19), sl19⟩) (c19 : PySem.W.codeIn K cd19 "law" = true) (k19 : PySem.W.keepIn K (.ref f19) = true)
    (aF : PySem.W.nsIn K mainGlobals "Face" = some (some (.ref CF)))
    (aN : PySem.W.nsIn K mainGlobals "NoKind" = some (some (.ref CN)))
    (aT : PySem.W.nsIn K mainGlobals "TooBig" = some (some (.ref CT)))
    (aR : PySem.W.nsIn K mainGlobals "Refused" = some (some (.ref CR)))
    (im : PySem.W.findIn K (.ref CF) "put" = some (some (.ref fm)))
    (lm : K.lookup fm = some ⟨ocm, odm, .func (PySem.W.fnOf "put" "Face.put" (defArgs sPutM) (defBody sPutM) (defScope sPutM) (.ref T) kVm dcm pmm anm cdm ctm), slm⟩)
    (cm : PySem.W.codeIn K cdm "Face.put" = true)
    (km : PySem.W.keepIn K (.ref fm) = true)
    (tm : PySem.W.isFn K (.ref fm) = true)
    (lT : K.lookup T = some ⟨oT, dT, .seq #[.int 40 tk] nT, sT⟩)
    (ih : PySem.W.findIn K (.ref CF) "hidden" = some (some (.ref fh)))
    (lh : K.lookup fh = some ⟨och, odh, .func (PySem.W.fnOf "hidden" "Face.hidden" (defArgs sHidden) (defBody sHidden) (defScope sHidden) .none kVh dch pmh anh cdh cth), slh⟩)
    (ch : PySem.W.codeIn K cdh "Face.hidden" = true)
    (kh : PySem.W.keepIn K (.ref fh) = true)
    (th : PySem.W.isFn K (.ref fh) = true)
    (iF : PySem.W.findIn K (.ref CF) "__init__" = some (some (.ref fi)))
    (li : K.lookup fi = some ⟨oci, odi, .func (PySem.W.fnOf "__init__" "Face.__init__" (defArgs sInit) (defBody sInit) (defScope sInit) .none kVi dci pmi ani cdi cti), sli⟩)
    (ci : PySem.W.codeIn K cdi "Face.__init__" = true)
    (ki : PySem.W.keepIn K (.ref fi) = true)
    (tF : PySem.W.isFn K (.ref fi) = true)
    (mk : PySem.W.makesIn K CF = true)
    (kF : PySem.W.keepIn K (.ref CF) = true)
    (pg : PySem.W.plainGet K CF Str.empty = true)
    (hd : PySem.W.hasDictIn K CF = true)
    (po : PySem.W.plainOver K CF = true)
    (sa : PySem.W.findIn K (.ref CF) "__setattr__" = some (some (.builtin "object.__setattr__")))
    (nK : PySem.W.findIn K (.ref CF) "kinds" = some none)
    (nF : PySem.W.findIn K (.ref CF) "funs" = some none)
    (clF : PySem.W.findIn K (.ref CF) "__class__" = some (some (.builtin "object.__class__")))
    (obF : PySem.W.mroIn K CF (.type "object") = some true)
    (xN : PySem.W.excIn K CN bmVE "ValueError.__new__" = true)
    (xT : PySem.W.excIn K CT bmVE "ValueError.__new__" = true)
    (sp : PySem.W.specialIn K (.builtin "object.__class__") "__get__" = some (some (.builtin "getset_descriptor.__get__")))
    (tk1 : PySem.W.takesIn K (.builtin "object.__class__") = some true)
    (x1 : PySem.W.exmOne K (.ref CN) (.ref CN) = some true)
    (x2 : PySem.W.exmOne K (.ref CT) (.ref CN) = some false)
    (x3 : PySem.W.exmOne K (.ref CT) (.ref CT) = some true)
    (j1 : PySem.W.kitOne K (.ref CN) (.ref CR) = some true)
    (j3 : PySem.W.kitOne K (.ref CT) (.ref CR) = some true)
    (j5 : PySem.W.kitOne K (.ref CF) (.ref CF) = some true)
    (isN : (match K.lookup CN with | some ⟨_, _, .cls _, _⟩ => true | _ => false) = true)
    (gaN : PySem.W.findIn K (.ref CN) "__getattribute__" = some (some (.builtin "BaseException.__getattribute__")))
    (ghN : PySem.W.findIn K (.ref CN) "__getattr__" = some none)
    (clN : PySem.W.findIn K (.ref CN) "__class__" = some (some (.builtin "object.__class__")))
    (obN : PySem.W.mroIn K CN (.type "object") = some true)
    (beN : PySem.W.mroIn K CN (.type "BaseException") = some true)
    (isT : (match K.lookup CT with | some ⟨_, _, .cls _, _⟩ => true | _ => false) = true)
    (gaT : PySem.W.findIn K (.ref CT) "__getattribute__" = some (some (.builtin "BaseException.__getattribute__")))
    (ghT : PySem.W.findIn K (.ref CT) "__getattr__" = some none)
    (clT : PySem.W.findIn K (.ref CT) "__class__" = some (some (.builtin "object.__class__")))
    (obT : PySem.W.mroIn K CT (.type "object") = some true)
    (beT : PySem.W.mroIn K CT (.type "BaseException") = some true)
    (z1 : PySem.W.nsIn K mainGlobals "len" = some none)
    (z2 : PySem.W.nsIn K mainGlobals "list" = some none)
    (z3 : PySem.W.nsIn K mainGlobals "range" = some none)
    (z4 : PySem.W.nsIn K mainGlobals "isinstance" = some none)
    (z5 : PySem.W.nsIn K mainGlobals "int" = some none)
    (z6 : PySem.W.nsIn K mainGlobals "dict" = some none)
    (z7 : PySem.W.nsIn K mainGlobals "max" = some none)
    (z8 : PySem.W.nsIn K mainGlobals "tuple" = some none) :
    ∃ fd : FuncData, (∀ (s : Shared) (v : Value), BindsTo s fd ⟨[v], []⟩ [("_law_script", v)]) ∧ ∀ base : Heap, K.In base → base.Ns mainGlobals mg → FnOk l.prog w K mg base CX0 47 fa fd ["_law_script"] (spLaw K) := by
  have e := hfa.symm.trans (PySem.W.mg_of X G a19)
  cases e
  have F1 := fun_mk (st := sWords) l1 c1 k1
  have F2 := fun_mk (st := sPut) l2 c2 k2
  have F3 := fun_mk (st := sBounded) l3 c3 k3
  have F4 := fun_mk (st := sOwn) l4 c4 k4
  have F5 := fun_mk (st := sPutFace) l5 c5 k5
  have F6 := fun_mk (st := sPutFun) l6 c6 k6
  have F7 := fun_mk (st := sRefined) l7 c7 k7
  have F8 := fun_mk (st := sCell) l8 c8 k8
  have F9 := fun_mk (st := sWord) l9 c9 k9
  have F10 := fun_mk (st := sTree) l10 c10 k10
  have F11 := fun_mk (st := sWordsL) l11 c11 k11
  have F12 := fun_mk (st := sPutL) l12 c12 k12
  have F13 := fun_mk (st := sSize) l13 c13 k13
  have F14 := fun_mk (st := sKinds) l14 c14 k14
  have F15 := fun_mk (st := sFuns) l15 c15 k15
  have F16 := fun_mk (st := sWiths) l16 c16 k16
  have F17 := fun_mk (st := sStep) l17 c17 k17
  have F18 := fun_mk (st := sSaid) l18 c18 k18
  have F19 := fun_mk (st := sLaw) l19 c19 k19
  have b1 := F1.binds (ps := ["kind"]) fun _ _ _ _ _ _ us hl => match us, hl with | [_], _ => rfl
  have b2 := F2.binds (ps := ["kind", "given"]) fun _ _ _ _ _ _ us hl => match us, hl with | [_, _], _ => rfl
  have b3 := F3.binds (ps := ["kind", "most"]) fun _ _ _ _ _ _ us hl => match us, hl with | [_, _], _ => rfl
  have b4 := F4.binds (ps := ["word"]) fun _ _ _ _ _ _ us hl => match us, hl with | [_], _ => rfl
  have b5 := F5.binds (ps := ["face", "given"]) fun _ _ _ _ _ _ us hl => match us, hl with | [_, _], _ => rfl
  have b6 := F6.binds (ps := ["fun", "given"]) fun _ _ _ _ _ _ us hl => match us, hl with | [_, _], _ => rfl
  have b7 := F7.binds (ps := ["face", "withs"]) fun _ _ _ _ _ _ us hl => match us, hl with | [_, _], _ => rfl
  have b8 := F8.binds (ps := ["_law_script", "_law_k"]) fun _ _ _ _ _ _ us hl => match us, hl with | [_, _], _ => rfl
  have b9 := F9.binds (ps := ["_law_cell_here"]) fun _ _ _ _ _ _ us hl => match us, hl with | [_], _ => rfl
  have b10 := F10.binds (ps := ["_law_leaves", "_law_turn"]) fun _ _ _ _ _ _ us hl => match us, hl with | [_, _], _ => rfl
  have b11 := F11.binds (ps := ["_law_script", "_law_start", "_law_many"]) fun _ _ _ _ _ _ us hl => match us, hl with | [_, _, _], _ => rfl
  have b12 := F12.binds (ps := ["_law_kind", "_law_t", "_law_given"]) fun _ _ _ _ _ _ us hl => match us, hl with | [_, _, _], _ => rfl
  have b13 := F13.binds (ps := ["_law_kind"]) fun _ _ _ _ _ _ us hl => match us, hl with | [_], _ => rfl
  have b14 := F14.binds (ps := ["_law_script", "_law_words_here"]) fun _ _ _ _ _ _ us hl => match us, hl with | [_, _], _ => rfl
  have b15 := F15.binds (ps := ["_law_script", "_law_words_here", "_law_kinds_here"]) fun _ _ _ _ _ _ us hl => match us, hl with | [_, _, _], _ => rfl
  have b16 := F16.binds (ps := ["_law_script", "_law_words_here"]) fun _ _ _ _ _ _ us hl => match us, hl with | [_, _], _ => rfl
  have b17 := F17.binds (ps := ["_law_rows", "_law_t", "_law_given"]) fun _ _ _ _ _ _ us hl => match us, hl with | [_, _, _], _ => rfl
  have b18 := F18.binds (ps := ["_law_face", "_law_withs_here"]) fun _ _ _ _ _ _ us hl => match us, hl with | [_, _], _ => rfl
  refine ⟨PySem.W.fnOf "law" "law" (defArgs sLaw) (defBody sLaw) (defScope sLaw) .none kV19 dc19 pm19 an19 cd19 ct19, fun s v => .of_eq rfl, fun base _ _ => ?_⟩
  have FM : FunD K "put" "Face.put" sPutM (.ref T) fm (PySem.W.fnOf "put" "Face.put" (defArgs sPutM) (defBody sPutM) (defScope sPutM) (.ref T) kVm dcm pmm anm cdm ctm) := ⟨⟨ocm, odm, kVm, dcm, pmm, anm, cdm, ctm, slm, rfl, lm, cm⟩, km⟩
  have Fi := fun_mk (st := sInit) li ci ki
  have bI := Fi.binds (ps := ["self", "kinds", "funs"]) fun _ _ _ _ _ _ us hl => match us, hl with | [_, _, _], _ => rfl
  have Fh := fun_mk (st := sHidden) lh ch kh
  have bH := Fh.binds (ps := ["self"]) fun _ _ _ _ _ _ us hl => match us, hl with | [_], _ => rfl
  have MF : Mk K CF fi := ⟨mk, iF, tF, kF⟩
  have MH : Meth K CF "hidden" fh := ⟨ih, th, kh⟩
  have MM : Meth K CF "put" fm := ⟨im, tm, km⟩
  have cF : Cls K CF := ⟨pg, hd, po, sa⟩
  have cN : ExcCls K CN := ⟨isN, gaN, ghN, clN, sp, tk1, obN, beN⟩
  have cT : ExcCls K CT := ⟨isT, gaT, ghT, clT, sp, tk1, obT, beT⟩
  have GWi := ok_words (P := l.prog) (w := w) (base := base) (mg := mg) F1 (PySem.W.mg_none_of X G z1)
  have GP := ok_put (P := l.prog) (w := w) (base := base) (mg := mg) F2 b2 k2 (PySem.W.mg_of X G a2) 40
  have GB := ok_bounded (P := l.prog) (w := w) (base := base) (mg := mg) F3 GWi b1 k1 (PySem.W.mg_of X G a1) (PySem.W.mg_of X G aT) xT
  have GO := ok_own (P := l.prog) (w := w) (base := base) (mg := mg) F4
  have GPF := ok_putFun (P := l.prog) (w := w) (base := base) (mg := mg) F6 GP b2 k2 (PySem.W.mg_of X G a2) (PySem.W.mg_none_of X G z8)
  have GI := ok_initF (P := l.prog) (w := w) (base := base) (mg := mg) Fi cF nK nF (PySem.W.mg_none_of X G z6)
  have GFa := ok_putFace (P := l.prog) (w := w) (base := base) (mg := mg) F5 GP b2 k2 (PySem.W.mg_of X G a2) GPF b6 k6 (PySem.W.mg_of X G a6) GI bI MF (PySem.W.mg_of X G aF) cF nK nF
  have GH := ok_hidden (P := l.prog) (w := w) (base := base) (mg := mg) Fh GO b4 k4 (PySem.W.mg_of X G a4) cF nK
  have GM := ok_putM (P := l.prog) (w := w) (base := base) (mg := mg) FM GFa b5 k5 (PySem.W.mg_of X G a5) GB b3 k3 (PySem.W.mg_of X G a3) cF nK nF
  have GR := ok_refined (P := l.prog) (w := w) (base := base) (mg := mg) F7 GI bI MF (PySem.W.mg_of X G aF) cF nK nF GH bH MH FM lT GM MM (PySem.W.mg_of X G aN) xN
  have GC := ok_cell (P := l.prog) (w := w) (base := base) (mg := mg) F8 (PySem.W.mg_none_of X G z1)
  have GW := ok_wordF (P := l.prog) (w := w) (base := base) (mg := mg) F9
  have GT := ok_tree (P := l.prog) (w := w) (base := base) (mg := mg) F10 (PySem.W.mg_none_of X G z1) (PySem.W.mg_none_of X G z2)
  have GL := ok_wordsL (P := l.prog) (w := w) (base := base) (mg := mg) F11 GC b8 k8 (PySem.W.mg_of X G a8) GW b9 k9 (PySem.W.mg_of X G a9) (PySem.W.mg_none_of X G z3)
  have GPL := ok_putL (P := l.prog) (w := w) (base := base) (mg := mg) F12 b12 k12 (PySem.W.mg_of X G a12) 40
  have GZ := ok_size (P := l.prog) (w := w) (base := base) (mg := mg) F13 (PySem.W.mg_none_of X G z1)
  have GK := ok_kinds (P := l.prog) (w := w) (base := base) (mg := mg) F14 GC b8 k8 (PySem.W.mg_of X G a8) GZ b13 k13 (PySem.W.mg_of X G a13) (PySem.W.mg_none_of X G z3) (PySem.W.mg_none_of X G z1)
  have GU := ok_funs (P := l.prog) (w := w) (base := base) (mg := mg) F15 GC b8 k8 (PySem.W.mg_of X G a8) GL b11 k11 (PySem.W.mg_of X G a11) (PySem.W.mg_none_of X G z3) (PySem.W.mg_none_of X G z1) (PySem.W.mg_none_of X G z8)
  have GV := ok_withs (P := l.prog) (w := w) (base := base) (mg := mg) F16 GC b8 k8 (PySem.W.mg_of X G a8) GW b9 k9 (PySem.W.mg_of X G a9) GT b10 k10 (PySem.W.mg_of X G a10) (PySem.W.mg_none_of X G z3) (PySem.W.mg_none_of X G z1)
  have GE := ok_step (P := l.prog) (w := w) (base := base) (mg := mg) F17 GPL b12 k12 (PySem.W.mg_of X G a12)
  have GS := ok_said (P := l.prog) (w := w) (base := base) (mg := mg) F18 GR b7 k7 (PySem.W.mg_of X G a7) (PySem.W.mg_of X G aN) (PySem.W.mg_of X G aT) (PySem.W.mg_of X G aR) (PySem.W.mg_of X G aF) (PySem.W.mg_none_of X G z4) (PySem.W.mg_none_of X G z5) (PySem.W.mg_none_of X G z2) cN cT cF nK nF x1 x2 x3 j1 j3 j5 clF sp tk1 obF
  exact ok_law F19 GC b8 k8 (PySem.W.mg_of X G a8) GL b11 k11 (PySem.W.mg_of X G a11) GK b14 k14 (PySem.W.mg_of X G a14) GU b15 k15 (PySem.W.mg_of X G a15) GI bI MF (PySem.W.mg_of X G aF) GV b16 k16 (PySem.W.mg_of X G a16) GS b18 k18 (PySem.W.mg_of X G a18) GE b17 k17 (PySem.W.mg_of X G a17) GZ b13 k13 (PySem.W.mg_of X G a13) cF nK nF (PySem.W.mg_none_of X G z2) (PySem.W.mg_none_of X G z8) (PySem.W.mg_none_of X G z7) (PySem.W.mg_none_of X G z3) (PySem.W.mg_none_of X G z1)
theorem walk {l : PySem.W.OpenLaw} {q : Program} {loose : List Str} {XP : (Str → Option Value) → Heap → Prop} {YP : World → Heap → Prop} {d : DefRec} {K : Params → PySem.W.Frag} (hn : l.most = some 63) (hdf : d.params.defaults = [])
    (hY : ∀ (w : World) (h : Heap), YP w h → (K w.params).In h)
    (F : ∀ (w : World) (mg : Str → Option Value) (fa : Addr) (h : Heap), (K w.params).In h → h.Ns mainGlobals mg → mg d.name = some (.ref fa) →
      ∃ fd : FuncData, (∀ (s : Shared) (u : Value), BindsTo s fd ⟨[u], []⟩ [("_law_script", u)]) ∧ ∀ base : Heap, (K w.params).In base → base.Ns mainGlobals mg → FnOk l.prog w (K w.params) mg base CX0 47 fa fd ["_law_script"] (spLaw (K w.params))) :
    PySem.W.WalkO q loose XP YP l.row.toRowW d [] (fun f vs => PySem.call f vs) :=
  L2.walk_of (n := 63) (k := 47) (x := "_law_script") (CX := fun _ => CX0) (sp := fun w => spLaw (K w.params)) hn (by decide) hdf ⟨rfl, by decide, by decide⟩ hY F (fun _ _ a ns hl _ hS => ⟨a, ns, rfl, hS, hl, fun _ => rfl⟩) fun _ _ _ _ _ z => z
end K25
open PySem PySem.W PyProof.Rows
set_option maxRecDepth 100000 in
set_option maxHeartbeats 0 in
theorem PySem.Challenge.cw_sealhouse_k25_faces_refined_holds : PySem.Challenge.rw_sealhouse_k25_faces_refined.Holds := by
  w_on; o_law; k_head; (case hw => w_witness2)
  k_fill
  refine K25.walk (l := PySem.Challenge.rw_sealhouse_k25_faces_refined) rfl rfl (fun w h Y => PySem.W.kIn_of Y) ?F
  case F =>
    intro w mg fa h KX G hmg
    refine' K25.all_mk KX G hmg ?a1 ?l1 ?c1 ?k1 ?a2 ?l2 ?c2 ?k2 ?a3 ?l3 ?c3 ?k3 ?a4 ?l4 ?c4 ?k4 ?a5 ?l5 ?c5 ?k5 ?a6 ?l6 ?c6 ?k6 ?a7 ?l7 ?c7 ?k7 ?a8 ?l8 ?c8 ?k8 ?a9 ?l9 ?c9 ?k9 ?a10 ?l10 ?c10 ?k10 ?a11 ?l11 ?c11 ?k11 ?a12 ?l12 ?c12 ?k12 ?a13 ?l13 ?c13 ?k13 ?a14 ?l14 ?c14 ?k14 ?a15 ?l15 ?c15 ?k15 ?a16 ?l16 ?c16 ?k16 ?a17 ?l17 ?c17 ?k17 ?a18 ?l18 ?c18 ?k18 ?a19 ?l19 ?c19 ?k19 ?aF ?aN ?aT ?aR ?im ?lm ?cm ?km ?tm ?lT ?ih ?lh ?ch ?kh ?th ?iF ?li ?ci ?ki ?tF ?mk ?kF ?pg ?hd ?po ?sa ?nK ?nF ?clF ?obF ?xN ?xT ?sp ?tk1 ?x1 ?x2 ?x3 ?j1 ?j3 ?j5 ?isN ?gaN ?ghN ?clN ?obN ?beN ?isT ?gaT ?ghT ?clT ?obT ?beT ?z1 ?z2 ?z3 ?z4 ?z5 ?z6 ?z7 ?z8
    (case a1 => k_is)
    (case l1 => k_is)
    (case c1 => k_is)
    (case k1 => k_is)
    (case a2 => k_is)
    (case l2 => k_is)
    (case c2 => k_is)
    (case k2 => k_is)
    (case a3 => k_is)
    (case l3 => k_is)
    (case c3 => k_is)
    (case k3 => k_is)
    (case a4 => k_is)
    (case l4 => k_is)
    (case c4 => k_is)
    (case k4 => k_is)
    (case a5 => k_is)
    (case l5 => k_is)
    (case c5 => k_is)
    (case k5 => k_is)
    (case a6 => k_is)
    (case l6 => k_is)
    (case c6 => k_is)
    (case k6 => k_is)
    (case a7 => k_is)
    (case l7 => k_is)
    (case c7 => k_is)
    (case k7 => k_is)
    (case a8 => k_is)
    (case l8 => k_is)
    (case c8 => k_is)
    (case k8 => k_is)
    (case a9 => k_is)
    (case l9 => k_is)
    (case c9 => k_is)
    (case k9 => k_is)
    (case a10 => k_is)
    (case l10 => k_is)
    (case c10 => k_is)
    (case k10 => k_is)
    (case a11 => k_is)
    (case l11 => k_is)
    (case c11 => k_is)
    (case k11 => k_is)
    (case a12 => k_is)
    (case l12 => k_is)
    (case c12 => k_is)
    (case k12 => k_is)
    (case a13 => k_is)
    (case l13 => k_is)
    (case c13 => k_is)
    (case k13 => k_is)
    (case a14 => k_is)
    (case l14 => k_is)
    (case c14 => k_is)
    (case k14 => k_is)
    (case a15 => k_is)
    (case l15 => k_is)
    (case c15 => k_is)
    (case k15 => k_is)
    (case a16 => k_is)
    (case l16 => k_is)
    (case c16 => k_is)
    (case k16 => k_is)
    (case a17 => k_is)
    (case l17 => k_is)
    (case c17 => k_is)
    (case k17 => k_is)
    (case a18 => k_is)
    (case l18 => k_is)
    (case c18 => k_is)
    (case k18 => k_is)
    (case a19 => k_is)
    (case l19 => k_is)
    (case c19 => k_is)
    (case k19 => k_is)
    (case aF => k_is)
    (case aN => k_is)
    (case aT => k_is)
    (case aR => k_is)
    (case im => k_is)
    (case lm => k_is)
    (case cm => k_is)
    (case km => k_is)
    (case tm => k_is)
    (case lT => k_is)
    (case ih => k_is)
    (case lh => k_is)
    (case ch => k_is)
    (case kh => k_is)
    (case th => k_is)
    (case iF => k_is)
    (case li => k_is)
    (case ci => k_is)
    (case ki => k_is)
    (case tF => k_is)
    (case mk => k_is)
    (case kF => k_is)
    (case pg => k_is)
    (case hd => k_is)
    (case po => k_is)
    (case sa => k_is)
    (case nK => k_is)
    (case nF => k_is)
    (case clF => k_is)
    (case obF => k_is)
    (case xN => with_unfolding_all exact rfl)
    (case xT => with_unfolding_all exact rfl)
    (case sp => k_is)
    (case tk1 => k_is)
    (case x1 => exact rfl)
    (case x2 => exact rfl)
    (case x3 => exact rfl)
    (case j1 => exact rfl)
    (case j3 => exact rfl)
    (case j5 => exact rfl)
    (case isN => exact rfl)
    (case gaN => k_is)
    (case ghN => k_is)
    (case clN => k_is)
    (case obN => k_is)
    (case beN => k_is)
    (case isT => exact rfl)
    (case gaT => k_is)
    (case ghT => k_is)
    (case clT => k_is)
    (case obT => k_is)
    (case beT => k_is)
    (case z1 => k_is)
    (case z2 => k_is)
    (case z3 => k_is)
    (case z4 => k_is)
    (case z5 => k_is)
    (case z6 => k_is)
    (case z7 => k_is)
    (case z8 => k_is)
#print axioms PySem.Challenge.cw_sealhouse_k25_faces_refined_holds
