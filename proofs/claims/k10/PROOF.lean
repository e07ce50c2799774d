import PyProof.Rows.All
import Wide.All
import OpenK.AllK
import Wide.FinOn
import Lean
import PyProof.EqAt
import PyProof.EqKinds
import PyProof.TupleCall
import PySem.Challenge.RW_sealhouse_k10_refusals
set_option Elab.async false
set_option linter.all false
set_option maxRecDepth 100000
/-! THE HAND LAYER, for ints, bools, texts, own classes, LISTS and tuples (index, slices, in, append, pop ..), calls, loops. Paste it whole ahead of your own text; what your proof does not reach may be deleted. -/
namespace L2
open PySem PySem.Spec PyProof.Rows

/-- a key: an int or a str -/
abbrev Key := Sum Int Str
def keyIs : Key → Value → Bool
  | .inl k, v => Value.isInt k v
  | .inr x, v => Value.isStrOf x v
def keyH (w : World) : Key → Int
  | .inl k => hashInt k
  | .inr x => hashStr w x
theorem keyIs_shape : ∀ {k : Key} {v : Value}, keyIs k v = true → (∃ i t, k = Sum.inl i ∧ v = Value.int i t) ∨ (∃ x t, k = Sum.inr x ∧ v = Value.str x t)
  | .inl i, v, h => by
    obtain ⟨t, e⟩ := Value.isInt_shape (k := i) (v := v) h
    exact .inl ⟨i, t, rfl, e⟩
  | .inr x, v, h => by
    obtain ⟨t, e⟩ := Value.isStrOf_shape (x := x) (v := v) h
    exact .inr ⟨x, t, rfl, e⟩
theorem key_ll (a b : Int) : decide ((Sum.inl a : Key) = Sum.inl b) = (a == b) := by
  by_cases e : a = b
  · subst e; simp
  · have h : ¬ (Sum.inl a : Key) = Sum.inl b := fun q => e (Sum.inl.inj q)
    rw [decide_eq_false h]
    exact (beq_eq_false_iff_ne.mpr e).symm
theorem key_rr (a b : Str) : decide ((Sum.inr a : Key) = Sum.inr b) = decide (a = b) := by
  by_cases e : a = b
  · subst e; simp
  · have h : ¬ (Sum.inr a : Key) = Sum.inr b := fun q => e (Sum.inr.inj q)
    rw [decide_eq_false h, decide_eq_false e]
theorem key_lr (a : Int) (b : Str) : decide ((Sum.inl a : Key) = Sum.inr b) = false := decide_eq_false (fun q => nomatch q)
theorem key_rl (a : Str) (b : Int) : decide ((Sum.inr a : Key) = Sum.inl b) = false := decide_eq_false (fun q => nomatch q)

def mixKind (prog : Program) (w : World) : PySem.KeyKind prog w Key where
  is := keyIs
  hash := keyH w
  inj := fun v a b ha hb => by
    rcases keyIs_shape ha with ⟨i, t, rfl, rfl⟩ | ⟨x, t, rfl, rfl⟩
    · rcases keyIs_shape hb with ⟨j, u, rfl, e⟩ | ⟨y, u, rfl, e⟩
      · injection e with e1 _; rw [e1]
      · exact nomatch e
    · rcases keyIs_shape hb with ⟨j, u, rfl, e⟩ | ⟨y, u, rfl, e⟩
      · exact nomatch e
      · injection e with e1 _; rw [e1]
  byValue := fun k v h => by
    rcases keyIs_shape h with ⟨i, t, rfl, rfl⟩ | ⟨x, t, rfl, rfl⟩ <;> rfl
  pyHash := fun hv h => by
    rcases keyIs_shape hv with ⟨i, t, rfl, rfl⟩ | ⟨x, t, rfl, rfl⟩
    · exact wpAny_pyHash_int h
    · exact wpAny_pyHash_str h
  eqBool := fun hu hv h => by
    rcases keyIs_shape hu with ⟨i, t, rfl, rfl⟩ | ⟨x, t, rfl, rfl⟩
    · rcases keyIs_shape hv with ⟨j, u, rfl, rfl⟩ | ⟨y, u, rfl, rfl⟩
      · rw [key_ll] at h; exact wpAny_eqBool_int h
      · rw [key_lr] at h; exact SeqAt.EqAt.int_str i t y u _ _ _ _ h
    · rcases keyIs_shape hv with ⟨j, u, rfl, rfl⟩ | ⟨y, u, rfl, rfl⟩
      · rw [key_rl] at h; exact SeqAt.EqAt.str_int x t j u _ _ _ _ h
      · rw [key_rr] at h; exact wpAny_eqBool_str h
  «strs» := fun k x t v h => by
    rcases keyIs_shape h with ⟨i, u, rfl, e⟩ | ⟨y, u, rfl, e⟩
    · exact nomatch e
    · injection e with e1 _
      subst e1
      cases v <;> rfl

end L2

namespace L2
open PySem PySem.Spec PyProof.Rows

/-- a value, without the heap -/
inductive V where
  | non | bl (b : Bool) | int (i : Int) | str (x : Str) | byt (b : Array UInt8) | flt (b : UInt64) | ref (a : Addr) | ty (n : String)
  deriving DecidableEq

def RelV : V → Value → Prop
  | .non, u => u = Value.none
  | .bl b, u => u = Value.bool b
  | .int i, u => ∃ t, u = Value.int i t
  | .str x, u => ∃ t, u = Value.str x t
  | .byt b, u => ∃ t, u = Value.bytes b t
  | .flt b, u => ∃ t, u = Value.float b t
  | .ref a, u => u = Value.ref a
  | .ty n, u => u = Value.type n

abbrev Vals : List V → List Value → Prop := Paired RelV
theorem Vals.length {xs : List V} {us : List Value} (r : Vals xs us) : xs.length = us.length := Paired.length r
theorem Vals.get : ∀ {xs : List V} {us : List Value} {i : Nat} {x : V}, Vals xs us → xs[i]? = some x → ∃ u, us[i]? = some u ∧ RelV x u
  | _, _, _, _, .nil, e => by simp at e
  | _, _, 0, _, .cons r _, e => by simp at e; subst e; exact ⟨_, rfl, r⟩
  | _, _, i + 1, x, .cons _ t, e => by
    obtain ⟨u, h1, h2⟩ := Vals.get (i := i) (x := x) t (by simpa using e)
    exact ⟨u, by simpa using h1, h2⟩
theorem Vals.append : ∀ {xs ys : List V} {us ws : List Value}, Vals xs us → Vals ys ws → Vals (xs ++ ys) (us ++ ws)
  | _, _, _, _, .nil, s => s
  | _, _, _, _, .cons r t, s => .cons r (Vals.append t s)

def RelO : Option V → Option Value → Prop
  | some v, some u => RelV v u
  | none, none => True
  | _, _ => False
def KV {κ : Type} : List (κ × V) → List (κ × Value) → Prop := Paired fun (p : κ × V) (q : κ × Value) => p.1 = q.1 ∧ RelV p.2 q.2

/-- a key of a dict (00_mix): an int or a text -/
def kV : Key → V
  | .inl i => .int i
  | .inr x => .str x

/-- what stands at a tracked address -/
inductive HO where
  /-- a list -/
  | lst (xs : List V)
  /-- a tuple (never changes) -/
  | tup (xs : List V)
  /-- a dict whose keys are ints and texts; one whose keys are tuples of ints and texts (the empty one is both) -/
  | dK (kvs : List (Key × V)) | dT (kvs : List (List Key × V))
  /-- a set of ints: its members, its size -/
  | set (S : Int → Bool) (n : Nat)
  /-- an instance of the class at C, its dict at dx, its attributes -/
  | ins (C dx : Addr) (fs : List (Str × V))
  /-- the dict of the instance at x -/
  | own (x : Addr)
  /-- the dict of an exception -/
  | xd (fs : List (Str × V))
  /-- a bound method, f of x -/
  | met (f x : Addr)
  /-- a range object lo, lo + 1, .. below hi -/
  | rng (lo hi : Int)
  /-- a thing that is known to the object (the script; a dict while a loop walks it): read, never written while it is so -/
  | frz (o : Obj) (u : HO)
  /-- a code object's table -/
  | tbl (ps : Array Value)
  /-- any other thing, by what is true of its one object (a def of one's own: SetO a S n := HO.ext fun h => ..) -/
  | ext (φ : Heap → Prop)

abbrev Hp := Addr → Option HO
def upd (H : Hp) (a : Addr) (o : HO) : Hp := fun b => if b = a then some o else H b
theorem upd_same {H : Hp} {a : Addr} {o : HO} : upd H a o a = some o := by unfold upd; rw [if_pos rfl]
theorem upd_ne {H : Hp} {a b : Addr} {o : HO} (h : b ≠ a) : upd H a o b = H b := by unfold upd; rw [if_neg h]
theorem upd_upd {H : Hp} {a : Addr} {o u : HO} : upd (upd H a o) a u = upd H a u := by
  funext b; unfold upd; split <;> rfl
theorem ne_of_none {H : Hp} {a b : Addr} {o : HO} (h : H a = some o) (h' : H b = none) : a ≠ b := by
  intro e; subst e; rw [h] at h'; cases h'

section
variable (P : Program) (w : World)
def ObjOk (H : Hp) (h : Heap) (a : Addr) : HO → Prop
  | .lst xs => xs.length ≤ sizeLine ∧ ∃ (its : List Value) (n : Nat), Vals xs its ∧ h.get? a = some { cls := .type "list", data := .seq its.toArray n }
  | .tup xs => xs.length ≤ sizeLine ∧ ∃ its : List Value, Vals xs its ∧ IsTup h a its.toArray
  | .dK kvs => kvs.length ≤ sizeLine ∧ (a == sysModules) = false ∧ ∃ vs, KV kvs vs ∧ h.DictOf (mixKind P w) a vs
  | .dT kvs => kvs.length ≤ sizeLine ∧ (a == sysModules) = false ∧ ∃ xs : List (List Key × Addr × Value),
      Paired (fun (p : List Key × V) (q : List Key × Addr × Value) => p.1 = q.1 ∧ H q.2.1 = some (.tup (p.1.map kV)) ∧ RelV p.2 q.2.2) kvs xs ∧
      ∃ o es ep, h.get? a = some o ∧ o.ExactDict ∧ o.data = .dict es ep ∧ es.toList = xs.map (entryOfKey (tupleKind (mixKind P w))) ∧ (xs.map (·.1)).Nodup
  | .set S n => h.SetOf (intKind P w) a S n
  | .ins C dx fs => H dx = some (.own a) ∧ fs.length ≤ 1000 ∧ dx ≠ a ∧ h.get? a = some (PySem.W.instObj C dx) ∧
      ∃ mA, h.Ns1 dx mA ∧ (∀ f, RelO (fs.lookup f) (mA f)) ∧ PySem.Within mA (fs.map (·.1))
  | .own _ => ∃ o, h.get? a = some o
  | .xd fs => ∃ mA, h.Ns1 a mA ∧ ∀ f, RelO (fs.lookup f) (mA f)
  | .rng lo hi => ∃ t u v, h.get? a = some { cls := .type "range", data := .fields #[.int lo t, .int hi u, .int 1 v] }
  | .frz o u => h.get? a = some o ∧ ObjOk H h a u
  | .tbl ps => h.get? a = some { cls := .none, data := .fields ps }
  | .met f x => h.get? a = some (PySem.W.methodObj (.ref f) (.ref x))
  | .ext φ => φ h ∧ (∃ o, h.get? a = some o) ∧ ∀ h1 h2 : Heap, φ h1 → (∀ o, h1.get? a = some o → h2.get? a = some o) → φ h2
/-- the abstract heap is held -/
def HOk (H : Hp) (h : Heap) : Prop := ∀ a o, H a = some o → ObjOk P w H h a o
end

section
variable {P : Program} {w : World} {H H' : Hp} {h h' : Heap} {a : Addr} {o : HO}
theorem ObjOk.lt (x : ObjOk P w H h a o) : a < h.objs.size := by
  cases o with
  | lst xs => obtain ⟨_, _, _, _, e⟩ := x; exact Heap.lt_size e
  | tup xs => obtain ⟨_, _, _, p⟩ := x; exact p.lt
  | dK kvs => obtain ⟨_, _, _, _, o, _, _, e, _⟩ := x; exact Heap.lt_size e
  | dT kvs => obtain ⟨_, _, _, _, o, _, _, e, _⟩ := x; exact Heap.lt_size e
  | set S n => obtain ⟨o, _, _, _, e, _⟩ := x; exact Heap.lt_size e
  | ins C dx fs => obtain ⟨_, _, _, e, _⟩ := x; exact Heap.lt_size e
  | own y => obtain ⟨_, e⟩ := x; exact Heap.lt_size e
  | xd fs => obtain ⟨_, ⟨_, _, _, e, _⟩, _⟩ := x; exact Heap.lt_size e
  | rng lo hi => obtain ⟨_, _, _, e⟩ := x; exact Heap.lt_size e
  | frz ob u => obtain ⟨e, _⟩ := x; exact Heap.lt_size e
  | tbl ps => exact Heap.lt_size (show h.get? a = some _ from x)
  | met f y => exact Heap.lt_size (show h.get? a = some _ from x)
  | ext φ => obtain ⟨_, ⟨_, e⟩, _⟩ := x; exact Heap.lt_size e
theorem Paired.mapP {α β : Type} {F G : α → β → Prop} : ∀ {l₁ : List α} {l₂ : List β}, Paired F l₁ l₂ → (∀ a b, F a b → G a b) → Paired G l₁ l₂
  | _, _, .nil, _ => .nil
  | _, _, .cons r t, f => .cons (f _ _ r) (Paired.mapP t f)
/-- what an object's description leans on: its own object, its own dict, the tuples -/
theorem ObjOk.stay (x : ObjOk P w H h a o) (k : ∀ b u, (b = a ∨ H b = some (.own a)) → h.get? b = some u → h'.get? b = some u)
    (ho : ∀ b, H b = some (.own a) → H' b = some (.own a)) (ht : ∀ b xs, H b = some (.tup xs) → H' b = some (.tup xs)) : ObjOk P w H' h' a o := by
  induction o with
  | lst xs => obtain ⟨z, its, n, r, e⟩ := x; exact ⟨z, its, n, r, k _ _ (.inl rfl) e⟩
  | tup xs => obtain ⟨z, its, r, ob, e, c⟩ := x; exact ⟨z, its, r, ob, k _ _ (.inl rfl) e, c⟩
  | dK kvs => obtain ⟨z, y, vs, r, ob, es, ep, e, c⟩ := x; exact ⟨z, y, vs, r, ob, es, ep, k _ _ (.inl rfl) e, c⟩
  | dT kvs =>
    obtain ⟨z, y, xs, r, ob, es, ep, e, c⟩ := x
    exact ⟨z, y, xs, Paired.mapP r fun p q z => ⟨z.1, ht _ _ z.2.1, z.2.2⟩, ob, es, ep, k _ _ (.inl rfl) e, c⟩
  | set S n => obtain ⟨ob, es, ep, t, e, c⟩ := x; exact ⟨ob, es, ep, t, k _ _ (.inl rfl) e, c⟩
  | ins C dx fs =>
    obtain ⟨d, z, ne, e, mA, ⟨od, es, ep, e2, c⟩, r⟩ := x
    exact ⟨ho _ d, z, ne, k _ _ (.inl rfl) e, mA, ⟨od, es, ep, k _ _ (.inr d) e2, c⟩, r⟩
  | own y => obtain ⟨ob, e⟩ := x; exact ⟨ob, k _ _ (.inl rfl) e⟩
  | xd fs => obtain ⟨mA, ⟨od, es, ep, e, c⟩, r⟩ := x; exact ⟨mA, ⟨od, es, ep, k _ _ (.inl rfl) e, c⟩, r⟩
  | rng lo hi => obtain ⟨t, u, v, e⟩ := x; exact ⟨t, u, v, k _ _ (.inl rfl) e⟩
  | frz ob u ih => obtain ⟨e, q⟩ := x; exact ⟨k _ _ (.inl rfl) e, ih q⟩
  | tbl ps =>
    have e : h.get? a = some { cls := .none, data := .fields ps } := x
    show h'.get? a = some { cls := .none, data := .fields ps }
    exact k a _ (.inl rfl) e
  | met f y =>
    have e : h.get? a = some (PySem.W.methodObj (.ref f) (.ref y)) := x
    show h'.get? a = some (PySem.W.methodObj (.ref f) (.ref y))
    exact k a _ (.inl rfl) e
  | ext φ => obtain ⟨p, ⟨o, e⟩, st⟩ := x; exact ⟨st _ _ p fun o q => k _ _ (.inl rfl) q, ⟨o, k _ _ (.inl rfl) e⟩, st⟩
theorem HOk.lt (x : HOk P w H h) (e : H a = some o) : a < h.objs.size := (x a o e).lt
theorem HOk.fresh (x : HOk P w H h) (e : h.objs.size ≤ a) : H a = none := by
  cases q : H a with
  | none => rfl
  | some u => exact absurd (Nat.lt_of_lt_of_le (x.lt q) e) (Nat.lt_irrefl _)
/-- every object of the heap is kept -/
theorem HOk.kept (x : HOk P w H h) (k : ∀ b u, h.get? b = some u → h'.get? b = some u) : HOk P w H h' := fun a o e =>
  (x a o e).stay (fun b u _ q => k b u q) (fun _ q => q) fun _ _ q => q
/-- a new object is laid and tracked -/
theorem HOk.laid (x : HOk P w H h) (k : ∀ b u, h.get? b = some u → h'.get? b = some u) (hp : h.objs.size ≤ a) (new : ObjOk P w (upd H a o) h' a o) : HOk P w (upd H a o) h' := fun b u e => by
  have hn := x.fresh hp
  by_cases hb : b = a
  · subst hb; rw [upd_same] at e; cases e; exact new
  · rw [upd_ne hb] at e
    exact (x b u e).stay (fun c v _ q => k c v q) (fun c q => by rw [upd_ne (ne_of_none q hn)]; exact q) fun c xs q => by rw [upd_ne (ne_of_none q hn)]; exact q
end

/-- what may be read as u: it is u, or a known u -/
def Rd (H : Hp) (a : Addr) (u : HO) : Prop := H a = some u ∨ ∃ o, H a = some (.frz o u)
theorem Rd.ok {P : Program} {w : World} {H : Hp} {h : Heap} {a : Addr} {u : HO} (r : Rd H a u) (x : HOk P w H h) : ObjOk P w H h a u := by
  rcases r with r | ⟨o, r⟩
  · exact x a u r
  · obtain ⟨_, q⟩ := x a _ r
    exact q
/-- what may be written -/
def Mut : Option HO → Prop
  | some (.lst _) => True
  | some (.dK _) => True
  | some (.dT _) => True
  | some (.set _ _) => True
  | some (.ins _ _ _) => True
  | some (.ext _) => True
  | _ => False
section
variable {P : Program} {w : World} {H : Hp} {h h' : Heap} {x e : Addr} {o' : HO}
/-- the object at e is changed: x itself, or the dict of the instance x -/
theorem HOk.write (ok : HOk P w H h) (mu : Mut (H x)) (he : e = x ∨ H e = some (.own x)) (k : ∀ b u, b ≠ e → h.get? b = some u → h'.get? b = some u) (heo : ∃ u, h'.get? e = some u)
    (new : ObjOk P w (upd H x o') h' x o') : HOk P w (upd H x o') h' := fun b u q => by
  have nown : ∀ c y, H c = some (.own y) → c ≠ x := fun c y r z => by subst z; rw [r] at mu; exact mu
  have ntup : ∀ c xs, H c = some (.tup xs) → c ≠ x := fun c xs r z => by subst z; rw [r] at mu; exact mu
  by_cases hb : b = x
  · subst hb; rw [upd_same] at q; cases q; exact new
  · rw [upd_ne hb] at q
    by_cases hbe : b = e
    · have q' : H b = some (.own x) := by
        rcases he with z | z
        · exact absurd (hbe.trans z) hb
        · rw [hbe]; exact z
      rw [q] at q'; cases q'
      obtain ⟨v, hv⟩ := heo
      exact ⟨v, by rw [hbe]; exact hv⟩
    · refine (ok b u q).stay (fun c v hc r => k c v ?_ r) (fun c r => by rw [upd_ne (nown c b r)]; exact r) fun c xs r => by rw [upd_ne (ntup c xs r)]; exact r
      rcases hc with rfl | hc
      · exact hbe
      · rintro rfl
        rcases he with z | z
        · exact nown c b hc z
        · rw [hc] at z; cases z; exact hb rfl
end

/-! ### kept unless tracked; of the frames at fs (the callers') the slots may change (an exception that passes writes there); of the records at ex (iterators) nothing is said -/
structure Un (fs ex : List Addr) (H H' : Hp) (h h' : Heap) : Prop where
  keep : ∀ b o, h.get? b = some o → H b = none → b ∉ fs → b ∉ ex → h'.get? b = some o
  slot : ∀ b o, h.get? b = some o → H b = none → b ∈ fs → b ∉ ex → ∃ sl, h'.get? b = some { o with slots := sl }
  free : ∀ b o, h.get? b = some o → H b = none → b ∉ ex → H' b = none
  there : ∀ b o, h.get? b = some o → b ∉ ex → ∃ o', h'.get? b = some o'
  tups : ∀ b xs, H b = some (.tup xs) → H' b = some (.tup xs)
  frzs : ∀ b o u, H b = some (.frz o u) → H' b = some (.frz o u)
  tbls : ∀ b ps, H b = some (.tbl ps) → ∃ more, H' b = some (.tbl (ps ++ more))
section
variable {fs fs' ex ex' : List Addr} {H H1 H2 : Hp} {h h1 h2 h' : Heap} {a x e : Addr} {o : HO}
theorem Un.any (u : Un fs ex H H1 h h1) {b : Addr} {ob : Obj} (q : h.get? b = some ob) (n : H b = none) (hx : b ∉ ex) : ∃ sl, h1.get? b = some { ob with slots := sl } := by
  by_cases hb : b ∈ fs
  · exact u.slot b ob q n hb hx
  · exact ⟨ob.slots, u.keep b ob q n hb hx⟩
theorem Un.kept (k : ∀ b u, h.get? b = some u → h'.get? b = some u) : Un fs ex H H h h' :=
  ⟨fun b ob q _ _ _ => k b ob q, fun b ob q _ _ _ => ⟨ob.slots, k b ob q⟩, fun _ _ _ n _ => n, fun b ob q _ => ⟨ob, k b ob q⟩, fun _ _ q => q, fun _ _ _ q => q, fun _ ps q => ⟨#[], by rw [q]; simp⟩⟩
theorem Un.refl : Un fs ex H H h h := Un.kept fun _ _ q => q
theorem Un.laid (k : ∀ b u, h.get? b = some u → h'.get? b = some u) (hp : h.objs.size ≤ a) (hn : H a = none) : Un fs ex H (upd H a o) h h' where
  keep := fun b u q _ _ _ => k b u q
  slot := fun b u q _ _ _ => ⟨u.slots, k b u q⟩
  free := fun b u q n _ => by rw [upd_ne (Nat.ne_of_lt (Nat.lt_of_lt_of_le (Heap.lt_size q) hp))]; exact n
  there := fun b u q _ => ⟨u, k b u q⟩
  tups := fun b xs q => by rw [upd_ne (ne_of_none q hn)]; exact q
  frzs := fun b u xs q => by rw [upd_ne (ne_of_none q hn)]; exact q
  tbls := fun b ps q => ⟨#[], by rw [upd_ne (ne_of_none q hn), q]; simp⟩
theorem Un.write (mu : Mut (H x)) (he : e = x ∨ H e = some (.own x)) (k : ∀ b u, b ≠ e → h.get? b = some u → h'.get? b = some u) (heo : ∃ u, h'.get? e = some u) : Un fs ex H (upd H x o) h h' := by
  have hx : ∀ b, H b = none → b ≠ x := fun b n z => by subst z; rw [n] at mu; exact mu
  have hb : ∀ b, H b = none → b ≠ e := fun b n z => by
    subst z
    rcases he with r | r
    · exact hx b n r
    · rw [n] at r; cases r
  have hm : ∀ b u, H b = some u → ¬ Mut (some u) → b ≠ x := fun b u q nm z => by subst z; rw [q] at mu; exact nm mu
  refine ⟨fun b u q n _ _ => k b u (hb b n) q, fun b u q n _ _ => ⟨u.slots, k b u (hb b n) q⟩, fun b u q n _ => by rw [upd_ne (hx b n)]; exact n, fun b u q _ => ?_,
    fun b xs q => by rw [upd_ne (hm b _ q fun z => z)]; exact q, fun b u xs q => by rw [upd_ne (hm b _ q fun z => z)]; exact q, fun b ps q => ⟨#[], by rw [upd_ne (hm b _ q fun z => z), q]; simp⟩⟩
  by_cases hbe : b = e
  · subst hbe; exact heo
  · exact ⟨u, k b u hbe q⟩
end

/-! ### the heap without what is tracked -/
def trk (h : Heap) (H : Hp) : List Addr := (List.range h.objs.size).filter fun a => (H a).isSome
def hidT (h : Heap) (H : Hp) : Heap := PySem.W.hideAll h (trk h H)
theorem hidT_size (h : Heap) (H : Hp) : (hidT h H).objs.size = h.objs.size := PySem.W.hideAll_size _ _
theorem hidT_get {h : Heap} {H : Hp} {b : Addr} {o : Obj} (e : h.get? b = some o) (n : H b = none) : (hidT h H).get? b = some o :=
  PySem.W.hideAll_get _ e fun hm => by
    have q : (H b).isSome = true := (List.mem_filter.mp hm).2
    rw [n] at q; simp at q
theorem of_hidT {h : Heap} {H : Hp} {b : Addr} {o : Obj} (e : (hidT h H).get? b = some o) : h.get? b = some o ∧ H b = none := by
  have e' : h.get? b = some o := PySem.W.of_hideAll (trk h H) e
  refine ⟨e', ?_⟩
  cases q : H b with
  | none => rfl
  | some x =>
    have hm : b ∈ trk h H := List.mem_filter.mpr ⟨List.mem_range.mpr (Heap.lt_size e'), by simp [q]⟩
    have z : (hidT h H).get? b = none := PySem.W.hideAll_none (trk h H) hm
    rw [z] at e; cases e

/-! ### OpenK's ledger, filled with every new object but one -/
def allNews (g h : Heap) (L : Addr) : List (Addr × Obj) := (List.range h.objs.size).filterMap fun a => if a = L ∨ (g.get? a).isSome = true then none else (h.get? a).map fun o => (a, o)
def rest (g h : Heap) (L d : Addr) : List (Addr × Obj) := (allNews g h L).filter fun p => decide (p.1 ≠ d)
end L2

namespace L2
open PySem PySem.Spec PyProof.Rows

/-- the module's facts, over the base: the heap at the law's entry without what is tracked there -/
structure Mod (K : PySem.W.Frag) (mg : Str → Option Value) (base : Heap) : Prop where
  kin : K.In base
  glob : base.Ns mainGlobals mg
  blt : ∃ mb, base.Ns builtinsNs mb ∧ ∀ x : Str, x ≠ "__name__" → mb x = bootBuiltins x
  nolimit : base.NoLimit

/-- the context: a def's body (or a comprehension's block) running. base: fixed through the whole law; s₀, H₀: the entry; outer: the frames whose slots others may change (a def's callers); stack: all frames that run;
   ex: iterators that were made ahead of the entry and are walked here (a comprehension's); fn: the names whose cells were made at the entry (a def: all; a comprehension's block: its own); calm: not within an except suite; pn: pins that every state bears; xe: what is wanted of an exception that leaves the code -/
structure Cx where
  prog : Program
  w : World
  K : PySem.W.Frag
  mg : Str → Option Value
  base : Heap
  A : Around
  N : List Str
  s₀ : Shared
  H₀ : Hp
  env : Env
  outer : List Env
  stack : List Env
  ex : List Addr
  fn : Str → Bool
  calm : Bool
  pn : List (Addr × Obj)
  xe : Value → Shared → Prop
/-- the callers' frames -/
def frs (l : List Env) : List Addr := l.filterMap (·.frame)
abbrev Cx.fs (X : Cx) : List Addr := frs X.outer

def Vis (sc : Scope) (x : Str) : Prop := sc.names.lookup x = some .local ∨ sc.names.lookup x = some .cell ∨ sc.names.lookup x = some .free
def Loc (sc : Scope) (x : Str) : Prop := sc.names.lookup x = some .local ∨ sc.names.lookup x = some .cell
def Look (env : Env) (h : Heap) (m : Str → Option Value) (x : Str) (u : Value) : Prop :=
  (env.kindOf x = some .local ∧ m x = some u) ∨ ((env.kindOf x = some .cell ∨ env.kindOf x = some .free) ∧ ∃ c, env.cells.lookup x = some c ∧ h.IsCell c (some u))

structure Cx.Ok (X : Cx) : Prop where
  mod : Mod X.K X.mg X.base
  kind : X.env.scope.kind = .function
  glob : X.env.globals = mainGlobals
  blt : X.env.builtins = builtinsNs
  above : X.s₀.heap.objs.size ≤ X.env.locals
  inj : ∀ x y c, X.env.cells.lookup x = some c → X.env.cells.lookup y = some c → x = y
  has : ∀ x, (X.env.kindOf x = some .cell ∨ X.env.kindOf x = some .free) → ∃ c, X.env.cells.lookup x = some c
  cab : ∀ x c, X.fn x = true → X.env.cells.lookup x = some c → X.s₀.heap.objs.size ≤ c
  hd : X.calm = true → X.A.handled = none
  frames : X.A.frames = some X.stack
  stk : X.stack = X.outer ∨ (X.stack = X.env :: X.outer ∧ X.env.frame = some X.env.locals)
  exf : ∀ b ∈ X.ex, b ≠ X.env.locals ∧ ∀ x c, X.env.cells.lookup x = some c → c ≠ b
  bs : ∀ b o, X.base.get? b = some o → X.s₀.heap.get? b = some o ∧ X.H₀ b = none
  bsz : X.base.objs.size ≤ X.s₀.heap.objs.size
  noex : ∀ b o, X.base.get? b = some o → b ∉ X.ex
  exfs : ∀ b ∈ X.ex, b ∉ X.fs
  funs : X.s₀.heap.FunFrames X.base X.outer
  frf : ∀ b ∈ X.fs, X.H₀ b = none

structure Inv (X : Cx) (pins : List (Addr × Obj)) (σ : List (Option V)) (H : Hp) (s : Shared) : Prop where
  ok : X.Ok
  os : s.os = X.s₀.os
  bare : AllBare s.gens
  base : Un X.fs X.ex X.H₀ H X.s₀.heap s.heap
  loc : ∃ m, s.heap.Ns X.env.locals m ∧ ∀ (i : Nat) (x : Str) (v : V), X.N[i]? = some x → σ[i]? = some (some v) → Vis X.env.scope x → ∃ u, RelV v u ∧ Look X.env s.heap m x u
  cell : ∀ x c, X.env.cells.lookup x = some c → ∃ v, s.heap.IsCell c v
  free : H X.env.locals = none
  freeC : ∀ x c, X.env.cells.lookup x = some c → H c = none
  pin : ∀ p ∈ X.pn ++ pins, s.heap.get? p.1 = some p.2 ∧ H p.1 = none ∧ p.1 ≠ X.env.locals ∧ p.1 ∉ X.fs ∧ ∀ v, p.2.data ≠ .cell v
  hok : HOk X.prog X.w H s.heap
  len : σ.length = X.N.length

section
variable {X : Cx} {pins : List (Addr × Obj)} {σ : List (Option V)} {H H' : Hp} {s : Shared} {h' : Heap}

theorem Cx.Ok.nofr (ok : X.Ok) {b : Addr} {o : Obj} (e : X.base.get? b = some o) : b ∉ X.fs := fun hb => by
  have := (ok.funs.mem hb).1
  rw [e] at this; cases this
theorem Inv.bs (I : Inv X pins σ H s) : ∀ b o, X.base.get? b = some o → s.heap.get? b = some o ∧ H b = none := fun b o e =>
  ⟨I.base.keep b o (I.ok.bs b o e).1 (I.ok.bs b o e).2 (I.ok.nofr e) (I.ok.noex b o e), I.base.free b o (I.ok.bs b o e).1 (I.ok.bs b o e).2 (I.ok.noex b o e)⟩
theorem Inv.bk (I : Inv X pins σ H s) : ∀ b o, X.base.get? b = some o → s.heap.get? b = some o := fun b o e => (I.bs b o e).1
theorem Inv.mod (I : Inv X pins σ H s) : Mod X.K X.mg X.base := I.ok.mod
theorem Inv.kIn (I : Inv X pins σ H s) : X.K.In s.heap := I.ok.mod.kin.keeps I.bk
theorem Inv.lt (I : Inv X pins σ H s) : X.env.locals < s.heap.objs.size := let ⟨_, hn, _⟩ := I.loc; hn.lt
theorem Inv.sz (I : Inv X pins σ H s) : X.s₀.heap.objs.size ≤ s.heap.objs.size := Nat.le_trans I.ok.above (Nat.le_of_lt I.lt)
theorem Inv.nofs (I : Inv X pins σ H s) {a : Addr} (h : s.heap.objs.size ≤ a) : a ∉ X.fs := fun hb => by
  obtain ⟨_, o, ho, _⟩ := I.ok.funs.mem hb
  exact absurd (Nat.lt_of_lt_of_le (Heap.lt_size ho) (Nat.le_trans I.sz h)) (Nat.lt_irrefl _)
theorem Inv.cne (I : Inv X pins σ H s) : ∀ x c, X.env.cells.lookup x = some c → c ≠ X.env.locals := fun x c e z => by
  obtain ⟨v, o, ho, hd⟩ := I.cell x c e
  obtain ⟨m, ⟨o', es, ep, ho', hd', _⟩, _⟩ := I.loc
  rw [z, ho'] at ho; cases ho; rw [hd'] at hd; cases hd
theorem Inv.funs (I : Inv X pins σ H s) : s.heap.FunFrames X.base X.outer := by
  have all : ∀ (l : List Env), (∀ b ∈ frs l, b ∈ X.fs) → X.s₀.heap.FunFrames X.base l → s.heap.FunFrames X.base l := by
    intro l
    induction l with
    | nil => intro _ _; trivial
    | cons env r ih =>
      intro hs hl
      obtain ⟨hk, ⟨L, o, hf, hn, ho, hd⟩, hr⟩ := hl
      have hL : L ∈ X.fs := hs L (by unfold frs; rw [List.filterMap_cons, hf]; exact List.mem_cons_self)
      obtain ⟨sl, e⟩ := I.base.slot L o ho (I.ok.frf L hL) hL fun z => I.ok.exfs L z hL
      exact ⟨hk, ⟨L, _, hf, hn, e, hd⟩, ih (fun b hb => hs b (by unfold frs; rw [List.filterMap_cons, hf]; exact List.mem_cons_of_mem _ hb)) hr⟩
  exact all X.outer (fun _ hb => hb) I.ok.funs

/-- the frames that run, for a call -/
theorem Inv.stack (I : Inv X pins σ H s) : s.heap.FunFrames X.base X.stack := by
  rcases I.ok.stk with e | ⟨e, hf⟩
  · rw [e]; exact I.funs
  · rw [e]
    obtain ⟨m, hn, _⟩ := I.loc
    refine .cons (by rw [I.ok.kind]; decide) hf hn ?_ I.funs
    exact Heap.get?_none_of_le (Nat.le_trans I.ok.bsz I.ok.above)
theorem Inv.stkSub (I : Inv X pins σ H s) : ∀ b ∈ frs X.stack, b ∈ X.env.locals :: X.fs := fun b hb => by
  rcases I.ok.stk with e | ⟨e, hf⟩
  · rw [e] at hb; exact List.mem_cons_of_mem _ hb
  · rw [e] at hb
    unfold frs at hb
    rw [List.filterMap_cons, hf] at hb
    exact hb
theorem Inv.stkFree (I : Inv X pins σ H s) : ∀ b ∈ frs X.stack, H b = none := fun b hb => by
  rcases List.mem_cons.mp (I.stkSub b hb) with e | hb
  · rw [e]; exact I.free
  · obtain ⟨_, o, ho, _⟩ := I.ok.funs.mem hb
    exact I.base.free b o ho (I.ok.frf b hb) fun z => I.ok.exfs b z hb

/-- THE STEP: the untracked objects but the frame and the records at ch are kept (the callers' frames up to slots), the frame's map is kept, the new abstract heap is held -/
theorem Inv.step {g' : Array GenState} {t' : Nat} {d' : Drawn} {ch : List Addr} (I : Inv X pins σ H s)
    (hch : ∀ b ∈ ch, (b ∈ X.ex ∨ X.s₀.heap.objs.size ≤ b) ∧ b ≠ X.env.locals ∧ (∀ x c, X.env.cells.lookup x = some c → c ≠ b) ∧ ∀ p ∈ X.pn ++ pins, p.1 ≠ b)
    (keep : ∀ b o, b ≠ X.env.locals → b ∉ X.fs → b ∉ ch → s.heap.get? b = some o → H b = none → h'.get? b = some o)
    (slot : ∀ b o, b ≠ X.env.locals → b ∈ X.fs → b ∉ ch → s.heap.get? b = some o → H b = none → ∃ sl, h'.get? b = some { o with slots := sl }) (free : ∀ b o, b ∉ ch → s.heap.get? b = some o → H b = none → H' b = none)
    (there : ∀ b o, b ∉ ch → s.heap.get? b = some o → ∃ o', h'.get? b = some o')
    (tups : ∀ b xs, H b = some (.tup xs) → H' b = some (.tup xs)) (frzs : ∀ b o u, H b = some (.frz o u) → H' b = some (.frz o u)) (tbls : ∀ b ps, H b = some (.tbl ps) → ∃ more, H' b = some (.tbl (ps ++ more)))
    (ns : ∀ m, s.heap.Ns X.env.locals m → h'.Ns X.env.locals m) (hok : HOk X.prog X.w H' h') (hg : AllBare g') :
    Inv X pins σ H' { s with heap := h', gens := g', drawn := d', toks := t' } := by
  have neL : ∀ b o, X.s₀.heap.get? b = some o → b ≠ X.env.locals := fun b o e => Nat.ne_of_lt (Nat.lt_of_lt_of_le (Heap.lt_size e) I.ok.above)
  have neC : ∀ b o, X.s₀.heap.get? b = some o → b ∉ X.ex → b ∉ ch := fun b o e hx hb => by
    rcases (hch b hb).1 with z | z
    · exact hx z
    · exact absurd (Nat.lt_of_lt_of_le (Heap.lt_size e) z) (Nat.lt_irrefl _)
  have cellK : ∀ x c, X.env.cells.lookup x = some c → ∀ v, s.heap.IsCell c v → h'.IsCell c v := fun x c e v ⟨o, ho, hd⟩ => by
    have nch : c ∉ ch := fun z => (hch c z).2.2.1 x c e rfl
    by_cases hc : c ∈ X.fs
    · obtain ⟨sl, q⟩ := slot c o (I.cne x c e) hc nch ho (I.freeC x c e)
      exact ⟨_, q, hd⟩
    · exact ⟨o, keep c o (I.cne x c e) hc nch ho (I.freeC x c e), hd⟩
  refine ⟨I.ok, I.os, hg, ⟨fun b o e n hb hx => ?_, fun b o e n hb hx => ?_, fun b o e n hx => ?_, fun b o e hx => ?_, fun b xs e => tups b xs (I.base.tups b xs e), fun b o xs e => frzs b o xs (I.base.frzs b o xs e), fun b ps e => ?_⟩, ?_, fun x c e => ?_, ?_, fun x c e => ?_, fun p hp => ?_, hok, I.len⟩
  · exact keep b o (neL b o e) hb (neC b o e hx) (I.base.keep b o e n hb hx) (I.base.free b o e n hx)
  · obtain ⟨sl, e1⟩ := I.base.slot b o e n hb hx
    obtain ⟨sl', e2⟩ := slot b _ (neL b o e) hb (neC b o e hx) e1 (I.base.free b o e n hx)
    exact ⟨sl', e2⟩
  · obtain ⟨o', e1⟩ := I.base.there b o e hx
    exact free b o' (neC b o e hx) e1 (I.base.free b o e n hx)
  · obtain ⟨o', e1⟩ := I.base.there b o e hx
    exact there b o' (neC b o e hx) e1
  · obtain ⟨m1, e1⟩ := I.base.tbls b ps e
    obtain ⟨m2, e2⟩ := tbls b _ e1
    exact ⟨m1 ++ m2, by rw [e2, Array.append_assoc]⟩
  · obtain ⟨m, hn, hl⟩ := I.loc
    refine ⟨m, ns m hn, fun i x v e1 e2 e3 => ?_⟩
    obtain ⟨u, r, l⟩ := hl i x v e1 e2 e3
    refine ⟨u, r, ?_⟩
    rcases l with l | ⟨k, c, e, z⟩
    · exact .inl l
    · exact .inr ⟨k, c, e, cellK x c e _ z⟩
  · obtain ⟨v, z⟩ := I.cell x c e
    exact ⟨v, cellK x c e v z⟩
  · obtain ⟨m, ⟨o, _, _, ho, _⟩, _⟩ := I.loc
    exact free _ o (fun z => (hch _ z).2.1 rfl) ho I.free
  · obtain ⟨v, o, ho, hd⟩ := I.cell x c e
    exact free c o (fun z => (hch c z).2.2.1 x c e rfl) ho (I.freeC x c e)
  · obtain ⟨e, n, ne, nf, d⟩ := I.pin p hp
    have nch : p.1 ∉ ch := fun z => (hch p.1 z).2.2.2 p hp rfl
    exact ⟨keep p.1 p.2 ne nf nch e n, free p.1 p.2 nch e n, ne, nf, d⟩
/-- .. where the frame's own object is kept too -/
theorem Inv.un {t' : Nat} (I : Inv X pins σ H s) (u : Un X.fs [] H H' s.heap h') (hok : HOk X.prog X.w H' h') : Inv X pins σ H' { s with heap := h', toks := t' } := by
  obtain ⟨m, ⟨o, es, ep, ho, r⟩, _⟩ := id I.loc
  obtain ⟨sl, hL⟩ := u.any ho I.free (by simp)
  exact I.step (g' := s.gens) (d' := s.drawn) (ch := []) (fun _ z => nomatch z) (fun b o _ hb _ e n => u.keep b o e n hb (by simp)) (fun b o _ hb _ e n => u.slot b o e n hb (by simp)) (fun b o _ e n => u.free b o e n (by simp)) (fun b o _ e => u.there b o e (by simp)) u.tups u.frzs u.tbls (fun m' hm => by
    obtain ⟨o', es', ep', ho', r'⟩ := hm
    rw [ho] at ho'; cases ho'
    exact ⟨_, es', ep', hL, r'⟩) hok I.bare
/-- behind a call (or a comprehension's block): the slots of this frame may have changed too, the records at ch may have turned -/
theorem Inv.call {g' : Array GenState} {t' : Nat} {d' : Drawn} {ch : List Addr} (I : Inv X pins σ H s) (u : Un (frs X.stack) ch H H' s.heap h') (hok : HOk X.prog X.w H' h') (hg : AllBare g')
    (hch : ∀ b ∈ ch, (b ∈ X.ex ∨ X.s₀.heap.objs.size ≤ b) ∧ b ≠ X.env.locals ∧ (∀ x c, X.env.cells.lookup x = some c → c ≠ b) ∧ ∀ p ∈ X.pn ++ pins, p.1 ≠ b) :
    Inv X pins σ H' { s with heap := h', gens := g', drawn := d', toks := t' } := by
  obtain ⟨m, ⟨o, es, ep, ho, r⟩, _⟩ := id I.loc
  obtain ⟨sl, hL⟩ := u.any ho I.free fun z => (hch _ z).2.1 rfl
  exact I.step (ch := ch) hch (fun b o hL hb hc e n => u.keep b o e n (fun z => (List.mem_cons.mp (I.stkSub b z)).elim hL hb) hc) (fun b o _ _ hc e n => u.any e n hc) (fun b o hc e n => u.free b o e n hc) (fun b o hc e => u.there b o e hc) u.tups u.frzs u.tbls (fun m' hm => by
    obtain ⟨o', es', ep', ho', r'⟩ := hm
    rw [ho] at ho'; cases ho'
    exact ⟨_, es', ep', hL, r'⟩) hok hg
/-- an untracked record of ours (an iterator) has turned -/
theorem Inv.turned {t' : Nat} {it : Addr} (I : Inv X pins σ H s) (k : ∀ b o, b ≠ it → s.heap.get? b = some o → h'.get? b = some o) (hn : H it = none) (hL : it ≠ X.env.locals)
    (h1 : it ∈ X.ex ∨ X.s₀.heap.objs.size ≤ it) (h2 : ∀ x c, X.env.cells.lookup x = some c → c ≠ it) (h3 : ∀ p ∈ X.pn ++ pins, p.1 ≠ it) : Inv X pins σ H { s with heap := h', toks := t' } := by
  have nit : ∀ b u, H b = some u → b ≠ it := fun b u e z => by rw [z, hn] at e; cases e
  refine I.step (g' := s.gens) (d' := s.drawn) (ch := [it]) (fun b hb => ?_) (fun b o _ _ hc e _ => k b o (fun z => hc (by simp [z])) e) (fun b o _ _ hc e _ => ⟨o.slots, k b o (fun z => hc (by simp [z])) e⟩) (fun _ _ _ _ n => n)
    (fun b o hc e => ⟨o, k b o (fun z => hc (by simp [z])) e⟩) (fun _ _ e => e) (fun _ _ _ e => e) (fun b ps e => ⟨#[], by rw [e]; simp⟩) (fun m hm => ?_) (fun b u e => ?_) I.bare
  · have e : b = it := by simpa using hb
    subst e
    exact ⟨h1, hL, h2, h3⟩
  · obtain ⟨o, es, ep, ho, r⟩ := hm
    exact ⟨o, es, ep, k _ o (Ne.symm hL) ho, r⟩
  · refine (I.hok b u e).stay (fun c v hc q => k c v ?_ q) (fun _ q => q) fun _ _ q => q
    rcases hc with z | z
    · rw [z]; exact nit b u e
    · exact nit c _ z
theorem Inv.tok (I : Inv X pins σ H s) (t : Nat) : Inv X pins σ H { s with toks := t } := I.un (h' := s.heap) (t' := t) Un.refl I.hok
/-- all objects kept -/
theorem Inv.kept {t' : Nat} (I : Inv X pins σ H s) (k : ∀ b u, s.heap.get? b = some u → h'.get? b = some u) : Inv X pins σ H { s with heap := h', toks := t' } := I.un (Un.kept k) (I.hok.kept k)
/-- a new object laid and tracked -/
theorem Inv.laid {a : Addr} {o : HO} {t' : Nat} (I : Inv X pins σ H s) (k : ∀ b u, s.heap.get? b = some u → h'.get? b = some u) (hp : s.heap.objs.size ≤ a) (new : ObjOk X.prog X.w (upd H a o) h' a o) :
    Inv X pins σ (upd H a o) { s with heap := h', toks := t' } := I.un (Un.laid k hp (I.hok.fresh hp)) (I.hok.laid k hp new)
/-- an object written -/
theorem Inv.write {x e : Addr} {o : HO} {t' : Nat} (I : Inv X pins σ H s) (mu : Mut (H x)) (he : e = x ∨ H e = some (.own x)) (k : ∀ b u, b ≠ e → s.heap.get? b = some u → h'.get? b = some u) (heo : ∃ u, h'.get? e = some u)
    (new : ObjOk X.prog X.w (upd H x o) h' x o) : Inv X pins σ (upd H x o) { s with heap := h', toks := t' } := I.un (Un.write mu he k heo) (I.hok.write mu he k heo new)
/-- forgetting slots, pins -/
theorem Inv.weak {σ' : List (Option V)} (I : Inv X pins σ H s) (hl : σ'.length = σ.length) (w : ∀ (i : Nat) v, σ'[i]? = some (some v) → σ[i]? = some (some v)) : Inv X pins σ' H s :=
  ⟨I.ok, I.os, I.bare, I.base, let ⟨m, hn, hl'⟩ := I.loc; ⟨m, hn, fun i x v e1 e2 e3 => hl' i x v e1 (w i v e2) e3⟩, I.cell, I.free, I.freeC, I.pin, I.hok, hl.trans I.len⟩
theorem Inv.pins_of {pins' : List (Addr × Obj)} (I : Inv X pins σ H s) (h : ∀ p ∈ pins', s.heap.get? p.1 = some p.2 ∧ H p.1 = none ∧ p.1 ≠ X.env.locals ∧ p.1 ∉ X.fs ∧ ∀ v, p.2.data ≠ .cell v) : Inv X pins' σ H s :=
  ⟨I.ok, I.os, I.bare, I.base, I.loc, I.cell, I.free, I.freeC, fun p hp => (List.mem_append.mp hp).elim (fun z => I.pin p (List.mem_append_left _ z)) (h p), I.hok, I.len⟩

theorem nodup_ix {N : List Str} (hN : N.Nodup) {i j : Nat} {x : Str} (a : N[i]? = some x) (b : N[j]? = some x) : i = j := by
  obtain ⟨h1, e1⟩ := List.getElem?_eq_some_iff.mp a
  obtain ⟨h2, e2⟩ := List.getElem?_eq_some_iff.mp b
  exact (List.getElem_inj hN).mp (e1.trans e2.symm)

/-- a name is stored; what changed -/
theorem store_ok2 {M : Model} {A : Around} {E : Value → Shared → Prop} {i : Nat} {x : Str} {v : V} {u : Value} {Q : Unit → Shared → Prop} (I : Inv X pins σ H s) (hN : X.N.Nodup) (hi : X.N[i]? = some x) (hx : Loc X.env.scope x) (r : RelV v u)
    (h : ∀ s', Inv X pins (σ.set i (some v)) H s' → (∃ a, Heap.SameBut a s.heap s'.heap ∧ (a = X.env.locals ∨ X.env.cells.lookup x = some a)) → Q () s') (hf : X.fn x = true ∨ X.env.scope.names.lookup x = some .local := by first | exact .inl rfl | exact .inr rfl | assumption) : wpAny M A (storeName X.env x u) Q E s := by
  obtain ⟨m, hn, hl⟩ := id I.loc
  have hcls : (X.env.scope.kind == .class || (X.env.scope.kind == .module && X.env.locals != X.env.globals)) = false := by rw [I.ok.kind]; rfl
  have hiσ : i < σ.length := by rw [I.len]; exact (List.getElem?_eq_some_iff.mp hi).1
  have cne := I.cne
  have tracked : ∀ {a : Addr} {h' : Heap}, (∃ o, s.heap.get? a = some o ∧ H a = none) → Heap.SameBut a s.heap h' → HOk X.prog X.w H h' := fun {a h'} ha hs b ob e => by
    obtain ⟨_, _, hfree⟩ := ha
    refine (I.hok b ob e).stay (fun c w' hc q => (hs.2 c ?_).trans q) (fun _ q => q) fun _ _ q => q
    rintro rfl
    rcases hc with rfl | hc
    · rw [hfree] at e; cases e
    · rw [hfree] at hc; cases hc
  rcases hx with hk | hk
  · refine wpAny_storeName_local hk hn (fun h' hn' hs => ?_) hcls
    obtain ⟨oL, _, _, hoL, _⟩ := id hn
    refine h _ ⟨I.ok, I.os, I.bare, ⟨fun b o e n hb hx => ?_, fun b o e n hb hx => ?_, I.base.free, fun b o e hx => ?_, I.base.tups, I.base.frzs, I.base.tbls⟩, ⟨_, hn', fun j y v' e1 e2 e3 => ?_⟩, fun y c e => ?_, I.free, I.freeC, fun p hp => ?_, tracked ⟨oL, hoL, I.free⟩ hs, by simpa using I.len⟩ ⟨_, hs, .inl rfl⟩
    · exact (hs.2 b (Nat.ne_of_lt (Nat.lt_of_lt_of_le (Heap.lt_size e) I.ok.above))).trans (I.base.keep b o e n hb hx)
    · obtain ⟨sl, e1⟩ := I.base.slot b o e n hb hx
      exact ⟨sl, (hs.2 b (Nat.ne_of_lt (Nat.lt_of_lt_of_le (Heap.lt_size e) I.ok.above))).trans e1⟩
    · obtain ⟨o', e1⟩ := I.base.there b o e hx
      exact ⟨o', (hs.2 b (Nat.ne_of_lt (Nat.lt_of_lt_of_le (Heap.lt_size e) I.ok.above))).trans e1⟩
    · by_cases hj : j = i
      · subst hj
        rw [hi] at e1; cases e1
        rw [List.getElem?_set_self hiσ] at e2
        cases e2
        exact ⟨u, r, .inl ⟨hk, by simp⟩⟩
      · rw [List.getElem?_set_ne (Ne.symm hj)] at e2
        obtain ⟨u', r', q⟩ := hl j y v' e1 e2 e3
        refine ⟨u', r', ?_⟩
        rcases q with ⟨k, e⟩ | ⟨k, c, e, z⟩
        · refine .inl ⟨k, ?_⟩
          have : y ≠ x := fun e => hj (nodup_ix hN e1 (e ▸ hi))
          simp [this, e]
        · exact .inr ⟨k, c, e, z.sameBut hs (cne y c e)⟩
    · obtain ⟨w', z⟩ := I.cell y c e
      exact ⟨w', z.sameBut hs (cne y c e)⟩
    · obtain ⟨e, n, ne, nf, d⟩ := I.pin p hp
      exact ⟨(hs.2 p.1 ne).trans e, n, ne, nf, d⟩
  · have hfn : X.fn x = true := by
      rcases hf with z | z
      · exact z
      · rw [z] at hk; cases hk
    obtain ⟨c, hc⟩ := I.ok.has x (.inl hk)
    obtain ⟨w', z⟩ := I.cell x c hc
    refine wpAny_storeName_cell I.ok.kind hk hc z (fun h' hc' hs => ?_)
    obtain ⟨oc, hoc, hocd⟩ := id z
    refine h { s with heap := h' } ⟨I.ok, I.os, I.bare, ⟨fun b o e n hb hx => ?_, fun b o e n hb hx => ?_, I.base.free, fun b o e hx => ?_, I.base.tups, I.base.frzs, I.base.tbls⟩, ⟨m, hn.sameBut hs (Ne.symm (cne x c hc)), fun j y v' e1 e2 e3 => ?_⟩, fun y c' e => ?_, I.free, I.freeC, fun p hp => ?_, tracked ⟨oc, hoc, I.freeC x c hc⟩ hs, by simpa using I.len⟩ ⟨c, hs, .inr hc⟩
    · exact (hs.2 b (Nat.ne_of_lt (Nat.lt_of_lt_of_le (Heap.lt_size e) (I.ok.cab x c hfn hc)))).trans (I.base.keep b o e n hb hx)
    · obtain ⟨sl, e1⟩ := I.base.slot b o e n hb hx
      exact ⟨sl, (hs.2 b (Nat.ne_of_lt (Nat.lt_of_lt_of_le (Heap.lt_size e) (I.ok.cab x c hfn hc)))).trans e1⟩
    · obtain ⟨o', e1⟩ := I.base.there b o e hx
      exact ⟨o', (hs.2 b (Nat.ne_of_lt (Nat.lt_of_lt_of_le (Heap.lt_size e) (I.ok.cab x c hfn hc)))).trans e1⟩
    · by_cases hj : j = i
      · subst hj
        rw [hi] at e1; cases e1
        rw [List.getElem?_set_self hiσ] at e2
        cases e2
        exact ⟨u, r, .inr ⟨.inl hk, c, hc, hc'⟩⟩
      · rw [List.getElem?_set_ne (Ne.symm hj)] at e2
        obtain ⟨u', r', q⟩ := hl j y v' e1 e2 e3
        refine ⟨u', r', ?_⟩
        rcases q with q | ⟨k, c', e, z'⟩
        · exact .inl q
        · refine .inr ⟨k, c', e, z'.sameBut hs ?_⟩
          rintro rfl
          exact hj (nodup_ix hN e1 (I.ok.inj _ _ _ e hc ▸ hi))
    · by_cases hcc : c' = c
      · subst hcc; exact ⟨_, hc'⟩
      · obtain ⟨w2, z2⟩ := I.cell y c' e
        exact ⟨w2, z2.sameBut hs hcc⟩
    · obtain ⟨e, n, ne, nf, d⟩ := I.pin p hp
      refine ⟨(hs.2 p.1 ?_).trans e, n, ne, nf, d⟩
      intro q
      rw [q, hoc] at e
      have q' : oc = p.2 := Option.some.inj e
      exact d w' (by rw [← q']; exact hocd)
theorem store_ok {M : Model} {A : Around} {E : Value → Shared → Prop} {i : Nat} {x : Str} {v : V} {u : Value} {Q : Unit → Shared → Prop} (I : Inv X pins σ H s) (hN : X.N.Nodup) (hi : X.N[i]? = some x) (hx : Loc X.env.scope x) (r : RelV v u)
    (h : ∀ s', Inv X pins (σ.set i (some v)) H s' → Q () s') (hf : X.fn x = true ∨ X.env.scope.names.lookup x = some .local := by first | exact .inl rfl | exact .inr rfl | assumption) : wpAny M A (storeName X.env x u) Q E s :=
  store_ok2 I hN hi hx r (fun s' I' _ => h s' I') hf
/-- behind a call or a block, the state as it is -/
theorem Inv.call' {s' : Shared} {ch : List Addr} (I : Inv X pins σ H s) (ho : s'.os = s.os) (u : Un (frs X.stack) ch H H' s.heap s'.heap) (hok : HOk X.prog X.w H' s'.heap) (hg : AllBare s'.gens)
    (hch : ∀ b ∈ ch, (b ∈ X.ex ∨ X.s₀.heap.objs.size ≤ b) ∧ b ≠ X.env.locals ∧ (∀ x c, X.env.cells.lookup x = some c → c ≠ b) ∧ ∀ p ∈ X.pn ++ pins, p.1 ≠ b) : Inv X pins σ H' s' := by
  obtain ⟨h', g', d', t', o'⟩ := s'
  have e : o' = s.os := ho
  subst e
  exact I.call (g' := g') (t' := t') (d' := d') u hok hg hch
end

/-! ### the judgements -/
/-- an exception: its class, its own dict's address (where it has one), the abstract heap behind it -/
abbrev XK := Value → Option Addr → Hp → Prop
abbrev St := List (Option V)
abbrev VK := V → Hp → Prop
/-- an expression's reading; a test's; an argument list's -/
abbrev TE := St → Hp → VK → Prop
abbrev TT := St → Hp → (Bool → Hp → Prop) → Prop
abbrev TA := St → Hp → (List V → Hp → Prop) → Prop
/-- what is wanted behind a statement -/
structure Ends where
  nx : St → Hp → Prop
  rt : VK
  bk : St → Hp → Prop := fun _ _ => False
  ct : St → Hp → Prop := fun _ _ => False
abbrev TS := Ends → St → Hp → Prop

def EP (X : Cx) (pins : List (Addr × Obj)) (σ : St) (Q : VK) (u : Value) (s' : Shared) : Prop := ∃ v H', Inv X pins σ H' s' ∧ RelV v u ∧ Q v H'
def TP (X : Cx) (pins : List (Addr × Obj)) (σ : St) (Q : Bool → Hp → Prop) (b : Bool) (s' : Shared) : Prop := ∃ H', Inv X pins σ H' s' ∧ Q b H'
def AP (X : Cx) (pins : List (Addr × Obj)) (σ : St) (Q : List V → Hp → Prop) (us : List Value) (s' : Shared) : Prop := ∃ vs H', Inv X pins σ H' s' ∧ Vals vs us ∧ Q vs H'
def SP (X : Cx) (pins : List (Addr × Obj)) (D : Ends) (f : Flow) (s' : Shared) : Prop :=
  match f with
  | .next => ∃ σ' H', Inv X pins σ' H' s' ∧ D.nx σ' H'
  | .brk => ∃ σ' H', Inv X pins σ' H' s' ∧ D.bk σ' H'
  | .cont => ∃ σ' H', Inv X pins σ' H' s' ∧ D.ct σ' H'
  | .ret u => ∃ v σ' H', Inv X pins σ' H' s' ∧ RelV v u ∧ D.rt v H'

def PE (X : Cx) (e : Expr) (t : TE) : Prop :=
  ∀ (pins : List (Addr × Obj)) (s : Shared) (σ : St) (H : Hp) (Q : VK), Inv X pins σ H s → t σ H Q → wpAny (model X.prog X.w) X.A (eval e X.env) (EP X pins σ Q) X.xe s
def PT (X : Cx) (e : Expr) (t : TT) : Prop :=
  ∀ (pins : List (Addr × Obj)) (s : Shared) (σ : St) (H : Hp) (Q : Bool → Hp → Prop), Inv X pins σ H s → t σ H Q → wpAny (model X.prog X.w) X.A (isTrue e X.env (eval e X.env)) (TP X pins σ Q) X.xe s
/-- a test whatever its 'whole' is (and, or) -/
def PW (X : Cx) (e : Expr) (t : TT) : Prop :=
  ∀ (whole : Sem Value) (pins : List (Addr × Obj)) (s : Shared) (σ : St) (H : Hp) (Q : Bool → Hp → Prop), Inv X pins σ H s → t σ H Q → wpAny (model X.prog X.w) X.A (isTrue e X.env whole) (TP X pins σ Q) X.xe s
theorem PW.pt {X : Cx} {e : Expr} {t : TT} (h : PW X e t) : PT X e t := h _
/-- an argument list (no star), from the left -/
def PA (X : Cx) (es : List Expr) (t : TA) : Prop :=
  ∀ (pos : Pos) (pins : List (Addr × Obj)) (s : Shared) (σ : St) (H : Hp) (Q : List V → Hp → Prop), Inv X pins σ H s → t σ H Q → wpAny (model X.prog X.w) X.A (spliced (backTo pos (starEach es X.env))) (AP X pins σ Q) X.xe s
def PS (X : Cx) (st : Stmt) (t : TS) : Prop :=
  ∀ (pins : List (Addr × Obj)) (s : Shared) (σ : St) (H : Hp) (D : Ends), Inv X pins σ H s → t D σ H → wpAny (model X.prog X.w) X.A (exec st X.env) (SP X pins D) X.xe s
def PSs (X : Cx) (st : List Stmt) (t : TS) : Prop :=
  ∀ (pins : List (Addr × Obj)) (s : Shared) (σ : St) (H : Hp) (D : Ends), Inv X pins σ H s → t D σ H → wpAny (model X.prog X.w) X.A (execs st X.env) (SP X pins D) X.xe s
/-- weaken the end -/
theorem thn {α : Type} {t : Sem α} {Q Q' : α → Shared → Prop} {M : Model} {A : Around} {E : Value → Shared → Prop} {s : Shared} (h : wpAny M A t Q E s) (hQ : ∀ a s, Q a s → Q' a s) : wpAny M A t Q' E s := wpAny_mono h hQ fun _ _ x => x
end L2

namespace L2
open PySem PySem.Spec PyProof.Rows
section
variable {X : Cx}


/-! ### names and constants -/
def tVar (i : Nat) : TE := fun σ H Q => ∃ v, σ[i]? = some (some v) ∧ Q v H
def tC (v : V) : TE := fun _ H Q => Q v H
theorem pe_var {i : Nat} {x : Str} {pos : Pos} (hN : X.N[i]? = some x) (hv : Vis X.env.scope x) (hd : (x == ("__debug__" : Str)) = false := by decide) (hcd : (x == ("__classdict__" : Str)) = false := by decide) : PE X (.Name x pos) (tVar i) := by
  intro pins s σ H Q I h
  obtain ⟨v, e, h⟩ := h
  obtain ⟨m, hn, hl⟩ := I.loc
  obtain ⟨u, r, l⟩ := hl i x v hN e hv
  have fin : EP X pins σ Q u s := ⟨v, H, I, r, h⟩
  rcases l with ⟨hk, hm⟩ | ⟨hk, c, hc, hcell⟩
  · exact wpAny_Name (wpAny_loadName_local I.ok.kind hk hn hm fin) hd
  · rcases hk with hk | hk
    · exact wpAny_Name (wpAny_loadName_cell I.ok.kind hk hc hcell fin) hd
    · exact wpAny_Name (wpAny_loadName_free I.ok.kind hk hc hcell fin hcd) hd
theorem pe_int {i j pos} : PE X (.Constant (.int i) j pos) (tC (.int i)) := fun _ _ _ H _ I h => wpAny_Constant_int ⟨.int i, H, I.tok _, ⟨_, rfl⟩, h⟩
theorem pe_bl {b j pos} : PE X (.Constant (.bool b) j pos) (tC (.bl b)) := fun _ _ _ H _ I h => Constant_bool ⟨.bl b, H, I, rfl, h⟩
theorem pe_non {j pos} : PE X (.Constant .none j pos) (tC .non) := fun _ _ _ H _ I h => Constant_none ⟨.non, H, I, rfl, h⟩
theorem pe_str {x j pos} : PE X (.Constant (.str x) j pos) (tC (.str x)) := fun _ _ _ H _ I h => Calls.Constant_str ⟨.str x, H, I.tok _, ⟨_, rfl⟩, h⟩

/-- a global name of the def -/
def Gl (X : Cx) (x : Str) : Prop := X.env.kindOf x = some .globalImplicit
theorem ld_glob {E : Value → Shared → Prop} {pins : List (Addr × Obj)} {s : Shared} {σ : St} {H : Hp} {x : Str} {u : Value} {pos : Pos} {Q : Value → Shared → Prop} (I : Inv X pins σ H s) (hg : Gl X x) (hm : X.mg x = some u) (h : Q u s)
    (hd : (x == ("__debug__" : Str)) = false := by decide) : wpAny (model X.prog X.w) X.A (eval (.Name x pos) X.env) Q E s :=
  Calls.Name_function_global I.ok.kind hg (Calls.loadGlobal_global (by rw [I.ok.glob]; exact I.mod.glob.keeps I.bk) hm h) hd
theorem ld_blt {E : Value → Shared → Prop} {pins : List (Addr × Obj)} {s : Shared} {σ : St} {H : Hp} {x : Str} {u : Value} {pos : Pos} {Q : Value → Shared → Prop} (I : Inv X pins σ H s) (hg : Gl X x) (hm : X.mg x = none) (hv : bootBuiltins x = some u) (h : Q u s)
    (hn : x ≠ "__name__" := by decide) (hd : (x == ("__debug__" : Str)) = false := by decide) : wpAny (model X.prog X.w) X.A (eval (.Name x pos) X.env) Q E s := by
  obtain ⟨mb, h1, h2⟩ := I.mod.blt
  exact Calls.Name_function_global I.ok.kind hg (Calls.loadGlobal_builtin (by rw [I.ok.glob]; exact I.mod.glob.keeps I.bk) hm (by rw [I.ok.blt]; exact h1.keeps I.bk) ((h2 x hn).trans hv) h) hd
/-- a module's constant, a class, a function, as a value -/
theorem pe_glob {x : Str} {v : V} {u : Value} {pos : Pos} (hg : Gl X x) (hm : X.mg x = some u) (r : RelV v u) (hd : (x == ("__debug__" : Str)) = false := by decide) : PE X (.Name x pos) (tC v) :=
  fun _ _ _ H _ I h => ld_glob I hg hm ⟨v, H, I, r, h⟩ hd
theorem pe_bltn {x : Str} {v : V} {u : Value} {pos : Pos} (hg : Gl X x) (hm : X.mg x = none) (hv : bootBuiltins x = some u) (r : RelV v u) (hn : x ≠ "__name__" := by decide) (hd : (x == ("__debug__" : Str)) = false := by decide) : PE X (.Name x pos) (tC v) :=
  fun _ _ _ H _ I h => ld_blt I hg hm hv ⟨v, H, I, r, h⟩ hn hd

/-! ### arithmetic -/
/-- two ints -/
def t2I (ta tb : TE) (k : Int → Int → Hp → Prop) : St → Hp → Prop := fun σ H => ta σ H fun x H1 => tb σ H1 fun y H2 => ∃ i j, x = .int i ∧ y = .int j ∧ k i j H2
def tAdd (ta tb : TE) : TE := fun σ H Q => t2I ta tb (fun i j H2 => Q (.int (i + j)) H2) σ H
def tSub (ta tb : TE) : TE := fun σ H Q => t2I ta tb (fun i j H2 => Q (.int (i - j)) H2) σ H
/-- the left factor below 2^64 -/
def tMul (ta tb : TE) : TE := fun σ H Q => t2I ta tb (fun i j H2 => (-(2 ^ 64) < i ∧ i < 2 ^ 64) ∧ Q (.int (i * j)) H2) σ H
variable {a b : Expr} {ta tb : TE} {pos : Pos}

/-! ### comparisons -/
def PC (X : Cx) (op : CmpOp) (a b : Expr) (t : TE) : Prop :=
  ∀ (pins : List (Addr × Obj)) (s : Shared) (σ : St) (H : Hp) (Q : VK), Inv X pins σ H s → t σ H Q →
    wpAny (model X.prog X.w) X.A (eval a X.env) (fun v s₁ => wpAny (model X.prog X.w) X.A (eval b X.env) (fun u s₂ => wpAny (model X.prog X.w) X.A (compareOp op v u) (EP X pins σ Q) X.xe s₂) X.xe s₁) X.xe s
def tCmp (p : Int → Int → Bool) (ta tb : TE) : TE := fun σ H Q => t2I ta tb (fun i j H2 => Q (.bl (p i j)) H2) σ H
abbrev tLt : TE → TE → TE := tCmp fun i j => decide (i < j)
abbrev tLe : TE → TE → TE := tCmp fun i j => decide (i ≤ j)
abbrev tGt : TE → TE → TE := tCmp fun i j => decide (j < i)
abbrev tGe : TE → TE → TE := tCmp fun i j => decide (j ≤ i)
abbrev tEqI : TE → TE → TE := tCmp fun i j => decide (i = j)
abbrev tNeI : TE → TE → TE := tCmp fun i j => !decide (i = j)
/-- is None -/
def tIsN (ta : TE) : TE := fun σ H Q => ta σ H fun x H1 => Q (.bl (decide (x = .non))) H1
def tNotN (ta : TE) : TE := fun σ H Q => ta σ H fun x H1 => Q (.bl (!decide (x = .non))) H1
/-- a comparison as a value, as a test -/
def tB (t : TE) : TT := fun σ H Q => t σ H fun x H1 => ∃ c, x = .bl c ∧ Q c H1
/-- an expression whose value is a bool, as a test -/
theorem pt_val {e : Expr} {t : TE} (h : PE X e t) (he : ∀ whole, isTrue e X.env whole = (do let v ← whole; standAt e.pos; holding [v] (truthy v)) := by intro _; rfl) : PT X e (tB t) := by
  intro pins s σ H Q I hw
  refine isTrue_plain (thn (h pins s σ H _ I hw) fun v s1 ⟨x, H1, I1, r1, q1⟩ => ?_) (he _)
  obtain ⟨d, rfl, q⟩ := q1
  cases r1
  exact wpAny_truthy_bool ⟨H1, I1, q⟩

/-! ### and, or, not -/
variable {tA tB' : TT} {rest : List Expr}
def tAnd (t u : TT) : TT := fun σ H Q => t σ H fun c H1 => if c = true then u σ H1 Q else Q false H1
def tOr (t u : TT) : TT := fun σ H Q => t σ H fun c H1 => if c = true then Q true H1 else u σ H1 Q
def tNot (t : TT) : TT := fun σ H Q => t σ H fun c H1 => Q (!c) H1
theorem pw_or1 (ha : PT X a tA) : PW X (.BoolOp .Or [a] pos) tA := by
  intro wh pins s σ H Q I h
  refine isTrue_or (thn (ha pins s σ H Q I h) fun c s1 e => ?_)
  cases c with
  | false => exact isTrue_or_nil e
  | true => exact e
theorem pw_or (ha : PT X a tA) (hb : PW X (.BoolOp .Or (b :: rest) pos) tB') : PW X (.BoolOp .Or (a :: b :: rest) pos) (tOr tA tB') := by
  intro wh pins s σ H Q I h
  refine isTrue_or (thn (ha pins s σ H _ I h) fun c s1 ⟨H1, I1, q1⟩ => ?_)
  cases c with
  | true => exact ⟨H1, I1, q1⟩
  | false => exact hb wh pins s1 σ H1 Q I1 q1
theorem pt_not (ha : PT X a tA) : PT X (.UnaryOp .Not a pos) (tNot tA) := by
  intro pins s σ H Q I h
  exact isTrue_not (ha pins s σ H (fun c H1 => Q (!c) H1) I h)
/-- .. as values (bools) -/
def tAndV (ta tb : TE) : TE := fun σ H Q => ta σ H fun x H1 => ∃ c, x = .bl c ∧ if c = true then tb σ H1 Q else Q (.bl false) H1
def tOrV (ta tb : TE) : TE := fun σ H Q => ta σ H fun x H1 => ∃ c, x = .bl c ∧ if c = true then Q (.bl true) H1 else tb σ H1 Q
def tNotV (ta : TE) : TE := fun σ H Q => ta σ H fun x H1 => ∃ c, x = .bl c ∧ Q (.bl (!c)) H1
/-- a if t else b -/
def tIf (t : TT) (ta tb : TE) : TE := fun σ H Q => t σ H fun c H1 => if c = true then ta σ H1 Q else tb σ H1 Q
end
end L2

namespace L2
open PySem PySem.Spec PyProof.Rows

/-! ### a list, a tuple that is read: tracked, frozen, or an object of the module -/
def SqL (K : PySem.W.Frag) (H : Hp) (a : Addr) (xs : List V) : Prop :=
  Rd H a (.lst xs) ∨
    ∃ (o : Obj) (its : Array Value) (n : Nat), K.lookup a = some o ∧ o.cls = .type "list" ∧ o.dict = none ∧ o.data = .seq its n ∧ its.size ≤ sizeLine ∧ Vals xs its.toList
def SqT (K : PySem.W.Frag) (H : Hp) (a : Addr) (xs : List V) : Prop :=
  Rd H a (.tup xs) ∨
    ∃ (o : Obj) (its : Array Value) (n : Nat), K.lookup a = some o ∧ o.cls = .type "tuple" ∧ o.data = .seq its n ∧ its.size ≤ sizeLine ∧ Vals xs its.toList
def absV : Value → Option V
  | .none => some .non
  | .bool b => some (.bl b)
  | .int i _ => some (.int i)
  | .str x _ => some (.str x)
  | .bytes b _ => some (.byt b)
  | .float b _ => some (.flt b)
  | .ref a => some (.ref a)
  | .type n => some (.ty n)
  | _ => none
section
variable {X : Cx} {pins : List (Addr × Obj)} {σ : St} {H : Hp} {s : Shared} {a : Addr} {xs ys : List V}
theorem SqL.of {K : PySem.W.Frag} (h : H a = some (.lst xs)) : SqL K H a xs := .inl (.inl h)
theorem SqT.of {K : PySem.W.Frag} (h : H a = some (.tup xs)) : SqT K H a xs := .inl (.inl h)
theorem Inv.list (I : Inv X pins σ H s) (h : SqL X.K H a xs) : ∃ its : List Value, Vals xs its ∧ PlainL s.heap a its.toArray ∧ xs.length ≤ sizeLine := by
  rcases h with h | ⟨o, its, n, hk, hc, hd, hs, hz, r⟩
  · obtain ⟨z, its, n, r, e⟩ := h.ok I.hok
    exact ⟨its, r, ⟨_, n, e, rfl, rfl, rfl⟩, z⟩
  · refine ⟨its.toList, r, ⟨o, n, I.kIn a o hk, hc, hd, by simpa using hs⟩, ?_⟩
    have e := r.length
    simp only [Array.length_toList] at e
    omega
theorem Inv.tuple (I : Inv X pins σ H s) (h : SqT X.K H a xs) : ∃ its : List Value, Vals xs its ∧ IsTup s.heap a its.toArray ∧ xs.length ≤ sizeLine := by
  rcases h with h | ⟨o, its, n, hk, hc, hs, hz, r⟩
  · obtain ⟨z, its, r, p⟩ := h.ok I.hok
    exact ⟨its, r, p, z⟩
  · refine ⟨its.toList, r, ⟨o, I.kIn a o hk, hc, n, by simpa using hs⟩, ?_⟩
    have e := r.length
    simp only [Array.length_toList] at e
    omega
end

/-! ### another wish about exceptions -/
abbrev Cx.wish (X : Cx) (E : Value → Shared → Prop) : Cx := { X with xe := E }
/-- no exception leaves -/
abbrev Cx.nox (X : Cx) : Cx := X.wish fun _ _ => False
theorem Cx.Ok.wish {X : Cx} (ok : X.Ok) (E : Value → Shared → Prop) : (X.wish E).Ok :=
  ⟨ok.mod, ok.kind, ok.glob, ok.blt, ok.above, ok.inj, ok.has, ok.cab, ok.hd, ok.frames, ok.stk, ok.exf, ok.bs, ok.bsz, ok.noex, ok.exfs, ok.funs, ok.frf⟩
theorem Cx.Ok.unwish {X : Cx} {E : Value → Shared → Prop} (ok : (X.wish E).Ok) : X.Ok :=
  ⟨ok.mod, ok.kind, ok.glob, ok.blt, ok.above, ok.inj, ok.has, ok.cab, ok.hd, ok.frames, ok.stk, ok.exf, ok.bs, ok.bsz, ok.noex, ok.exfs, ok.funs, ok.frf⟩
section
variable {X : Cx} {pins : List (Addr × Obj)} {σ : St} {H : Hp} {s : Shared} {E : Value → Shared → Prop}
theorem Inv.wish (I : Inv X pins σ H s) (E : Value → Shared → Prop) : Inv (X.wish E) pins σ H s := ⟨I.ok.wish E, I.os, I.bare, I.base, I.loc, I.cell, I.free, I.freeC, I.pin, I.hok, I.len⟩
theorem Inv.unwish (I : Inv (X.wish E) pins σ H s) : Inv X pins σ H s := ⟨I.ok.unwish, I.os, I.bare, I.base, I.loc, I.cell, I.free, I.freeC, I.pin, I.hok, I.len⟩
theorem SP.unwish {D : Ends} {f : Flow} {s' : Shared} (h : SP (X.wish E) pins D f s') : SP X pins D f s' := by
  cases f with
  | next => obtain ⟨σ', H', I, q⟩ := h; exact ⟨σ', H', I.unwish, q⟩
  | brk => obtain ⟨σ', H', I, q⟩ := h; exact ⟨σ', H', I.unwish, q⟩
  | cont => obtain ⟨σ', H', I, q⟩ := h; exact ⟨σ', H', I.unwish, q⟩
  | ret u => obtain ⟨v, σ', H', I, r, q⟩ := h; exact ⟨v, σ', H', I.unwish, r, q⟩
theorem PSs.nox {st : List Stmt} {t : TS} (h : PSs X.nox st t) : PSs X st t := fun pins s σ H D I hw =>
  wpAny_mono (h pins s σ H D (I.wish _) hw) (fun _ _ q => q.unwish) fun _ _ z => False.elim z
end

/-! ### blocks and small statements -/
section
variable {X : Cx} {st : Stmt} {rest : List Stmt} {t u : TS} {e : Expr} {te : TE} {pos : Pos}
def tNext : TS := fun D σ H => D.nx σ H
def tSeq (t u : TS) : TS := fun D σ H => t { D with nx := u D } σ H
theorem pss_nil : PSs X [] tNext := fun _ _ σ H _ I h => wpAny_execs_nil ⟨σ, H, I, h⟩
theorem pss_cons (h1 : PS X st t) (h2 : PSs X rest u) : PSs X (st :: rest) (tSeq t u) := by
  intro pins s σ H D I h
  refine wpAny_execs_cons (thn (h1 pins s σ H { D with nx := u D } I h) fun f s1 q => ?_)
  cases f with
  | next =>
    obtain ⟨σ', H', I', q⟩ := q
    exact h2 pins s1 σ' H' D I' q
  | ret v => exact q
  | brk => exact q
  | cont => exact q
theorem pss_one (h1 : PS X st t) : PSs X [st] t := by
  intro pins s σ H D I h
  refine wpAny_execs_cons (thn (h1 pins s σ H D I h) fun f s1 q => ?_)
  cases f with
  | next => exact wpAny_execs_nil q
  | ret v => exact q
  | brk => exact q
  | cont => exact q
def tBreak : TS := fun D σ H => D.bk σ H
def tCont : TS := fun D σ H => D.ct σ H
/-- in a def's body nothing is shown -/
theorem Inv.quiet {pins : List (Addr × Obj)} {σ : St} {H : Hp} {s : Shared} (I : Inv X pins σ H s) : interactive X.env = false := by simp [interactive, I.ok.kind]
/-- an expression whose value is dropped -/
def tDrop (te : TE) : TS := fun D σ H => te σ H fun _ H1 => D.nx σ H1
theorem ps_expr (he : PE X e te) (hs : swapsWith e none pos.line X.env = pure false := by rfl) : PS X (.Expr e pos) (tDrop te) := by
  intro pins s σ H D I h
  exact wpAny_Expr_any (thn (he pins s σ H _ I h) fun v s1 ⟨x, H1, I1, r1, q1⟩ => ⟨σ, H1, I1, q1⟩) I.quiet hs
def tRet (te : TE) : TS := fun D σ H => te σ H D.rt
theorem ps_ret (he : PE X e te) : PS X (.Return (some e) pos) (tRet te) := by
  intro pins s σ H D I h
  exact wpAny_Return_some (thn (he pins s σ H _ I h) fun v s1 ⟨x, H1, I1, r1, q1⟩ => ⟨x, σ, H1, I1, r1, q1⟩)
def tRetN : TS := fun D _ H => D.rt .non H
def tIfS (c : TT) (t u : TS) : TS := fun D σ H => c σ H fun b H1 => if b = true then t D σ H1 else u D σ H1
theorem ps_if {c : Expr} {a b : List Stmt} {tc : TT} (hc : PT X c tc) (ha : PSs X a t) (hb : PSs X b u) : PS X (.If c a b pos) (tIfS tc t u) := by
  intro pins s σ H D I h
  refine wpAny_If (thn (hc pins s σ H _ I h) fun d s1 ⟨H1, I1, q1⟩ => ?_)
  cases d with
  | true => exact ha pins s1 σ H1 D I1 q1
  | false => exact hb pins s1 σ H1 D I1 q1
/-- code that the proof never comes to -/
def tNever : TS := fun _ _ _ => False
end

/-! ### targets -/
abbrev TG := V → St → Hp → (St → Hp → Prop) → Prop
abbrev TGs := List V → St → Hp → (St → Hp → Prop) → Prop
def PG (X : Cx) (target : Expr) (t : TG) : Prop :=
  ∀ (pins : List (Addr × Obj)) (s : Shared) (σ : St) (H : Hp) (v : V) (u : Value) (Q : St → Hp → Prop), Inv X pins σ H s → RelV v u → t v σ H Q →
    wpAny (model X.prog X.w) X.A (assign target X.env u) (fun _ s' => ∃ σ' H', Inv X pins σ' H' s' ∧ Q σ' H') X.xe s
/-- several targets, one after another -/
def PGs (X : Cx) (ts : List Expr) (t : TGs) : Prop :=
  ∀ (pins : List (Addr × Obj)) (s : Shared) (σ : St) (H : Hp) (vs : List V) (us : List Value) (Q : St → Hp → Prop), Inv X pins σ H s → Vals vs us → t vs σ H Q →
    wpAny (model X.prog X.w) X.A (assignInOrder ((assignEach ts X.env).map (·.2)) us) (fun _ s' => ∃ σ' H', Inv X pins σ' H' s' ∧ Q σ' H') X.xe s
/-- o[i] = v, by values -/
abbrev TSet := V → V → V → Hp → (Hp → Prop) → Prop
def PSet (X : Cx) (t : TSet) : Prop :=
  ∀ (pins : List (Addr × Obj)) (s : Shared) (σ : St) (H : Hp) (o i v : V) (ov iv u : Value) (Q : Hp → Prop), Inv X pins σ H s → RelV o ov → RelV i iv → RelV v u → t o i v H Q →
    wpAny (model X.prog X.w) X.A (setItem ov iv u) (fun _ s' => ∃ H', Inv X pins σ H' s' ∧ Q H') X.xe s
/-- a op= b, by values -/
abbrev TIp := V → V → Hp → VK → Prop
def PIp (X : Cx) (op : Operator) (t : TIp) : Prop :=
  ∀ (pins : List (Addr × Obj)) (s : Shared) (σ : St) (H : Hp) (x y : V) (v u : Value) (Q : VK), Inv X pins σ H s → RelV x v → RelV y u → t x y H Q →
    wpAny (model X.prog X.w) X.A (inplaceOp op v u) (EP X pins σ Q) X.xe s
section
variable {X : Cx} {pos : Pos}
def gName (i : Nat) : TG := fun v σ H Q => Q (σ.set i (some v)) H
theorem pg_name {i : Nat} {x : Str} (hN : X.N.Nodup) (hi : X.N[i]? = some x) (hx : Loc X.env.scope x) (hf : X.fn x = true ∨ X.env.scope.names.lookup x = some .local := by first | exact .inl rfl | exact .inr rfl | assumption) : PG X (.Name x pos) (gName i) := by
  intro pins s σ H v u Q I r h
  exact wpAny_assign_Name (store_ok I hN hi hx r (fun s' I' => ⟨_, H, I', h⟩) hf)
def gNil : TGs := fun vs σ H Q => vs = [] ∧ Q σ H
def gCons (t : TG) (u : TGs) : TGs := fun vs σ H Q => ∃ v r, vs = v :: r ∧ t v σ H fun σ' H' => u r σ' H' Q
/-- (a, b, ..) = a tuple of that length -/
def gTup (K : PySem.W.Frag) (n : Nat) (t : TGs) : TG := fun v σ H Q => ∃ a xs, v = .ref a ∧ SqT K H a xs ∧ xs.length = n ∧ t xs σ H Q
/-- o[i] = .. -/
def gSub (to ti : TE) (t : TSet) : TG := fun v σ H Q => to σ H fun o H1 => ti σ H1 fun i H2 => t o i v H2 fun H3 => Q σ H3
/-- target = value -/
def tAsg (te : TE) (g : TG) : TS := fun D σ H => te σ H fun x H1 => g x σ H1 D.nx
/-- name = value -/
theorem ps_set {i : Nat} {x : Str} {e : Expr} {te : TE} {pos' : Pos} (hN : X.N.Nodup) (hi : X.N[i]? = some x) (hx : Loc X.env.scope x) (he : PE X e te) (hs : swapsWith e (some (.Name x pos')) pos.line X.env = pure false := by rfl) (hf : X.fn x = true ∨ X.env.scope.names.lookup x = some .local := by first | exact .inl rfl | exact .inr rfl | assumption) :
    PS X (.Assign [.Name x pos'] e pos) (tAsg te (gName i)) := by
  intro pins s σ H D I h
  refine wpAny_Assign_Name (thn (he pins s σ H _ I h) fun v s1 ⟨y, H1, I1, r1, q1⟩ => ?_) hs
  exact store_ok I1 hN hi hx r1 (fun s2 I2 => ⟨_, H1, I2, q1⟩) hf
/-- a, b = x, y with plain local names: stored from the right; the pair itself is not tracked (the opening rows as in PyProof/Rows/TupAssign.lean:23) -/
def tPar (i j : Nat) (ta : TA) : TS := fun D σ H => ta σ H fun vs H1 => ∃ v w, vs = [v, w] ∧ D.nx ((σ.set i (some v)).set j (some w)) H1
/-- name op= e -/
def tAug (i : Nat) (te : TE) (ti : TIp) : TS := fun D σ H => ∃ x, σ[i]? = some (some x) ∧ te σ H fun y H1 => ti x y H1 fun z H2 => D.nx (σ.set i (some z)) H2
/-- o[i] op= e -/
def tAugS (to ti te : TE) (tget : V → V → Hp → VK → Prop) (tip : TIp) (tset : TSet) : TS := fun D σ H => to σ H fun o H1 => ti σ H1 fun i H2 => tget o i H2 fun x H3 => te σ H3 fun y H4 => tip x y H4 fun z H5 => tset o i z H5 fun H6 => D.nx σ H6
/-- o[i], by values -/
def PGet (X : Cx) (t : V → V → Hp → VK → Prop) : Prop :=
  ∀ (pins : List (Addr × Obj)) (s : Shared) (σ : St) (H : Hp) (o i : V) (ov iv : Value) (Q : VK), Inv X pins σ H s → RelV o ov → RelV i iv → t o i H Q →
    wpAny (model X.prog X.w) X.A (getItem ov iv) (EP X pins σ Q) X.xe s
/-- ints -/
def ipI (f : Int → Int → Int) : TIp := fun x y H Q => ∃ i j, x = .int i ∧ y = .int j ∧ Q (.int (f i j)) H
end

/-! ### while -/
section
variable {X : Cx} {pos : Pos}
/-- the invariant W with its measure -/
def tWhile (c : TT) (tb : TS) : TS := fun D σ H => ∃ W : Nat → St → Hp → Prop, (∃ m, W m σ H) ∧ ∀ m σ H, W m σ H →
  c σ H fun b H1 => if b = true then ∃ N : St → Hp → Prop, (∀ σ' H', N σ' H' → ∃ m', m' < m ∧ W m' σ' H') ∧ tb { D with nx := N, ct := N, bk := D.nx } σ H1 else D.nx σ H1
end

/-! ### what a loop or a comprehension walks -/
/-- at turn i: it yields x (the heap may grow), or it stops -/
structure It where
  go : Nat → Hp → Prop
  yld : Nat → Hp → V → Hp → Prop
  stop : Nat → Hp → Prop
/-- the iterator's own objects may turn: they are not the frame's, not pinned, younger than the entry (or a comprehension's own) -/
def FpOk (X : Cx) (pins : List (Addr × Obj)) (H : Hp) (b : Addr) : Prop :=
  H b = none ∧ b ≠ X.env.locals ∧ b ∉ X.fs ∧ (b ∈ X.ex ∨ X.s₀.heap.objs.size ≤ b) ∧ (∀ x c, X.env.cells.lookup x = some c → c ≠ b) ∧ ∀ p ∈ X.pn ++ pins, p.1 ≠ b
theorem Inv.fpOk {X : Cx} {pins : List (Addr × Obj)} {σ : St} {H H' : Hp} {s : Shared} {b : Addr} (I : Inv X pins σ H s) (hb : s.heap.objs.size ≤ b) (hn : H' b = none) : FpOk X pins H' b := by
  refine ⟨hn, Nat.ne_of_gt (Nat.lt_of_lt_of_le I.lt hb), I.nofs hb, .inr (Nat.le_trans I.sz hb), fun x c e z => ?_, fun p hp z => ?_⟩
  · obtain ⟨v, q⟩ := I.cell x c e
    exact absurd (Nat.lt_of_lt_of_le q.lt (by rw [z]; exact hb)) (Nat.lt_irrefl _)
  · exact absurd (Nat.lt_of_lt_of_le (Heap.lt_size (I.pin p hp).1) (by rw [z]; exact hb)) (Nat.lt_irrefl _)
structure Turn (P : Program) (w : World) (K : PySem.W.Frag) (tg : Expr) (J : It) (fp : List Addr) (it : Addr) (tn : Nat → Heap → Prop) : Prop where
  mem : it ∈ fp
  obj : ∀ i h, tn i h → ∀ b ∈ fp, ∃ o, h.get? b = some o ∧ ∀ v, o.data ≠ .cell v
  keep : ∀ i h h', tn i h → (∀ b ∈ fp, ∀ o, h.get? b = some o → h'.get? b = some o) → tn i h'
  item : ∀ (X : Cx), X.prog = P → X.w = w → X.K = K → X.calm = true → ∀ (i : Nat) (pins : List (Addr × Obj)) (s : Shared) (σ : St) (H : Hp) (E : Value → Shared → Prop), Inv X pins σ H s → (∀ b ∈ fp, FpOk X pins H b) → tn i s.heap → J.go i H →
    wpAny (model P w) X.A (pyNext (.ref it)) (fun r s1 => ∃ u, r = some u ∧
      wpAny (model P w) X.A (letOwnedTupleGo tg (.ref it) u) (fun _ s2 => ∃ x H', Inv X pins σ H' s2 ∧ RelV x u ∧ J.yld i H x H' ∧ tn (i + 1) s2.heap ∧ ∀ b ∈ fp, H' b = none) E s1) E s
  done : ∀ (X : Cx), X.prog = P → X.w = w → X.K = K → X.calm = true → ∀ (i : Nat) (pins : List (Addr × Obj)) (s : Shared) (σ : St) (H : Hp) (E : Value → Shared → Prop), Inv X pins σ H s → (∀ b ∈ fp, FpOk X pins H b) → tn i s.heap → J.stop i H →
    wpAny (model P w) X.A (pyNext (.ref it)) (fun r s1 => r = none ∧ Inv X pins σ H s1) E s
  self : ∀ (A : Around) (i : Nat) (s : Shared) (Q : Value → Shared → Prop) (E : Value → Shared → Prop), tn i s.heap → Q (.ref it) s → wpAny (model P w) A (pyIter (.ref it)) Q E s
abbrev TI := St → Hp → (It → Hp → Prop) → Prop
/-- an iterator has come -/
def PIE (X : Cx) (pins : List (Addr × Obj)) (σ : St) (tg : Expr) (R : It → Hp → Prop) (itv : Value) (s2 : Shared) : Prop :=
  ∃ (it : Addr) (fp : List Addr) (tn : Nat → Heap → Prop) (J : It) (H' : Hp), itv = .ref it ∧ Inv X pins σ H' s2 ∧ Turn X.prog X.w X.K tg J fp it tn ∧ tn 0 s2.heap ∧ (∀ b ∈ fp, FpOk X pins H' b) ∧ R J H'
def PI (X : Cx) (tg iter : Expr) (wi : TI) : Prop :=
  ∀ (pins : List (Addr × Obj)) (s : Shared) (σ : St) (H : Hp) (R : It → Hp → Prop), Inv X pins σ H s → wi σ H R →
    wpAny (model X.prog X.w) X.A (eval iter X.env) (fun v s1 => wpAny (model X.prog X.w) X.A (pyIter v) (PIE X pins σ tg R) X.xe s1) X.xe s

/-- the step ahead of the store is nothing for an iterator that keeps no tuple -/
theorem go_of {M : Model} {A : Around} {E : Value → Shared → Prop} {s : Shared} {tg : Expr} {it : Addr} {u : Value} {o : Obj} {n : String} {vs : Array Value} {Q : Unit → Shared → Prop} (ho : s.heap.get? it = some o) (hc : o.cls = .type n) (hd : o.data = .fields vs)
    (hn : ["enumerate", "zip", "dict_itemiterator", "dict_reverseitemiterator", "odict_iterator", "itertools.zip_longest", "itertools.pairwise"].contains n = false) (hQ : Q () s) : wpAny M A (letOwnedTupleGo tg (.ref it) u) Q E s := by
  unfold letOwnedTupleGo
  cases tg <;> first
    | exact wpAny_pure hQ
    | (cases u <;> first
        | exact wpAny_pure hQ
        | (refine wpAny_bind (wpAny_load ho ?_)
           rw [hc, hd]
           show wpAny M A (if (["enumerate", "zip", "dict_itemiterator", "dict_reverseitemiterator", "odict_iterator", "itertools.zip_longest", "itertools.pairwise"].contains n && vs[0]? == some (rawInt _)) = true then _ else _) Q E s
           rw [if_neg (by intro h; rw [hn, Bool.false_and] at h; cases h)]
           exact wpAny_pure hQ))

/-- the list at a, as it stands at each turn (a loop may append to it) -/
def Itl (K : PySem.W.Frag) (a : Addr) : It :=
  ⟨fun i H => ∃ xs x, SqL K H a xs ∧ xs[i]? = some x, fun i H x H' => H' = H ∧ ∀ xs, SqL K H a xs → xs[i]? = some x, fun i H => ∃ xs, SqL K H a xs ∧ xs.length ≤ i⟩
def Itt (K : PySem.W.Frag) (a : Addr) : It :=
  ⟨fun i H => ∃ xs x, SqT K H a xs ∧ xs[i]? = some x, fun i H x H' => H' = H ∧ ∀ xs, SqT K H a xs → xs[i]? = some x, fun i H => ∃ xs, SqT K H a xs ∧ xs.length ≤ i⟩
/-- lo, lo + 1, .. (n of them) -/
def Itr (lo : Int) (n : Nat) : It := ⟨fun i _ => i < n, fun i H x H' => H' = H ∧ x = .int (lo + i), fun i _ => n ≤ i⟩
theorem turn_range {P : Program} {w : World} {K : PySem.W.Frag} {tg : Expr} (it : Addr) (lo : Int) (n : Nat) : Turn P w K tg (Itr lo n) [it] it (fun i h => IsRangeIter h it (lo + (i : Nat) * 1) ((n : Int) - (i : Nat)) 1) where
  mem := by simp
  obj := fun i h st b hb => by
    have e : b = it := by simpa using hb
    subst e
    exact ⟨_, st, fun v z => by
      have z' : Data.fields _ = Data.cell v := z
      cases z'⟩
  keep := fun i h h' st k => k it (by simp) _ st
  item := by
    intro X hP hw hK hc i pins s σ H E I hf st hg
    subst hP hw hK
    obtain ⟨f0, f1, f2, f3, f4, f5⟩ := hf it (by simp)
    have W := Walks.range (prog := X.prog) (w := X.w) (I.ok.hd hc) it lo 1 n
    refine W.item i s _ _ hg st fun v h' tk hv st' kk => ?_
    obtain ⟨t, rfl⟩ := hv
    have I1 : Inv X pins σ H { s with heap := h', toks := tk } := I.turned (fun b o hb e => kk b o (by simpa using hb) e) f0 f1 f3 f4 f5
    refine ⟨_, rfl, go_of (s := { s with heap := h', toks := tk }) (n := "range_iterator") st' rfl rfl (by decide) ⟨.int (lo + i), H, I1, ⟨t, ?_⟩, ⟨rfl, rfl⟩, st', fun b hb => (hf b hb).1⟩⟩
    rw [Int.mul_one]
  done := by
    intro X hP hw hK hc i pins s σ H E I hf st hg
    subst hP hw hK
    obtain ⟨f0, f1, f2, f3, f4, f5⟩ := hf it (by simp)
    exact wpAny_pyNext_range_end (I.ok.hd hc) st (by have : n ≤ i := hg; omega) fun h' eb => ⟨rfl, I.turned (t' := s.toks) (fun b o hb e => eb b o hb e) f0 f1 f3 f4 f5⟩
  self := fun _ _ _ _ _ st h => wpAny_pyIter_rangeiter st h
end L2

namespace L2
open PySem PySem.Spec PyProof.Rows
section
variable {X : Cx} {tg : Expr}
def iList (K : PySem.W.Frag) (tl : TE) : TI := fun σ H R => tl σ H fun x H1 => ∃ a, x = .ref a ∧ (∃ xs, SqL K H1 a xs) ∧ R (Itl K a) H1
def iTup (K : PySem.W.Frag) (tl : TE) : TI := fun σ H R => tl σ H fun x H1 => ∃ a, x = .ref a ∧ (∃ xs, SqT K H1 a xs) ∧ R (Itt K a) H1
/-- a range object just made, walked -/
theorem range_it {pins : List (Addr × Obj)} {σ : St} {H : Hp} {s : Shared} {R : It → Hp → Prop} {E : Value → Shared → Prop} {lo hi : Int} {t u v : Tok} {tk : Nat} (I : Inv X pins σ H s) (h1 : -(2 ^ 62) ≤ lo) (h2 : lo < 2 ^ 62) (h3 : -(2 ^ 62) ≤ hi) (h4 : hi < 2 ^ 62)
    (q : R (Itr lo (hi - lo).toNat) H) : wpAny (model X.prog X.w) X.A (pyIter (.ref s.heap.objs.size)) (PIE X pins σ tg R) E { s with heap := s.heap.push { cls := .type "range", data := .fields #[.int lo t, .int hi u, .int 1 v] }, toks := tk } := by
  refine wpAny_pyIter_range (IsRange.new ..) (small_one h1 h2 h3 h4) ?_
  have I1 : Inv X pins σ H { s with heap := s.heap.push { cls := .type "range", data := .fields #[.int lo t, .int hi u, .int 1 v] }, toks := tk } := I.kept fun b o e => Heap.get?_push_of_some _ e
  refine ⟨(s.heap.push { cls := .type "range", data := .fields #[.int lo t, .int hi u, .int 1 v] }).objs.size, [(s.heap.push { cls := .type "range", data := .fields #[.int lo t, .int hi u, .int 1 v] }).objs.size], _, _, H, rfl,
    I1.kept (t' := tk) fun b o e => Heap.get?_push_of_some _ e, turn_range _ lo (hi - lo).toNat, ?_, fun b hb => ?_, q⟩
  · have e1 : lo + ((0 : Nat) : Int) * 1 = lo := by simp
    have e2 : (((hi - lo).toNat : Nat) : Int) - ((0 : Nat) : Int) = Builtin.Range.rangeSize lo hi 1 := by rw [rangeSize_one]; split <;> omega
    show IsRangeIter _ _ (lo + ((0 : Nat) : Int) * 1) ((((hi - lo).toNat : Nat) : Int) - ((0 : Nat) : Int)) 1
    rw [e1, e2]
    exact Heap.get?_push_size _ rfl
  · have e : b = (s.heap.push { cls := .type "range", data := .fields #[.int lo t, .int hi u, .int 1 v] }).objs.size := by simpa using hb
    subst e
    exact I1.fpOk (Nat.le_refl _) (I1.hok.fresh (Nat.le_refl _))
def iRng1 (ta : TA) : TI := fun σ H R => ta σ H fun vs H1 => ∃ j : Int, vs = [.int j] ∧ -(2 ^ 62) ≤ j ∧ j < 2 ^ 62 ∧ R (Itr 0 j.toNat) H1
def iRng2 (ta : TA) : TI := fun σ H R => ta σ H fun vs H1 => ∃ i j : Int, vs = [.int i, .int j] ∧ (-(2 ^ 62) ≤ i ∧ i < 2 ^ 62 ∧ -(2 ^ 62) ≤ j ∧ j < 2 ^ 62) ∧ R (Itr i (j - i).toNat) H1
theorem pi_range1 {a : Expr} {ta : TA} {p pos : Pos} (hg : Gl X "range") (hm : X.mg "range" = none) (ha : PA X [a] ta) (hs : starEach [a] X.env = [(false, eval a X.env)] := by rfl) : PI X tg (.Call (.Name "range" p) [a] [] pos) (iRng1 ta) := by
  intro pins s σ H R I h
  refine Call_ (ld_blt I hg hm boot_range (PyProof.Rows.callWith_type1 (thn (ha pos pins s σ H _ I h) fun us s1 ⟨vs, H1, I1, r1, q1⟩ => ?_) hs rfl))
  obtain ⟨j, e, q1, q2, q⟩ := q1
  subst e
  cases r1 with
  | cons r rr =>
    cases rr
    obtain ⟨t, rfl⟩ := r
    exact call_range_1 (range_it I1 (by omega) (by omega) q1 q2 (by simpa using q))

/-! ### for -/
/-- W: the invariant by the turn and a measure; N: what the body is to reach -/
def tFor (wi : TI) (g : TG) (tb : TS) : TS := fun D σ H => wi σ H fun J H1 => ∃ W : Nat → Nat → St → Hp → Prop, (∃ m, W 0 m σ H1) ∧ ∀ i m σ H, W i m σ H →
  (J.stop i H ∧ D.nx σ H) ∨ (J.go i H ∧ ∃ N : St → Hp → Prop, (∀ σ' H', N σ' H' → ∃ m', m' < m ∧ W (i + 1) m' σ' H') ∧ ∀ x H', J.yld i H x H' → g x σ H' fun σ2 H2 => tb { D with nx := N, ct := N, bk := D.nx } σ2 H2)
/-- the records at fp as they stand -/
def pinsAt (fp : List Addr) (h : Heap) : List (Addr × Obj) := fp.filterMap fun b => (h.get? b).map fun o => (b, o)
theorem mem_pinsAt {fp : List Addr} {h : Heap} {b : Addr} {o : Obj} (hb : b ∈ fp) (e : h.get? b = some o) : (b, o) ∈ pinsAt fp h := List.mem_filterMap.mpr ⟨b, hb, by rw [e]; rfl⟩
theorem of_pinsAt {fp : List Addr} {h : Heap} {p : Addr × Obj} (hp : p ∈ pinsAt fp h) : p.1 ∈ fp ∧ h.get? p.1 = some p.2 := by
  obtain ⟨b, hb, e⟩ := List.mem_filterMap.mp hp
  cases q : h.get? b with
  | none => rw [q] at e; cases e
  | some o =>
    rw [q] at e
    have e' : (b, o) = p := Option.some.inj e
    subst e'
    exact ⟨hb, q⟩
theorem Inv.pinned {pins : List (Addr × Obj)} {σ : St} {H : Hp} {s : Shared} {fp : List Addr} (I : Inv X pins σ H s) (hf : ∀ b ∈ fp, FpOk X pins H b) (ho : ∀ b ∈ fp, ∃ o, s.heap.get? b = some o ∧ ∀ v, o.data ≠ .cell v) : Inv X (pins ++ pinsAt fp s.heap) σ H s :=
  I.pins_of fun p hp => (List.mem_append.mp hp).elim (fun z => I.pin p (List.mem_append_right _ z)) fun z => by
    obtain ⟨hb, e⟩ := of_pinsAt z
    obtain ⟨f0, f1, f2, _⟩ := hf p.1 hb
    obtain ⟨o, e', d⟩ := ho p.1 hb
    rw [e] at e'; cases e'
    exact ⟨e, f0, f1, f2, d⟩
theorem Inv.unpinned {pins pl : List (Addr × Obj)} {σ : St} {H : Hp} {s : Shared} (I : Inv X (pins ++ pl) σ H s) : Inv X pins σ H s := I.pins_of fun p hp => I.pin p (List.mem_append_right _ (List.mem_append_left _ hp))
theorem ps_for {iter : Expr} {body : List Stmt} {wi : TI} {g : TG} {tb : TS} {pos : Pos} (hp : PassesOwn (model X.prog X.w) X.A X.env X.xe) (hc : X.calm = true) (hi : PI X tg iter wi) (hg : PG X tg g) (hb : PSs X body tb)
    (hs : ∀ x, foldedSetIterable iter X.env x = pure x := by intro _; rfl) : PS X (.For tg iter body [] pos) (tFor wi g tb) := by
  intro pins s σ H D I h
  refine wpAny_For (thn (hi pins s σ H _ I h) fun v s1 h1 => thn h1 fun itv s2 h2 => ?_) hs
  obtain ⟨it, fp, tn, J, H2, e, I2, T, st2, f2, W, ⟨m0, w0⟩, turn⟩ := h2
  subst e
  -- what stays true of the iterator's objects through the loop
  have stat : ∀ {H' : Hp}, (∀ b ∈ fp, H' b = none) → ∀ b ∈ fp, FpOk X pins H' b := fun hn b hb => ⟨hn b hb, (f2 b hb).2⟩
  refine codeAny_forLoop_any (fun n s' => ∃ i σ' H', Inv X pins σ' H' s' ∧ tn i s'.heap ∧ (∀ b ∈ fp, H' b = none) ∧ W i n σ' H') ?_ m0 ⟨0, σ, H2, I2, st2, fun b hb => (f2 b hb).1, w0⟩
  rintro n s3 ⟨i, σ3, H3, I3, st3, fr3, w3⟩
  rcases turn i n σ3 H3 w3 with ⟨stop, qn⟩ | ⟨go, N, hN, step⟩
  · refine wpAny_passesOwn hp (thn (T.done X rfl rfl rfl hc i pins s3 σ3 H3 X.xe I3 (stat fr3) st3 stop) fun r s4 ⟨hr, I4⟩ => ?_)
    subst hr
    exact wpAny_execs_nil ⟨σ3, H3, I4, qn⟩
  · refine wpAny_passesOwn hp (thn (T.item X rfl rfl rfl hc i pins s3 σ3 H3 X.xe I3 (stat fr3) st3 go) fun r s4 ⟨u, hr, h4⟩ => ?_)
    subst hr
    refine wpAny_passesOwn hp (thn h4 fun _ s5 ⟨x, H5, I5, r5, y5, st5, fr5⟩ => ?_)
    have I5' := I5.pinned (stat fr5) (T.obj _ _ st5)
    refine wpAny_passesOwn hp (thn (hg _ s5 σ3 H5 x u _ I5' r5 (step x H5 y5)) fun _ s6 ⟨σ6, H6, I6, q6⟩ => ?_)
    refine wpAny_passesOwn hp (thn (hb _ s6 σ6 H6 _ I6 q6) fun f s7 q7 => ?_)
    have again : ∀ {σ7 : St} {H7 : Hp}, Inv X (pins ++ pinsAt fp s5.heap) σ7 H7 s7 → N σ7 H7 → ∃ m, m < n ∧ ∃ i σ' H', Inv X pins σ' H' s7 ∧ tn i s7.heap ∧ (∀ b ∈ fp, H' b = none) ∧ W i m σ' H' := fun {σ7 H7} I7 n7 => by
      obtain ⟨m', hm, w7⟩ := hN σ7 H7 n7
      refine ⟨m', hm, i + 1, σ7, H7, I7.unpinned, T.keep _ _ _ st5 fun b hb o e => (I7.pin (b, o) (List.mem_append_right _ (List.mem_append_right _ (mem_pinsAt hb e)))).1, fun b hb => ?_, w7⟩
      obtain ⟨o, e, d⟩ := T.obj _ _ st5 b hb
      exact (I7.pin (b, o) (List.mem_append_right _ (List.mem_append_right _ (mem_pinsAt hb e)))).2.1
    cases f with
    | next => obtain ⟨σ7, H7, I7, n7⟩ := q7; exact again I7 n7
    | cont => obtain ⟨σ7, H7, I7, n7⟩ := q7; exact again I7 n7
    | brk => obtain ⟨σ7, H7, I7, q7⟩ := q7; exact ⟨σ7, H7, I7.unpinned, q7⟩
    | ret v => obtain ⟨x7, σ7, H7, I7, r7, q7⟩ := q7; exact ⟨x7, σ7, H7, I7.unpinned, r7, q7⟩
end

/-! ### the forms one uses -/
theorem for_range {lo : Int} {n : Nat} {g : TG} {tb : TS} {D : Ends} {σ : St} {H : Hp} (Pv : Nat → St → Hp → Prop) (h0 : Pv 0 σ H)
    (hs : ∀ i σ H, i < n → Pv i σ H → g (.int (lo + i)) σ H fun σ2 H2 => tb { D with nx := Pv (i + 1), ct := Pv (i + 1), bk := D.nx } σ2 H2) (hd : ∀ σ H, Pv n σ H → D.nx σ H) :
    ∃ W : Nat → Nat → St → Hp → Prop, (∃ m, W 0 m σ H) ∧ ∀ i m σ H, W i m σ H →
      ((Itr lo n).stop i H ∧ D.nx σ H) ∨ ((Itr lo n).go i H ∧ ∃ N : St → Hp → Prop, (∀ σ' H', N σ' H' → ∃ m', m' < m ∧ W (i + 1) m' σ' H') ∧ ∀ x H', (Itr lo n).yld i H x H' → g x σ H' fun σ2 H2 => tb { D with nx := N, ct := N, bk := D.nx } σ2 H2) := by
  refine ⟨fun i m σ H => m = n - i ∧ i ≤ n ∧ Pv i σ H, ⟨n, by simp, Nat.zero_le _, h0⟩, ?_⟩
  rintro i m σ H ⟨rfl, hi, p⟩
  by_cases hlt : i < n
  · refine .inr ⟨hlt, Pv (i + 1), fun σ' H' p' => ⟨n - (i + 1), by omega, rfl, hlt, p'⟩, fun x H' y => ?_⟩
    obtain ⟨e, y⟩ := y
    subst e y
    exact hs i σ _ hlt p
  · have e : i = n := by omega
    subst e
    exact .inl ⟨Nat.le_refl _, hd σ H p⟩
end L2

namespace L2
open PySem PySem.Spec PyProof.Rows

abbrev R2 := V → V → Hp → VK → Prop
/-- a two-place operation on values: f is binaryOp op, inplaceOp op or compareOp op -/
def OpR (X : Cx) (f : Value → Value → Sem Value) (r : R2) : Prop :=
  ∀ (pins : List (Addr × Obj)) (s : Shared) (σ : St) (H : Hp) (x y : V) (v u : Value) (Q : VK), Inv X pins σ H s → RelV x v → RelV y u → r x y H Q →
    wpAny (model X.prog X.w) X.A (f v u) (EP X pins σ Q) X.xe s
/-- a one-place operation -/
def UnR (X : Cx) (f : Value → Sem Value) (r : V → Hp → VK → Prop) : Prop :=
  ∀ (pins : List (Addr × Obj)) (s : Shared) (σ : St) (H : Hp) (x : V) (v : Value) (Q : VK), Inv X pins σ H s → RelV x v → r x H Q →
    wpAny (model X.prog X.w) X.A (f v) (EP X pins σ Q) X.xe s
/-- a call of a value that is known (a builtin, a type) with values -/
def CallR (X : Cx) (f : Value) (r : List V → Hp → VK → Prop) : Prop :=
  ∀ (pins : List (Addr × Obj)) (s : Shared) (σ : St) (H : Hp) (xs : List V) (us : List Value) (Q : VK), Inv X pins σ H s → Vals xs us → r xs H Q →
    wpAny (model X.prog X.w) X.A (call f us) (EP X pins σ Q) X.xe s
/-- a value's truth -/
def TruR (X : Cx) (r : V → Hp → (Bool → Hp → Prop) → Prop) : Prop :=
  ∀ (pins : List (Addr × Obj)) (s : Shared) (σ : St) (H : Hp) (x : V) (v : Value) (Q : Bool → Hp → Prop), Inv X pins σ H s → RelV x v → r x H Q →
    wpAny (model X.prog X.w) X.A (truthy v) (TP X pins σ Q) X.xe s

def tOp (r : R2) (ta tb : TE) : TE := fun σ H Q => ta σ H fun x H1 => tb σ H1 fun y H2 => r x y H2 Q
def tUn (r : V → Hp → VK → Prop) (ta : TE) : TE := fun σ H Q => ta σ H fun x H1 => r x H1 Q
/-- ints in, under C, and a value out -/
def rI (C : Int → Int → Prop) (g : Int → Int → V) : R2 := fun x y H Q => ∃ i j, x = .int i ∧ y = .int j ∧ C i j ∧ Q (g i j) H
def rI0 (g : Int → Int → V) : R2 := fun x y H Q => ∃ i j, x = .int i ∧ y = .int j ∧ Q (g i j) H
def rU (g : Int → V) : V → Hp → VK → Prop := fun x H Q => ∃ i, x = .int i ∧ Q (g i) H

section
variable {X : Cx} {a b c : Expr} {ta tb tc : TE} {pos : Pos}

theorem binT (ha : PE X a ta) (hb : PE X b tb) {pins : List (Addr × Obj)} {s : Shared} {σ : St} {H : Hp} {R : V → V → Hp → Prop} (I : Inv X pins σ H s)
    (h : ta σ H fun x H1 => tb σ H1 fun y H2 => R x y H2) {Q : Value → Shared → Prop} {f : Value → Value → Sem Value}
    (hf : ∀ v u s2 x y H2, Inv X pins σ H2 s2 → RelV x v → RelV y u → R x y H2 → wpAny (model X.prog X.w) X.A (f v u) Q X.xe s2) :
    wpAny (model X.prog X.w) X.A (eval a X.env) (fun v s₁ => wpAny (model X.prog X.w) X.A (eval b X.env) (fun u s₂ => wpAny (model X.prog X.w) X.A (f v u) Q X.xe s₂) X.xe s₁) X.xe s := by
  refine thn (ha pins s σ H _ I h) fun v s1 ⟨x, H1, I1, r1, q1⟩ => ?_
  refine thn (hb pins s1 σ H1 _ I1 q1) fun u s2 ⟨y, H2, I2, r2, q2⟩ => ?_
  exact hf v u s2 x y H2 I2 r1 r2 q2

theorem pe_op {op : Operator} {r : R2} (ho : OpR X (binaryOp op) r) (ha : PE X a ta) (hb : PE X b tb) : PE X (.BinOp a op b pos) (tOp r ta tb) := by
  intro pins s σ H Q I h
  exact wpAny_BinOp (binT ha hb I h fun v u s2 x y H2 I2 rx ry q => ho pins s2 σ H2 x y v u Q I2 rx ry q)

/-! ### ints -/
theorem opI {f : Value → Value → Sem Value} {C : Int → Int → Prop} {g : Int → Int → Int}
    (rule : ∀ (i j : Int) (t u : Tok) (s : Shared) (Q : Value → Shared → Prop) (E : Value → Shared → Prop), C i j → Q (.int (g i j) s.toks) { s with toks := s.toks + 1 } → wpAny (model X.prog X.w) X.A (f (.int i t) (.int j u)) Q E s) :
    OpR X f (rI C fun i j => .int (g i j)) := by
  intro pins s σ H x y v u Q I rx ry h
  obtain ⟨i, j, rfl, rfl, hc, q⟩ := h
  obtain ⟨t, rfl⟩ := rx
  obtain ⟨t', rfl⟩ := ry
  exact rule i j t t' s _ _ hc ⟨.int (g i j), H, I.tok _, ⟨_, rfl⟩, q⟩
theorem opI0 {f : Value → Value → Sem Value} {g : Int → Int → Int}
    (rule : ∀ (i j : Int) (t u : Tok) (s : Shared) (Q : Value → Shared → Prop) (E : Value → Shared → Prop), Q (.int (g i j) s.toks) { s with toks := s.toks + 1 } → wpAny (model X.prog X.w) X.A (f (.int i t) (.int j u)) Q E s) :
    OpR X f (rI0 fun i j => .int (g i j)) := by
  intro pins s σ H x y v u Q I rx ry h
  obtain ⟨i, j, rfl, rfl, q⟩ := h
  obtain ⟨t, rfl⟩ := rx
  obtain ⟨t', rfl⟩ := ry
  exact rule i j t t' s _ _ ⟨.int (g i j), H, I.tok _, ⟨_, rfl⟩, q⟩
theorem opB0 {f : Value → Value → Sem Value} {g : Int → Int → Bool}
    (rule : ∀ (i j : Int) (t u : Tok) (s : Shared) (Q : Value → Shared → Prop) (E : Value → Shared → Prop), Q (.bool (g i j)) s → wpAny (model X.prog X.w) X.A (f (.int i t) (.int j u)) Q E s) :
    OpR X f (rI0 fun i j => .bl (g i j)) := by
  intro pins s σ H x y v u Q I rx ry h
  obtain ⟨i, j, rfl, rfl, q⟩ := h
  obtain ⟨t, rfl⟩ := rx
  obtain ⟨t', rfl⟩ := ry
  exact rule i j t t' s _ _ ⟨.bl (g i j), H, I, rfl, q⟩

def CDiv (i j : Int) : Prop := 0 < j ∧ j < 1073741824
def CDivN (i j : Int) : Prop := j ≠ 0 ∧ j.natAbs < 1073741824
def CPow (i j : Int) : Prop := 0 ≤ j ∧ j ≤ 1000000 ∧ i.natAbs < 2 ^ 64
def CMul (i j : Int) : Prop := (-(2 ^ 64) < i ∧ i < 2 ^ 64) ∨ (-(2 ^ 64) < j ∧ j < 2 ^ 64)
theorem CMul.ok {i j : Int} (h : CMul i j) : IntMulOk i j := by
  rcases h with ⟨h1, h2⟩ | ⟨h1, h2⟩
  · exact .of_left (intBits_le_64 h1 h2)
  · exact .of_right (intBits_le_64 h1 h2)

theorem op_add : OpR X (binaryOp .Add) (rI0 fun i j => .int (i + j)) := opI0 fun _ _ _ _ _ _ _ q => add_int q
theorem op_mul : OpR X (binaryOp .Mult) (rI CMul fun i j => .int (i * j)) := opI fun _ _ _ _ _ _ _ hc q => mul_int q hc.ok
/-- // by a positive divisor -/
theorem op_fdiv : OpR X (binaryOp .FloorDiv) (rI CDiv fun i j => .int (i / j)) := opI fun i j _ _ _ _ _ hc q => by
  have h1 : (0 : Int) < j := hc.1
  have h2 : j < 1073741824 := hc.2
  exact floordiv_int (by omega) (by rw [Int.fdiv_eq_ediv_of_nonneg i (by omega)]; exact q) (.inl (PyProof.noPylong_small (by omega)))
/-- % by a positive divisor of any size -/
theorem op_mod : OpR X (binaryOp .Mod) (rI (fun _ j => 0 < j) fun i j => .int (i % j)) := opI fun i j _ _ _ _ _ hc q => by
  have h1 : (0 : Int) < j := hc
  exact mod_int' (by omega) (by rw [Int.fmod_eq_emod_of_nonneg i (by omega)]; exact q)
theorem op_pow : OpR X (binaryOp .Pow) (rI CPow fun i j => .int (i ^ j.toNat)) := opI fun _ _ _ _ _ _ _ hc q => pow_int_small hc.1 hc.2.1 hc.2.2 q



/-! ### bools among ints: n += (a < b) -/
end

/-! ### comparisons -/
/-- the scalars that == tells apart as data does -/
def scal : V → V → Bool
  | .non, .non => true | .non, .int _ => true | .int _, .non => true | .non, .bl _ => true | .bl _, .non => true | .non, .str _ => true | .str _, .non => true
  | .int _, .int _ => true | .bl _, .bl _ => true | .str _, .str _ => true | .byt _, .byt _ => true
  | .int _, .str _ => true | .str _, .int _ => true | .bl _, .str _ => true | .str _, .bl _ => true
  | _, _ => false
def rEq : R2 := fun x y H Q => scal x y = true ∧ Q (.bl (decide (x = y))) H
def rNe : R2 := fun x y H Q => scal x y = true ∧ Q (.bl (!decide (x = y))) H

theorem dec_int {i j : Int} : decide (V.int i = V.int j) = (i == j) := by
  rw [Bool.eq_iff_iff]
  simp
theorem dec_bl {i j : Bool} : decide (V.bl i = V.bl j) = (i == j) := by
  rw [Bool.eq_iff_iff]
  simp
theorem dec_str {i j : Str} : decide (V.str i = V.str j) = (i == j) := by
  rw [Bool.eq_iff_iff]
  simp
theorem dec_byt {i j : Array UInt8} : decide (V.byt i = V.byt j) = (i.toList == j.toList) := by
  rw [Bool.eq_iff_iff]
  cases i
  cases j
  simp

section
variable {X : Cx} {a b c : Expr} {ta tb tc : TE} {pos : Pos}
theorem fin_bl {pins : List (Addr × Obj)} {σ : St} {H : Hp} {s : Shared} {Q : VK} {k k' : Bool} (I : Inv X pins σ H s) (q : Q (.bl k) H) (e : k = k') : EP X pins σ Q (.bool k') s := by
  subst e
  exact ⟨.bl k, H, I, rfl, q⟩
theorem op_eq : OpR X (compareOp .Eq) rEq := by
  intro pins s σ H x y v u Q I rx ry h
  obtain ⟨hs, q⟩ := h
  cases x with
  | non =>
    cases rx
    cases y with
    | non => cases ry; exact PySem.EqNone.eq_none_none (fin_bl I q (by simp))
    | bl j => cases ry; exact PySem.EqNone.eq_none_bool (fin_bl I q (by simp))
    | int j => obtain ⟨t', rfl⟩ := ry; exact PySem.EqNone.eq_none_int (fin_bl I q (by simp))
    | str j => obtain ⟨t', rfl⟩ := ry; exact PySem.EqNone.eq_none_str (fin_bl I q (by simp))
    | _ => exact absurd (show false = true from hs) Bool.false_ne_true
  | bl i =>
    cases rx
    cases y with
    | non => cases ry; exact PySem.EqNone.eq_bool_none (fin_bl I q (by simp))
    | bl j => cases ry; exact eq_bool (fin_bl I q dec_bl)
    | str j => obtain ⟨t', rfl⟩ := ry; exact PySem.EqMixed.eq_bool_str (fin_bl I q (by simp))
    | _ => exact absurd (show false = true from hs) Bool.false_ne_true
  | int i =>
    obtain ⟨t, rfl⟩ := rx
    cases y with
    | non => cases ry; exact PySem.EqNone.eq_int_none (fin_bl I q (by simp))
    | int j => obtain ⟨t', rfl⟩ := ry; exact eq_int (fin_bl I q dec_int)
    | str j => obtain ⟨t', rfl⟩ := ry; exact PySem.EqMixed.eq_int_str (fin_bl I q (by simp))
    | _ => exact absurd (show false = true from hs) Bool.false_ne_true
  | str i =>
    obtain ⟨t, rfl⟩ := rx
    cases y with
    | non => cases ry; exact PySem.EqNone.eq_str_none (fin_bl I q (by simp))
    | bl j => cases ry; exact PySem.EqMixed.eq_str_bool (fin_bl I q (by simp))
    | int j => obtain ⟨t', rfl⟩ := ry; exact PySem.EqMixed.eq_str_int (fin_bl I q (by simp))
    | str j => obtain ⟨t', rfl⟩ := ry; exact eq_str (fin_bl I q dec_str)
    | _ => exact absurd (show false = true from hs) Bool.false_ne_true
  | byt i =>
    obtain ⟨t, rfl⟩ := rx
    cases y with
    | byt j => obtain ⟨t', rfl⟩ := ry; exact PySem.W.eq_bytes (fin_bl I q dec_byt)
    | _ => exact absurd (show false = true from hs) Bool.false_ne_true
  | _ => cases y <;> exact absurd (show false = true from hs) Bool.false_ne_true

theorem op_lt : OpR X (compareOp .Lt) (rI0 fun i j => .bl (decide (i < j))) := opB0 fun _ _ _ _ _ _ _ q => lt_int q
theorem op_gt : OpR X (compareOp .Gt) (rI0 fun i j => .bl (decide (j < i))) := opB0 fun _ _ _ _ _ _ _ q => gt_int q

/-- is None, is not None: the right side a value none -/
theorem op_isN : OpR X (compareOp .Is) (fun x y H Q => y = .non ∧ Q (.bl (decide (x = .non))) H) := by
  intro pins s σ H x y v u Q I rx ry h
  obtain ⟨rfl, q⟩ := h
  cases ry
  refine is_none_gen (fin_bl I q ?_)
  cases x <;> first
    | (cases rx; rfl)
    | (obtain ⟨t, rfl⟩ := rx; rfl)

/-- is, is not of two objects that are tracked lists or instances -/
def isObj : HO → Bool
  | .lst _ => true
  | .ins _ _ _ => true
  | _ => false


theorem nomark (b : Expr) {op : CmpOp} (h : op ≠ .In := by decide) (h2 : op ≠ .NotIn := by decide) : behindInMarks op b = false := by
  have e1 : (op == CmpOp.In) = false := by cases op <;> first | rfl | exact absurd rfl h
  have e2 : (op == CmpOp.NotIn) = false := by cases op <;> first | rfl | exact absurd rfl h2
  cases b <;> simp [behindInMarks, e1, e2]
/-- a comparison as a value; hm: nomark b, or (for in, not in) by with_unfolding_all rfl -/
theorem pe_cmpR {op : CmpOp} {r : R2} (ho : OpR X (compareOp op) r) (ha : PE X a ta) (hb : PE X b tb) (hm : behindInMarks op b = false) : PE X (.Compare a [op] [b] pos) (tOp r ta tb) := by
  intro pins s σ H Q I h
  exact wpAny_Compare1 (binT ha hb I h fun v u s2 x y H2 I2 rx ry q => ho pins s2 σ H2 x y v u Q I2 rx ry q) hm
/-- a reading of a value as a test -/
def tTest (t : TE) : TT := fun σ H Q => t σ H fun x H' => ∃ k, x = .bl k ∧ Q k H'
theorem pt_cmpR {op : CmpOp} {r : R2} (ho : OpR X (compareOp op) r) (ha : PE X a ta) (hb : PE X b tb) (hm : behindInMarks op b = false) : PT X (.Compare a [op] [b] pos) (tTest (tOp r ta tb)) := by
  intro pins s σ H Q I h
  refine wpAny_isTrue_Compare1 (thn (ha pins s σ H _ I h) fun v s1 ⟨x, H1, I1, r1, q1⟩ => thn (hb pins s1 σ H1 _ I1 q1) fun u s2 ⟨y, H2, I2, r2, q2⟩ =>
    thn (ho pins s2 σ H2 x y v u _ I2 r1 r2 q2) fun c s3 ⟨z, H3, I3, r3, k, e, q3⟩ => ?_) hm
  subst e
  cases r3
  exact wpAny_truthy_bool ⟨H3, I3, q3⟩
/-- a op1 b op2 c -/
def tChain (r r' : R2) (ta tb tc : TE) : TE := fun σ H Q => ta σ H fun x H1 => tb σ H1 fun y H2 => r x y H2 fun z H3 => ∃ k, z = .bl k ∧
  (if k = true then tc σ H3 fun w' H4 => r' y w' H4 Q else Q (.bl false) H3)

/-! ### truth -/
/-- a value's truth by the abstract heap -/
def TruV (K : PySem.W.Frag) (x : V) (H : Hp) (k : Bool) : Prop :=
  match x with
  | .non => k = false
  | .bl b => k = b
  | .int i => k = (i != 0)
  | .str y => y.length ≤ sizeLine ∧ k = ((y.length : Int) != 0)
  | .byt y => y.size ≤ sizeLine ∧ k = ((y.size : Int) != 0)
  | .ref p => (∃ xs, SqL K H p xs ∧ k = !xs.isEmpty) ∨ (∃ xs, SqT K H p xs ∧ k = !xs.isEmpty) ∨ ∃ kvs, H p = some (.dK kvs) ∧ k = !kvs.isEmpty
  | _ => False
theorem line63 : (sizeLine : Nat) < 2 ^ 63 := by rw [sizeLine_eq]; decide

/-! ### strs and bytes -/
theorem op_add_str : OpR X (binaryOp .Add) (fun x y H Q => ∃ i j, x = .str i ∧ y = .str j ∧ i.length + j.length ≤ sizeLine ∧ Q (.str (i ++ j)) H) := by
  intro pins s σ H x y v u Q I rx ry h
  obtain ⟨i, j, rfl, rfl, hz, q⟩ := h
  obtain ⟨t, rfl⟩ := rx
  obtain ⟨t', rfl⟩ := ry
  exact add_str (fun t' tk => ⟨.str (i ++ j), H, I.tok _, ⟨_, rfl⟩, q⟩) hz

def PlainIxT (b : Expr) : Prop := ∀ o i, subscripted b false o i = operate [o, i] (getItem o i)

/-! ### scalar builtins, by CallR -/
theorem vals1 {x : V} {us : List Value} (r : Vals [x] us) : ∃ u, us = [u] ∧ RelV x u := by
  cases r with
  | cons r1 r2 => cases r2; exact ⟨_, rfl, r1⟩
/-- len of a str, a bytes, a list, a tuple -/
def LenV (K : PySem.W.Frag) (x : V) (H : Hp) (n : Nat) : Prop :=
  match x with
  | .str y => y.length ≤ sizeLine ∧ n = y.length
  | .byt y => y.size ≤ sizeLine ∧ n = y.size
  | .ref p => (∃ xs, SqL K H p xs ∧ n = xs.length) ∨ ∃ xs, SqT K H p xs ∧ n = xs.length
  | _ => False
end
end L2

namespace L2
open PySem PySem.Spec PyProof.Rows

/-! ### an instance, its attributes a map -/
structure ObjM (h : Heap) (x dx C : Addr) (mA : Str → Option Value) : Prop where
  obj : h.get? x = some (PySem.W.instObj C dx)
  ns : h.Ns1 dx mA
  ne : dx ≠ x

theorem lookIn_ns {h : Heap} {dx : Addr} {mA : Str → Option Value} (n : h.Ns1 dx mA) : ∃ od, h.get? dx = some od ∧ ∀ name, PySem.W.lookIn name od = some (mA name) := by
  obtain ⟨o, es, ep, ho, hd, hk, _, hm⟩ := n
  refine ⟨o, ho, fun name => ?_⟩
  have e := hm name
  unfold nsFind findBy at e
  rw [← Array.find?_toList] at e
  unfold PySem.W.lookIn
  rw [hd]
  dsimp only
  split
  · rename_i y q
    rw [q] at e
    exact congrArg some e
  · rename_i q
    rw [q] at e
    have a : es.toList.any (·.refKey) = false := by
      rw [List.any_eq_false]
      intro y hy
      obtain ⟨z, t, hkey⟩ := hk y (Array.mem_toList_iff.mp hy)
      simp [DictEntry.refKey, hkey]
    have a' : ¬ es.toList.any (·.refKey) = true := by rw [a]; exact Bool.false_ne_true
    rw [if_neg a']
    exact congrArg some e


section
variable {prog : Program} {w : World} {A : Around} {E : Value → Shared → Prop} {s : Shared} {K : PySem.W.Frag} {x dx C f : Addr} {mA : Str → Option Value} {name : Str} {v : Value}





end

/-! ### the attributes as a list of pairs -/
def putF (f : Str) (v : V) : List (Str × V) → List (Str × V)
  | [] => [(f, v)]
  | (g, x) :: r => if g = f then (g, v) :: r else (g, x) :: putF f v r
theorem lookup_putF (f g : Str) (v : V) : ∀ fs : List (Str × V), (putF f v fs).lookup g = if g = f then some v else fs.lookup g
  | [] => by
    show List.lookup g [(f, v)] = _
    by_cases h : g = f
    · have hb : (g == f) = true := beq_iff_eq.mpr h
      simp only [List.lookup, hb, if_pos h]
    · have hb : (g == f) = false := beq_eq_false_iff_ne.mpr h
      simp only [List.lookup, hb, if_neg h]
  | (k, x) :: r => by
    have ih := lookup_putF f g v r
    rw [show putF f v ((k, x) :: r) = (if k = f then (k, v) :: r else (k, x) :: putF f v r) from rfl]
    by_cases hk : k = f
    · rw [if_pos hk]
      by_cases h : g = k
      · have hb : (g == k) = true := beq_iff_eq.mpr h
        simp only [List.lookup, hb, if_pos (h.trans hk)]
      · have hb : (g == k) = false := beq_eq_false_iff_ne.mpr h
        simp only [List.lookup, hb, if_neg (fun e : g = f => h (e.trans hk.symm))]
    · rw [if_neg hk]
      by_cases h : g = k
      · have hb : (g == k) = true := beq_iff_eq.mpr h
        simp only [List.lookup, hb, if_neg (fun e : g = f => hk (h.symm.trans e))]
      · have hb : (g == k) = false := beq_eq_false_iff_ne.mpr h
        simp only [List.lookup, hb]
        exact ih
theorem keys_putF (f : Str) (v : V) : ∀ fs : List (Str × V), f ∈ (putF f v fs).map (·.1) ∧ ∀ g, g ∈ fs.map (·.1) → g ∈ (putF f v fs).map (·.1)
  | [] => ⟨by simp [putF], fun g h => by simp at h⟩
  | (k, x) :: r => by
    obtain ⟨i1, i2⟩ := keys_putF f v r
    rw [show putF f v ((k, x) :: r) = (if k = f then (k, v) :: r else (k, x) :: putF f v r) from rfl]
    by_cases hk : k = f
    · rw [if_pos hk]
      subst hk
      exact ⟨by simp, fun g h => by simpa using h⟩
    · rw [if_neg hk]
      refine ⟨?_, fun g h => ?_⟩
      · rw [List.map_cons]
        exact List.mem_cons_of_mem _ i1
      · rw [List.map_cons] at h ⊢
        rcases List.mem_cons.mp h with e | e
        · exact List.mem_cons.mpr (.inl e)
        · exact List.mem_cons_of_mem _ (i2 g e)
theorem length_putF (f : Str) (v : V) : ∀ fs : List (Str × V), (putF f v fs).length ≤ fs.length + 1
  | [] => by simp [putF]
  | (k, x) :: r => by
    have ih := length_putF f v r
    rw [show putF f v ((k, x) :: r) = (if k = f then (k, v) :: r else (k, x) :: putF f v r) from rfl]
    by_cases hk : k = f
    · rw [if_pos hk, List.length_cons, List.length_cons]; omega
    · rw [if_neg hk, List.length_cons, List.length_cons]; omega

theorem RelO.some_of {v : V} {o : Option Value} (r : RelO (some v) o) : ∃ u, o = some u ∧ RelV v u := by
  cases o with
  | none => exact (show False from r).elim
  | some u => exact ⟨u, rfl, r⟩
theorem handed_of {v : V} {u : Value} (r : RelV v u) : PySem.W.handedIn u = true := by
  cases v with
  | non => cases (show u = Value.none from r); rfl
  | bl b => cases (show u = Value.bool b from r); rfl
  | int i => obtain ⟨t, e⟩ := (show ∃ t, u = Value.int i t from r); cases e; rfl
  | str x => obtain ⟨t, e⟩ := (show ∃ t, u = Value.str x t from r); cases e; rfl
  | byt b => obtain ⟨t, e⟩ := (show ∃ t, u = Value.bytes b t from r); cases e; rfl
  | flt b => obtain ⟨t, e⟩ := (show ∃ t, u = Value.float b t from r); cases e; rfl
  | ref a => cases (show u = Value.ref a from r); rfl
  | ty n => cases (show u = Value.type n from r); rfl

section
variable {P : Program} {w : World} {H H' : Hp} {h h' : Heap} {a C dx : Addr} {fs fs' : List (Str × V)}
end

/-! ### what of the text a class must have -/
structure Cls (K : PySem.W.Frag) (C : Addr) : Prop where
  pg : PySem.W.plainGet K C Str.empty = true
  hd : PySem.W.hasDictIn K C = true
  po : PySem.W.plainOver K C = true
  sa : PySem.W.findIn K (.ref C) "__setattr__" = some (some (.builtin "object.__setattr__"))
/-- no class of it has the name -/
def NoAttr (K : PySem.W.Frag) (C : Addr) (f : Str) : Prop := PySem.W.findIn K (.ref C) f = some none
/-- a constant of the class -/
structure Con (K : PySem.W.Frag) (C : Addr) (f : Str) (v : V) (u : Value) : Prop where
  at_ : PySem.W.findIn K (.ref C) f = some (some u)
  rel : RelV v u
  get : PySem.W.specialIn K u "__get__" = some none
  cp : PySem.W.copiedNames.contains f = false
/-- a method: a plain def of the class or of one above it -/
structure Meth (K : PySem.W.Frag) (C : Addr) (m : Str) (f : Addr) : Prop where
  at_ : PySem.W.findIn K (.ref C) m = some (some (.ref f))
  fn : PySem.W.isFn K (.ref f) = true
  kp : PySem.W.keepIn K (.ref f) = true

section
variable {X : Cx} {pins : List (Addr × Obj)} {σ : St} {H : Hp} {s : Shared} {a C dx : Addr} {fs : List (Str × V)} {f : Str} {v : V} {A : Around} {E : Value → Shared → Prop}






/-- e.f where nothing but the object is asked: through attributeBase (super) and the last hold -/
theorem attr_of {prog : Program} {w : World} {env : Env} {e : Expr} {f : Str} {pos : Pos} {s : Shared} {Q : Value → Shared → Prop} (hb : attributeBase e f env (eval e env) = eval e env)
    (h : wpAny (model prog w) A (eval e env) (fun o s₁ => wpAny (model prog w) A (getAttr o f true) Q E s₁) E s) : wpAny (model prog w) A (eval (.Attribute e f pos) env) Q E s :=
  Attribute_any_ h (by rw [arm_eval_Attribute, hb])
end

/-! ### readings and rules -/
/-- e.f, an attribute of the instance -/
def tFld (K : PySem.W.Frag) (ta : TE) (f : Str) : TE := fun σ H Q => ta σ H fun x H1 => ∃ a C dx fs v, x = .ref a ∧ H1 a = some (.ins C dx fs) ∧ Cls K C ∧ NoAttr K C f ∧ fs.lookup f = some v ∧ Q v H1
/-- e.f, a constant of the class -/
def tCon (K : PySem.W.Frag) (ta : TE) (f : Str) : TE := fun σ H Q => ta σ H fun x H1 => ∃ a C dx fs v u, x = .ref a ∧ H1 a = some (.ins C dx fs) ∧ Cls K C ∧ Con K C f v u ∧ fs.lookup f = none ∧ Q v H1
/-- e.f = value -/
def sFld (K : PySem.W.Frag) (ta tv : TE) (f : Str) : TS := fun D σ H => tv σ H fun y H1 => ta σ H1 fun x H2 => ∃ a C dx fs, x = .ref a ∧ H2 a = some (.ins C dx fs) ∧ Cls K C ∧ NoAttr K C f ∧ fs.length < 1000 ∧
  D.nx σ (upd H2 a (.ins C dx (putF f y fs)))
/-- an augmented operator on two values -/
def InOp (X : Cx) (op : Operator) (rd : V → V → Hp → VK → Prop) : Prop :=
  ∀ (pins : List (Addr × Obj)) (s : Shared) (σ : St) (H : Hp) (x y : V) (u v : Value) (Q : VK), Inv X pins σ H s → RelV x u → RelV y v → rd x y H Q → wpAny (model X.prog X.w) X.A (inplaceOp op u v) (EP X pins σ Q) X.xe s
/-- e.f op= value -/
def sFldAug (K : PySem.W.Frag) (ta tv : TE) (rd : V → V → Hp → VK → Prop) (f : Str) : TS := fun D σ H => ta σ H fun x H1 => ∃ a C dx fs v, x = .ref a ∧ H1 a = some (.ins C dx fs) ∧ Cls K C ∧ NoAttr K C f ∧ fs.lookup f = some v ∧
  tv σ H1 fun y H2 => rd v y H2 fun z H3 => ∃ dx' fs', H3 a = some (.ins C dx' fs') ∧ fs'.length < 1000 ∧ D.nx σ (upd H3 a (.ins C dx' (putF f z fs')))

section
variable {X : Cx} {o e value : Expr} {f : Str} {pos pos' tpos : Pos} {ta tv : TE}
def rAdd : V → V → Hp → VK → Prop := fun x y H Q => ∃ i j, x = .int i ∧ y = .int j ∧ Q (.int (i + j)) H
def rSub : V → V → Hp → VK → Prop := fun x y H Q => ∃ i j, x = .int i ∧ y = .int j ∧ Q (.int (i - j)) H

end

/-! ### isinstance -/
section
variable {X : Cx} {pins : List (Addr × Obj)} {σ : St} {H : Hp} {s : Shared} {A : Around} {E : Value → Shared → Prop} {Q : Value → Shared → Prop} {c : Value} {b : Bool}
/-- the type of a value, as the fragment's deciders take it; for an instance its class -/
inductive TyOf (K : PySem.W.Frag) (H : Hp) : V → Value → Prop where
  | non : TyOf K H .non (.type "NoneType")
  | bl (x : Bool) : TyOf K H (.bl x) (.type "bool")
  | int (i : Int) : TyOf K H (.int i) (.type "int")
  | str (x : Str) : TyOf K H (.str x) (.type "str")
  | flt (x : UInt64) : TyOf K H (.flt x) (.type "float")
  | lst {a : Addr} {xs : List V} (e : H a = some (.lst xs)) : TyOf K H (.ref a) (.type "list")
  | frz {a : Addr} {o : Obj} {xs : List V} (e : H a = some (.frz o (.lst xs))) : TyOf K H (.ref a) (.type "list")
  | tup {a : Addr} {xs : List V} (e : H a = some (.tup xs)) : TyOf K H (.ref a) (.type "tuple")
  | dK {a : Addr} {kvs : List (Key × V)} (e : H a = some (.dK kvs)) : TyOf K H (.ref a) (.type "dict")
  | dT {a : Addr} {kvs : List (List Key × V)} (e : H a = some (.dT kvs)) : TyOf K H (.ref a) (.type "dict")
  | ins {a C dx : Addr} {fs : List (Str × V)} (e : H a = some (.ins C dx fs)) (cl : Cls K C) (ha : PySem.W.findIn K (.ref C) "__class__" = some (some (.builtin "object.__class__")))
      (hn : PySem.W.specialIn K (.builtin "object.__class__") "__get__" = some (some (.builtin "getset_descriptor.__get__"))) (htk : PySem.W.takesIn K (.builtin "object.__class__") = some true)
      (hm : PySem.W.mroIn K C (.type "object") = some true) : TyOf K H (.ref a) (.ref C)
end
end L2

namespace L2
open PySem PySem.Spec PyProof.Rows

/-! ### room -/
structure Room (k : Nat) (A : Around) : Prop where
  hd : A.handled = none
  dp : A.depth + 3 * k + 5 < recursionLimit
  un : A.units + 16 * k + 200 < cLine
  gd : A.guards = some []
theorem Room.mono {j k : Nat} {A : Around} (r : Room k A) (h : j ≤ k) : Room j A := ⟨r.hd, by have := r.dp; omega, by have := r.un; omega, r.gd⟩
theorem Room.deeper {k : Nat} {A : Around} (r : Room (k + 1) A) (env : Env) : Room k (A.deeper env) :=
  ⟨r.hd, by have := r.dp; show A.depth + 1 + 3 * k + 5 < _; omega, by have := r.un; show A.units + 3 + 16 * k + 200 < _; omega, r.gd⟩
theorem make_depth {A : Around} {C : Addr} {us : List Value} {kw : List (Str × Value)} : (A.under (.builtin "type.__call__" ⟨.ref C :: us, kw⟩)).depth = A.depth + 1 := by
  first | rfl | simp [Around.under, Code.weight, Code.isCreation, Code.isGuard, Code.isCaller, Code.frames, Code.isFrame, guardIds]
theorem make_units {A : Around} {C : Addr} {us : List Value} {kw : List (Str × Value)} : (A.under (.builtin "type.__call__" ⟨.ref C :: us, kw⟩)).units = A.units + 1 := by
  first | rfl | simp [Around.under, Code.cUnits, Code.frames, Code.isFrame]
theorem make_guards {A : Around} {C : Addr} {us : List Value} {kw : List (Str × Value)} : (A.under (.builtin "type.__call__" ⟨.ref C :: us, kw⟩)).guards = A.guards := by
  first | rfl | simp [Around.under, Code.guards, Code.isGuard, guardIds, pushGuards]
theorem Room.make {k : Nat} {A : Around} (r : Room (k + 1) A) (C : Addr) (us : List Value) (kw : List (Str × Value)) : Room k (A.under (.builtin "type.__call__" ⟨.ref C :: us, kw⟩)) :=
  ⟨r.hd, by have := r.dp; rw [make_depth]; omega, by have := r.un; rw [make_units]; omega, make_guards.trans r.gd⟩
theorem Room.depth {k : Nat} {A : Around} (r : Room k A) : A.depth < recursionLimit := by have := r.dp; omega
theorem Room.units {k : Nat} {A : Around} (r : Room k A) : A.units + 64 < cLine := by have := r.un; omega

/-! ### argument lists and displays -/
def tNil : TA := fun _ H Q => Q [] H
def tCons (ta : TE) (tr : TA) : TA := fun σ H Q => ta σ H fun x H1 => tr σ H1 fun xs H2 => Q (x :: xs) H2
section
variable {X : Cx} {e : Expr} {es : List Expr} {te : TE} {t : TA} {pos : Pos}
theorem pa_nil : PA X [] tNil := fun _ _ _ _ H Q I h => Calls.spliced_nil ⟨[], H, I, .nil, h⟩
theorem pa_cons (ha : PE X e te) (hr : PA X es t) (hs : starEach (e :: es) X.env = (false, eval e X.env) :: starEach es X.env := by rfl) : PA X (e :: es) (tCons te t) := by
  intro pos pins s σ H Q I h
  rw [hs]
  show wpAny _ _ (spliced ((false, eval e X.env) :: backTo pos (starEach es X.env))) _ _ s
  refine Calls.spliced_cons (thn (ha pins s σ H _ I h) fun u s1 ⟨x, H1, I1, r1, q1⟩ => ?_)
  exact thn (hr pos pins s1 σ H1 _ I1 q1) fun us s2 ⟨xs, H2, I2, r2, q2⟩ => ⟨x :: xs, H2, I2, .cons r1 r2, q2⟩

/-- a tuple, a list of written items -/
def tTup (t : TA) : TE := fun σ H Q => t σ H fun xs H1 => xs.length ≤ sizeLine ∧ ∀ p, H1 p = none → Q (.ref p) (upd H1 p (.tup xs))
def tLst (t : TA) : TE := fun σ H Q => t σ H fun xs H1 => xs.length ≤ sizeLine ∧ ∀ p, H1 p = none → Q (.ref p) (upd H1 p (.lst xs))
theorem pe_tup {x1} (h : PA X es t) : PE X (.Tuple es x1 pos) (tTup t) := by
  intro pins s σ H Q I hq
  refine wpAny_Tuple_spliced (thn (h pos pins s σ H _ I hq) fun us s1 ⟨xs, H1, I1, r, z, q⟩ => ⟨by rw [← r.length]; exact z, ?_⟩)
  have hf : H1 s1.heap.objs.size = none := I1.hok.fresh (Nat.le_refl _)
  refine ⟨.ref s1.heap.objs.size, upd H1 s1.heap.objs.size (.tup xs), I1.laid (t' := s1.toks) (fun b u e => Heap.get?_push_of_some _ e) (Nat.le_refl _) ?_, rfl, q _ hf⟩
  exact ⟨z, us, r, ⟨_, Heap.get?_push_size _ rfl, rfl, _, rfl⟩⟩
theorem pe_lst (h : PA X es t) : PE X (.List es pos) (tLst t) := by
  intro pins s σ H Q I hq
  refine wpAny_List_spliced (thn (h pos pins s σ H _ I hq) fun us s1 ⟨xs, H1, I1, r, z, q⟩ => ⟨by rw [← r.length]; exact z, ?_⟩)
  have hf : H1 s1.heap.objs.size = none := I1.hok.fresh (Nat.le_refl _)
  refine ⟨.ref s1.heap.objs.size, upd H1 s1.heap.objs.size (.lst xs), I1.laid (t' := s1.toks) (fun b u e => Heap.get?_push_of_some _ e) (Nat.le_refl _) ?_, rfl, q _ hf⟩
  exact ⟨z, us, 0, r, Heap.get?_push_size _ rfl⟩
end

/-! ### what a def promises -/
/-- a def's promise: the bound arguments in the parameters' order, the heap, the wanted end, the wanted exception -/
abbrev Sp := List V → Hp → VK → XK → Prop
/-- how an exception lies behind a call (file 08 gives it): the callers' frames, abstract heap and state ahead of the call, the wish, the exception, the state -/
abbrev CXT := List Env → Hp → Shared → XK → Value → Shared → Prop

/-- the state at a call -/
structure Env0 (P : Program) (w : World) (K : PySem.W.Frag) (mg : Str → Option Value) (base : Heap) (A : Around) (outer : List Env) (s : Shared) (H : Hp) : Prop where
  frames : A.frames = some outer
  mod : Mod K mg base
  bs : ∀ b o, base.get? b = some o → s.heap.get? b = some o ∧ H b = none
  bsz : base.objs.size ≤ s.heap.objs.size
  funs : s.heap.FunFrames base outer
  frf : ∀ b ∈ frs outer, H b = none
  hok : HOk P w H s.heap
  bare : AllBare s.gens
/-- a call's end -/
def CE (outer : List Env) (P : Program) (w : World) (H : Hp) (s : Shared) (Q : VK) (u : Value) (s' : Shared) : Prop :=
  ∃ v H', s'.os = s.os ∧ AllBare s'.gens ∧ Un (frs outer) [] H H' s.heap s'.heap ∧ HOk P w H' s'.heap ∧ RelV v u ∧ Q v H'
def CR (CX : CXT) (outer : List Env) (P : Program) (w : World) (H : Hp) (s : Shared) (Q : VK) (E : XK) (r : Result) (s' : Shared) : Prop :=
  match r with
  | .ok (.ret u) => CE outer P w H s Q u s'
  | .ok _ => False
  | .error e => CX outer H s E e s'
structure FnOk (P : Program) (w : World) (K : PySem.W.Frag) (mg : Str → Option Value) (base : Heap) (CX : CXT) (k : Nat) (f : Addr) (fd : FuncData) (ps : List Str) (sp : Sp) : Prop where
  len : ∀ vs H Q E, sp vs H Q E → vs.length = ps.length
  run : ∀ (A : Around) (outer : List Env) (s : Shared) (H : Hp) (args : Args) (us : List Value) (vs : List V) (Q : VK) (E : XK), Room k A → Env0 P w K mg base A outer s H → BindsTo s fd args (ps.zip us) → Vals vs us → sp vs H Q E →
    codeAny (model P w) A (.call (.ref f) args) (CR CX outer P w H s Q E) s

theorem Env0.make {P : Program} {w : World} {K : PySem.W.Frag} {mg : Str → Option Value} {base : Heap} {A : Around} {outer : List Env} {s : Shared} {H : Hp} (e : Env0 P w K mg base A outer s H) (C : Addr) (us : List Value) (kw : List (Str × Value)) :
    Env0 P w K mg base (A.under (.builtin "type.__call__" ⟨.ref C :: us, kw⟩)) outer s H := ⟨by first | exact e.frames | (simpa [Around.under, Code.envs, Code.isFrame, pushEnvs] using e.frames), e.mod, e.bs, e.bsz, e.funs, e.frf, e.hok, e.bare⟩

section
variable {X : Cx} {pins : List (Addr × Obj)} {σ : St} {H : Hp} {s s' : Shared}
/-- from a body: what a callee wants -/
theorem Inv.env0 (I : Inv X pins σ H s) : Env0 X.prog X.w X.K X.mg X.base X.A X.stack s H :=
  ⟨I.ok.frames, I.ok.mod, I.bs, Nat.le_trans I.ok.bsz I.sz, I.stack, I.stkFree, I.hok, I.bare⟩
/-- behind a call -/
theorem Inv.after {Q : VK} {u : Value} (I : Inv X pins σ H s) (h : CE X.stack X.prog X.w H s Q u s') : EP X pins σ Q u s' := by
  obtain ⟨v, H', os, bare, un, hok, r, q⟩ := h
  obtain ⟨hh, g, d, t, os'⟩ := s'
  obtain rfl : os' = s.os := os
  exact ⟨v, H', I.call (h' := hh) (g' := g) (d' := d) (t' := t) (ch := []) un hok bare (fun b z => absurd z (by simp)), r, q⟩
end

/-! ### calls -/
/-- f(..): the written arguments, then the defaults dvs; E: what is wanted of an exception -/
def tCall (sp : Sp) (dvs : List V) (E : XK) (t : TA) : TE := fun σ H Q => t σ H fun vs H1 => sp (vs ++ dvs) H1 Q E
/-- o.m(..) of an instance of the class at C -/
def tMeth (C : Addr) (m : Str) (sp : Sp) (dvs : List V) (E : XK) (ta : TE) (t : TA) : TE := fun σ H Q => ta σ H fun x H1 => ∃ a dx fs, x = .ref a ∧ H1 a = some (.ins C dx fs) ∧ fs.lookup m = none ∧
  t σ H1 fun vs H2 => sp (x :: (vs ++ dvs)) H2 Q E
/-- C(..): a new instance and its dict, then __init__ -/
def tMake (C : Addr) (sp : Sp) (dvs : List V) (E : XK) (t : TA) : TE := fun σ H Q => t σ H fun vs H1 => ∀ x dx, H1 x = none → H1 dx = none → dx ≠ x →
  sp (.ref x :: (vs ++ dvs)) (upd (upd H1 dx (.own x)) x (.ins C dx [])) (fun v H2 => v = .non ∧ Q (.ref x) H2) E

/-- how the parameters are bound: us the positional arguments, kw the keywords' values by name, ds the defaults that fill up -/
def Binds (K : PySem.W.Frag) (fd : FuncData) (ps : List Str) (ds : List Value) : Prop :=
  ∀ (s : Shared) (us : List Value), K.In s.heap → (us ++ ds).length = ps.length → BindsTo s fd ⟨us, []⟩ (ps.zip (us ++ ds))
/-- every parameter is given -/
theorem Binds.all {K : PySem.W.Frag} {fd : FuncData} {ps : List Str} (h : ∀ us : List Value, us.length = ps.length → bindArgs fd ⟨us, []⟩ = pure (ps.zip us)) : Binds K fd ps [] := fun s us _ hl => by
  rw [List.append_nil] at hl ⊢
  exact .of_eq (h us hl)

/-- an exception of a callee reaches what this body wants of exceptions -/
def Passes (CX : CXT) (X : Cx) (E : XK) : Prop := ∀ (pins : List (Addr × Obj)) (σ : St) (H : Hp) (s : Shared) (e : Value) (s' : Shared), Inv X pins σ H s → CX X.stack H s E e s' → X.xe e s'

section
variable {X : Cx} {CX : CXT} {k : Nat} {f C : Addr} {fd : FuncData} {ps : List Str} {sp : Sp} {dvs : List V} {ds : List Value} {E : XK} {x m : Str} {p pos apos : Pos} {e o : Expr} {es : List Expr} {ta : TE} {t : TA}

/-- the callee runs -/
theorem run_fn {pins : List (Addr × Obj)} {σ : St} {H : Hp} {s : Shared} {Q : VK} {us : List Value} {vs : List V} (F : FnOk X.prog X.w X.K X.mg X.base CX k f fd ps sp) (hr : Room k X.A) (hb : Binds X.K fd ps ds) (hd : Vals dvs ds) (hx : Passes CX X E)
    (I : Inv X pins σ H s) (r : Vals vs us) (h : sp (vs ++ dvs) H Q E) : wpAny (model X.prog X.w) X.A (call (.ref f) us) (EP X pins σ Q) X.xe s := by
  have r2 : Vals (vs ++ dvs) (us ++ ds) := r.append hd
  have hl : (us ++ ds).length = ps.length := by rw [← r2.length]; exact F.len _ _ _ _ h
  refine wpAny_call (codeAny_mono (F.run X.A X.stack s H ⟨us, []⟩ (us ++ ds) (vs ++ dvs) Q E hr I.env0 (hb s us I.kIn hl) r2 h) fun r s' hq => ?_)
  cases r with
  | error e => exact hx pins σ H s e s' I hq
  | ok fl =>
    cases fl with
    | ret u => exact I.after hq
    | next => exact False.elim hq
    | brk => exact False.elim hq
    | cont => exact False.elim hq

theorem pe_call (F : FnOk X.prog X.w X.K X.mg X.base CX k f fd ps sp) (hr : Room k X.A) (hg : Gl X x) (hm : X.mg x = some (.ref f)) (hk : PySem.W.keepIn X.K (.ref f) = true) (hb : Binds X.K fd ps ds) (hd : Vals dvs ds) (hx : Passes CX X E)
    (ha : PA X (e :: es) t) (hdb : (x == ("__debug__" : Str)) = false := by decide) (he : starEach (e :: es) X.env = (false, eval e X.env) :: starEach es X.env := by rfl) (hpl : (backTo pos (starEach es X.env)).any (·.1) = false := by rfl) :
    PE X (.Call (.Name x p) (e :: es) [] pos) (tCall sp dvs E t) := by
  intro pins s σ H Q I h
  refine wpAny_Call_Name_kw (ld_glob I hg hm ?_ hdb)
  refine PySem.W.callWith_K (h₀ := X.base) I.ok.mod.kin hk (thn (ha pos pins s σ H _ I h) fun us s1 ⟨vs, H1, I1, r, q⟩ => ⟨I1.kIn, ?_⟩) he hpl
  exact run_fn F hr hb hd hx I1 r q


/-- what a class must have to be made -/
structure Mk (K : PySem.W.Frag) (C f : Addr) : Prop where
  makes : PySem.W.makesIn K C = true
  init : PySem.W.findIn K (.ref C) "__init__" = some (some (.ref f))
  fn : PySem.W.isFn K (.ref f) = true
  kp : PySem.W.keepIn K (.ref C) = true

end

/-! ### keywords -/
/-- the values of the keywords, from the left -/
def PK (X : Cx) (kws : List Keyword) (t : TA) : Prop :=
  ∀ (pos : Pos) (pins : List (Addr × Obj)) (s : Shared) (σ : St) (H : Hp) (Q : List V → Hp → Prop), Inv X pins σ H s → t σ H Q → wpAny (model X.prog X.w) X.A (evalAll ((backToKw pos (keywordEach kws X.env)).map (·.2))) (AP X pins σ Q) X.xe s
section
variable {X : Cx} {CX : CXT} {k : Nat} {f C : Addr} {fd : FuncData} {ps ks : List Str} {sp : Sp} {E : XK} {x m : Str} {p pos apos kpos : Pos} {e o : Expr} {es : List Expr} {kws : List Keyword} {te ta : TE} {t tk : TA} {nm : Option Str}

/-- how a call with keywords binds: g puts the positional values us and the keywords' values ws (names ks) in the parameters' order, defaults among them -/
structure KBinds (K : PySem.W.Frag) (fd : FuncData) (ps ks : List Str) (g : List Value → List Value → List Value) (gV : List V → List V → List V) : Prop where
  to : ∀ (s : Shared) (us ws : List Value), K.In s.heap → (g us ws).length = ps.length → BindsTo s fd ⟨us, ks.zip ws⟩ (ps.zip (g us ws))
  rel : ∀ {vs : List V} {us : List Value} {zs : List V} {ws : List Value}, Vals vs us → Vals zs ws → Vals (gV vs zs) (g us ws)
def tCallK (sp : Sp) (gV : List V → List V → List V) (E : XK) (t tk : TA) : TE := fun σ H Q => t σ H fun vs H1 => tk σ H1 fun zs H2 => sp (gV vs zs) H2 Q E
variable {g : List Value → List Value → List Value} {gV : List V → List V → List V}
end

/-! ### a def's body keeps its promise -/
/-- names: the parameters first -/
structure FnScope (N P : List Str) (sc : Scope) : Prop where
  kind : sc.kind = .function
  co : sc.isCoroutine = false
  gen : sc.isGenerator = false
  nd : N.Nodup
  pre : N.take P.length = P
  par : ∀ x ∈ P, sc.names.lookup x = some .local ∨ sc.names.lookup x = some .cell
  nofree : ∀ y ∈ sc.names, y.2 ≠ .free

theorem bindL_out {kindOf : Str → Option NameKind} {x : Str} : ∀ {binds : List (Str × Value)} {m : Str → Option Value}, (∀ v, (x, v) ∉ binds) → bindL kindOf binds m x = m x
  | [], _, _ => rfl
  | (n, v) :: r, m, h => by
    unfold bindL
    rw [bindL_out fun w hw => h w (List.mem_cons_of_mem _ hw)]
    split
    · have : x ≠ n := by rintro rfl; exact h v List.mem_cons_self
      simp [this]
    · rfl
theorem bindC_out {kindOf : Str → Option NameKind} {x : Str} : ∀ {binds : List (Str × Value)} {m : Str → Option Value}, (∀ v, (x, v) ∉ binds) → bindC kindOf binds m x = m x
  | [], _, _ => rfl
  | (n, v) :: r, m, h => by
    unfold bindC
    rw [bindC_out fun w hw => h w (List.mem_cons_of_mem _ hw)]
    split
    · rfl
    · have : x ≠ n := by rintro rfl; exact h v List.mem_cons_self
      simp [this]
theorem bindL_get {kindOf : Str → Option NameKind} {x : Str} {v : Value} : ∀ {P : List Str} {vs : List Value} {i : Nat} {m : Str → Option Value}, P.Nodup → P[i]? = some x → vs[i]? = some v → kindOf x = some .local →
    bindL kindOf (P.zip vs) m x = some v
  | [], _, _, _, _, h, _, _ => by simp at h
  | _ :: _, [], _, _, _, _, h, _ => by simp at h
  | p :: P, w :: vs, 0, m, nd, h1, h2, hk => by
    simp at h1 h2; subst h1; subst h2
    show bindL kindOf ((p, w) :: P.zip vs) m p = _
    unfold bindL
    rw [bindL_out fun v hv => (List.nodup_cons.mp nd).1 (List.of_mem_zip hv).1, if_pos hk]
    simp
  | p :: P, w :: vs, i + 1, m, nd, h1, h2, hk => by
    show bindL kindOf ((p, w) :: P.zip vs) m x = _
    unfold bindL
    exact bindL_get (i := i) (List.nodup_cons.mp nd).2 (by simpa using h1) (by simpa using h2) hk
theorem bindC_get {kindOf : Str → Option NameKind} {x : Str} {v : Value} : ∀ {P : List Str} {vs : List Value} {i : Nat} {m : Str → Option Value}, P.Nodup → P[i]? = some x → vs[i]? = some v → kindOf x ≠ some .local →
    bindC kindOf (P.zip vs) m x = some v
  | [], _, _, _, _, h, _, _ => by simp at h
  | _ :: _, [], _, _, _, _, h, _ => by simp at h
  | p :: P, w :: vs, 0, m, nd, h1, h2, hk => by
    simp at h1 h2; subst h1; subst h2
    show bindC kindOf ((p, w) :: P.zip vs) m p = _
    unfold bindC
    rw [bindC_out fun v hv => (List.nodup_cons.mp nd).1 (List.of_mem_zip hv).1, if_neg hk]
    simp
  | p :: P, w :: vs, i + 1, m, nd, h1, h2, hk => by
    show bindC kindOf ((p, w) :: P.zip vs) m x = _
    unfold bindC
    exact bindC_get (i := i) (List.nodup_cons.mp nd).2 (by simpa using h1) (by simpa using h2) hk

/-- the names' values at the entry -/
def start (N : List Str) (vs : List V) : St := vs.map some ++ List.replicate (N.length - vs.length) none

/-- the context of a def's body, at its entry; an exception leaves the frame, then lies as CX says -/
def cxOf (CX : CXT) (P : Program) (w : World) (K : PySem.W.Frag) (mg : Str → Option Value) (base : Heap) (N : List Str) (qual : Str) (scope : Scope) (f : Addr) (cd : Value) (A : Around) (outer : List Env) (s : Shared) (H : Hp) (E : XK) : Cx where
  prog := P
  w := w
  K := K
  mg := mg
  base := base
  A := A.deeper (envOfC qual scope s.heap.objs.size f cd)
  N := N
  s₀ := s
  H₀ := H
  env := envOfC qual scope s.heap.objs.size f cd
  outer := outer
  stack := envOfC qual scope s.heap.objs.size f cd :: outer
  ex := []
  calm := true
  fn := fun _ => true
  pn := []
  xe := fun e s' => wpAny (model P w) (A.deeper (envOfC qual scope s.heap.objs.size f cd)) (leaving (envOfC qual scope s.heap.objs.size f cd) e) (fun _ s'' => CX outer H s E e s'') (fun e' s'' => CX outer H s E e' s'') s'

theorem cell_has {sc : Scope} {n : Nat} {x : Str} (h : sc.names.lookup x = some .cell) : ∃ c, (cellsFrom n sc.names []).lookup x = some c := by
  have q := PySem.W.cellsFrom_some sc.names n [] (.inl h)
  exact Option.isSome_iff_exists.mp q

theorem inv_start {CX : CXT} {P : Program} {w : World} {K : PySem.W.Frag} {mg : Str → Option Value} {base : Heap} {N ps : List Str} {qual : Str} {scope : Scope} {f : Addr} {cd : Value} {A : Around} {outer : List Env} {s s1 : Shared} {H : Hp} {E : XK} {us : List Value} {vs : List V}
    (S : FnScope N ps scope) (hd : A.handled = none) (e0 : Env0 P w K mg base A outer s H) (hl : vs.length = ps.length) (r : Vals vs us)
    (x : InCallC s s.heap.objs.size (bindL (envOfC qual scope s.heap.objs.size f cd).kindOf (ps.zip us) fun _ => none) (cellsFrom (s.heap.objs.size + 1) scope.names []) (bindC (envOfC qual scope s.heap.objs.size f cd).kindOf (ps.zip us) fun _ => none) s1) :
    Inv (cxOf CX P w K mg base N qual scope f cd A outer s H E) [] (start N vs) H s1 := by
  have hpl : ps.length ≤ N.length := by have := congrArg List.length S.pre; rw [List.length_take] at this; omega
  obtain ⟨h1, tk, rfl, hk⟩ := x.done
  have noA : ∀ b : Addr, b ∉ (cxOf CX P w K mg base N qual scope f cd A outer s H E).ex := fun b z => absurd (show b ∈ ([] : List Addr) from z) (by simp)
  refine ⟨⟨e0.mod, S.kind, rfl, rfl, Nat.le_refl _, fun y z c h1 h2 => ?_, fun y hy => ?_, fun y c _ h => ?_, fun _ => hd, Around.frames_deeper e0.frames, .inr ⟨rfl, rfl⟩, fun b z => absurd z (noA b), e0.bs, e0.bsz, fun b _ _ => noA b, fun b z => absurd z (noA b), e0.funs, e0.frf⟩,
    rfl, e0.bare, Un.kept hk, ⟨_, x.toInCall.ns, fun i y v h1 h2 h3 => ?_⟩, fun y c h => ⟨_, x.cell y c h⟩, e0.hok.fresh (Nat.le_refl _), fun y c h => ?_, fun p hp => absurd (show p ∈ ([] : List (Addr × Obj)) from hp) (by simp), e0.hok.kept hk, ?_⟩
  · exact name_of_addr x.apart (PySem.mem_of_lookup h1) (PySem.mem_of_lookup h2)
  · have hy : scope.names.lookup y = some .cell ∨ scope.names.lookup y = some .free := hy
    rcases hy with hy | hy
    · exact cell_has hy
    · exact absurd rfl (S.nofree _ (PySem.mem_of_lookup hy))
  · exact Nat.le_of_lt (x.above y c (PySem.mem_of_lookup h))
  · have hi : i < vs.length := by
      unfold start at h2
      by_cases hi : i < vs.length
      · exact hi
      · rw [List.getElem?_append_right (by simpa using hi)] at h2
        rw [List.getElem?_replicate] at h2
        split at h2 <;> cases h2
    have ha : vs[i]? = some v := by
      unfold start at h2
      rw [List.getElem?_append_left (by simpa using hi), List.getElem?_map] at h2
      cases e : vs[i]? with
      | none => rw [e] at h2; cases h2
      | some a => rw [e] at h2; cases h2; rfl
    obtain ⟨u, hu, rv⟩ := r.get ha
    have hp : ps[i]? = some y := by
      rw [← S.pre, List.getElem?_take_of_lt (by omega)]; exact h1
    have ndP : ps.Nodup := by rw [← S.pre]; exact S.nd.sublist (List.take_sublist _ _)
    refine ⟨u, rv, ?_⟩
    rcases S.par y (List.mem_of_getElem? hp) with k | k
    · exact .inl ⟨k, bindL_get ndP hp hu k⟩
    · obtain ⟨c, e⟩ := cell_has (n := s.heap.objs.size + 1) k
      refine .inr ⟨.inl k, c, e, ?_⟩
      have q := x.cell y c e
      rw [bindC_get ndP hp hu (by show scope.names.lookup y ≠ _; rw [k]; decide)] at q
      exact q
  · exact e0.hok.fresh (Nat.le_of_lt (x.above y c (PySem.mem_of_lookup h)))
  · unfold start
    show _ = N.length
    rw [List.length_append, List.length_map, List.length_replicate]
    omega

/-- THE RULE: a def (or a method) of the text, by its body. The body's reading t is chosen for each entry; it is run at the parameters' values -/
theorem fn_of {CX : CXT} {P : Program} {w : World} {K : PySem.W.Frag} {mg : Str → Option Value} {base : Heap} {k : Nat} {f : Addr} {name qual : Str} {params : Arguments} {body : List Stmt} {scope : Scope} {dV kV doc pm cdv ct oc : Value} {an od : Option Addr}
    {osl : Array (Option Value)} {N ps : List Str} {sp : Sp} (lk : K.lookup f = some ⟨oc, od, .func (PySem.W.fnOf name qual params body scope dV kV doc pm an cdv ct), osl⟩) (hcd : PySem.W.codeIn K cdv qual = true) (S : FnScope N ps scope)
    (len : ∀ vs H Q E, sp vs H Q E → vs.length = ps.length)
    (hbody : ∀ (A : Around) (outer : List Env) (s : Shared) (H : Hp) (vs : List V) (Q : VK) (E : XK), Room k (A.deeper (envOfC qual scope s.heap.objs.size f cdv)) → sp vs H Q E →
      ∃ t, PSs (cxOf CX P w K mg base N qual scope f cdv A outer s H E) body t ∧ t { nx := fun _ H' => Q .non H', rt := Q } (start N vs) H) :
    FnOk P w K mg base CX (k + 1) f (PySem.W.fnOf name qual params body scope dV kV doc pm an cdv ct) ps sp := by
  refine ⟨len, fun A outer s H args us vs Q E hr e0 hb r hsp => ?_⟩
  have hl := len _ _ _ _ hsp
  have KX : K.In s.heap := e0.mod.kin.keeps fun b o e => (e0.bs b o e).1
  have lim : s.heap.NoLimit := e0.mod.nolimit.keeps fun b o e => (e0.bs b o e).1
  have hkind : ∀ y ∈ ps.zip us, scope.names.lookup y.1 = some .local ∨ (scope.names.lookup y.1 = some .cell ∧ ((cellsFrom (s.heap.objs.size + 1) scope.names []).lookup y.1).isSome = true) := fun ⟨n, v⟩ hy => by
    rcases S.par n (List.of_mem_zip hy).1 with q | q
    · exact .inl q
    · exact .inr ⟨q, PySem.W.cellsFrom_some _ _ _ (.inl q)⟩
  refine codeAny_call_function hr.depth (KX _ _ lk) rfl S.co S.gen rfl (PySem.W.codeRec_of KX hcd) (hb _ _ _ _ ?_)
  refine wpAny_newFunctionEnv_cells S.kind hkind fun env he s1 x => ?_
  subst he
  refine ⟨lim.keeps x.toInCall.keep, codeAny_func ?_⟩
  obtain ⟨t, ht, hq⟩ := hbody A outer s H vs Q E (hr.deeper _) hsp
  have I : Inv (cxOf CX P w K mg base N qual scope f cdv A outer s H E) [] (start N vs) H s1 := inv_start S hr.hd e0 hl r x
  refine wpAny_mono (ht [] s1 (start N vs) H _ I hq) (fun fl s' hs => ?_) fun e s' hs => hs
  have fin : ∀ {σ' : St} {H' : Hp} {v : V} {u : Value}, Inv (cxOf CX P w K mg base N qual scope f cdv A outer s H E) [] σ' H' s' → RelV v u → Q v H' → CE outer P w H s Q u s' :=
    fun {σ' H' v u} J rv q => ⟨v, H', J.os, J.bare, J.base, J.hok, rv, q⟩
  cases fl with
  | ret u =>
    obtain ⟨v, σ', H', J, rv, q⟩ := hs
    exact fin J rv q
  | next =>
    obtain ⟨σ', H', J, q⟩ := hs
    exact fin (v := V.non) (u := Value.none) J rfl q
  | brk =>
    obtain ⟨_, _, _, q⟩ := hs
    exact False.elim q
  | cont =>
    obtain ⟨_, _, _, q⟩ := hs
    exact False.elim q
end L2

namespace L2
open PySem PySem.Spec PyProof.Rows
section
variable {X : Cx} {x : Str} {p pos : Pos} {e : Expr} {es : List Expr} {t : TA} {id T : String} {r : List V → Hp → VK → Prop}

def tCB (r : List V → Hp → VK → Prop) (t : TA) : TE := fun σ H Q => t σ H fun vs H1 => r vs H1 Q
/-- f(e, ..), f a built-in function -/
theorem pe_callB (hc : CallR X (.builtin id) r) (hg : Gl X x) (hm : X.mg x = none) (hv : bootBuiltins x = some (.builtin id)) (ha : PA X (e :: es) t) (hn : x ≠ "__name__" := by decide) (hdb : (x == ("__debug__" : Str)) = false := by decide)
    (he : starEach (e :: es) X.env = (false, eval e X.env) :: starEach es X.env := by rfl) (hpl : (backTo pos (starEach es X.env)).any (·.1) = false := by rfl) : PE X (.Call (.Name x p) (e :: es) [] pos) (tCB r t) := by
  intro pins s σ H Q I h
  refine wpAny_Call_Name_kw (ld_blt I hg hm hv ?_ hn hdb)
  exact PyProof.Rows.callWith_builtin1 (thn (ha pos pins s σ H _ I h) fun us s1 ⟨vs, H1, I1, r1, q1⟩ => hc pins s1 σ H1 vs us Q I1 r1 q1) he hpl
end
end L2

namespace HT
open PySem PyProof.Rows

/-- t < u of tuples of ints -/
def lexLt : List Int → List Int → Bool
  | [], [] => false
  | [], _ :: _ => true
  | _ :: _, [] => false
  | x :: xs, y :: ys => if x = y then lexLt xs ys else decide (x < y)


section
open PySem.SeqAt
open PySem.AutoSeq1 (wpAny_loadPart')
open PySem.MeetsSeq PySem.MeetsSeq2 PySem.MeetsSeq3

end

section
variable {prog : Program} {w : World} {A : Around} {E : Value → Shared → Prop} {s : Shared}



/-! ### t[a:b], not the whole -/
/-- a slice's bound as a place among n (d where it is left out) -/
def sIx (n d : Nat) : Option Int → Nat
  | none => d
  | some v => if v < 0 then (v + (n : Int)).toNat else min v.toNat n

end
end HT

namespace L2
open PySem PySem.Spec PyProof.Rows

/-! ### the parts of a slice -/
abbrev TO := St → Hp → (Option Int → Hp → Prop) → Prop
/-- a slice's part (left out, or an int) -/
def PO (X : Cx) (e : Option Expr) (t : TO) : Prop :=
  ∀ (pins : List (Addr × Obj)) (s : Shared) (σ : St) (H : Hp) (Q : Option Int → Hp → Prop), Inv X pins σ H s → t σ H Q →
    wpAny (model X.prog X.w) X.A (evalPart e X.env) (fun u s' => ∃ o H', Inv X pins σ H' s' ∧ IsPart u o ∧ Q o H') X.xe s
def tNoPart : TO := fun _ H Q => Q none H
def tPart (t : TE) : TO := fun σ H Q => t σ H fun x H1 => ∃ i, x = .int i ∧ Q (some i) H1


section
variable {X : Cx} {e : Expr} {te : TE} {lo hi : Option Expr} {tl th : TO} {pos p2 : Pos}


/-- what a slice of a value is, by values: the slice object stands at sl -/
def SlR (X : Cx) (r : V → Option Int → Option Int → Hp → VK → Prop) : Prop :=
  ∀ (pins : List (Addr × Obj)) (s : Shared) (σ : St) (H : Hp) (x : V) (v vl vu : Value) (lo hi : Option Int) (sl : Addr) (Q : VK), Inv X pins σ H s → RelV x v → s.heap.IsSliceOf sl vl vu .none → IsPart vl lo → IsPart vu hi → r x lo hi H Q →
    ∃ T id, typeLookup (.type T) "__getitem__" = pure (some (.builtin id)) ∧ s.TypeIs v T ∧ wpAny (model X.prog X.w) X.A (getItem v (.ref sl)) (EP X pins σ Q) X.xe s
def tSl (r : V → Option Int → Option Int → Hp → VK → Prop) (te : TE) (tl th : TO) : TE := fun σ H Q => te σ H fun x H1 => tl σ H1 fun l H2 => th σ H2 fun u H3 => r x l u H3 Q

/-- the items of xs[lo:hi] -/
def cutV (xs : List V) (lo hi : Option Int) : List V := (xs.drop (HT.sIx xs.length 0 lo)).take (HT.sIx xs.length xs.length hi - HT.sIx xs.length 0 lo)
/-- t[lo:hi], not the whole of it (the whole would be t itself) -/
def rSlT (K : PySem.W.Frag) : V → Option Int → Option Int → Hp → VK → Prop := fun x lo hi H Q => ∃ a xs, x = .ref a ∧ SqT K H a xs ∧
  ¬ (HT.sIx xs.length 0 lo = 0 ∧ HT.sIx xs.length xs.length hi = xs.length) ∧ ∀ p, H p = none → Q (.ref p) (upd H p (.tup (cutV xs lo hi)))

/-! ### t < u, t + u -/
def rLtT (K : PySem.W.Frag) : R2 := fun x y H Q => ∃ a b ns ms, x = .ref a ∧ y = .ref b ∧ SqT K H a (ns.map V.int) ∧ SqT K H b (ms.map V.int) ∧ Q (.bl (HT.lexLt ns ms)) H
/-- t + u, t not empty: u empty gives t itself -/
def rCatT (K : PySem.W.Frag) : R2 := fun x y H Q => ∃ a b xs ys, x = .ref a ∧ y = .ref b ∧ SqT K H a xs ∧ SqT K H b ys ∧ xs ≠ [] ∧ xs.length + ys.length ≤ sizeLine ∧
  (ys = [] → Q (.ref a) H) ∧ (ys ≠ [] → ∀ p, H p = none → Q (.ref p) (upd H p (.tup (xs ++ ys))))
end
end L2

namespace L2
open PySem PySem.Spec PyProof.Rows

/-! ### places -/
/-- the place that an index of any sign means -/
def ixN (n : Nat) (i : Int) : Option Nat := if 0 ≤ i then (if i < n then some i.toNat else none) else if -(n : Int) ≤ i then some (i + n).toNat else none
def atI {α : Type} (xs : List α) (i : Int) : Option α := (ixN xs.length i).bind fun j => xs[j]?
theorem ixN_seq {n : Nat} {i : Int} {j : Nat} (h : ixN n i = some j) : seqIndex? i n = some j ∧ j < n ∧ -(n : Int) ≤ i ∧ i < n := by
  unfold ixN at h
  by_cases h0 : 0 ≤ i
  · rw [if_pos h0] at h
    by_cases h1 : i < n
    · rw [if_pos h1] at h
      have e : i.toNat = j := Option.some.inj h
      exact ⟨by rw [seqIndex_of h0 h1, e], by omega, by omega, h1⟩
    · rw [if_neg h1] at h; cases h
  · rw [if_neg h0] at h
    by_cases h1 : -(n : Int) ≤ i
    · rw [if_pos h1] at h
      have e : (i + n).toNat = j := Option.some.inj h
      exact ⟨by rw [seqIndex_neg (by omega) h1, e], by omega, h1, by omega⟩
    · rw [if_neg h1] at h; cases h
theorem atI_get {α : Type} {xs : List α} {i : Int} {v : α} (h : atI xs i = some v) : ∃ j, seqIndex? i xs.length = some j ∧ xs[j]? = some v ∧ j < xs.length ∧ -(xs.length : Int) ≤ i ∧ i < xs.length := by
  unfold atI at h
  cases e : ixN xs.length i with
  | none => rw [e] at h; cases h
  | some j =>
    rw [e] at h
    obtain ⟨h1, h2, h3, h4⟩ := ixN_seq e
    exact ⟨j, h1, h, h2, h3, h4⟩
theorem atI_nat {α : Type} {xs : List α} {j : Nat} {v : α} (h : xs[j]? = some v) : atI xs (j : Int) = some v := by
  have hj : j < xs.length := (List.getElem?_eq_some_iff.mp h).1
  have e : ixN xs.length (j : Int) = some j := by
    unfold ixN
    rw [if_pos (by omega), if_pos (by omega)]; simp
  unfold atI; rw [e]; exact h

/-! ### what may be subscripted -/
/-- what stands as an index of a plain subscript -/
def PlainIx (b : Expr) : Prop := ∀ o i, subscripted b false o i = operate [o, i] (getItem o i)
/-- a subscript by values -/
def IxR (X : Cx) (r : R2) : Prop :=
  ∀ (value slice : Expr) (pins : List (Addr × Obj)) (s : Shared) (σ : St) (H : Hp) (x y : V) (v u : Value) (Q : VK), Inv X pins σ H s → RelV x v → RelV y u → r x y H Q →
    subscripted slice false v u = operate [v, u] (getItem v u) → wpAny (model X.prog X.w) X.A (subscriptTail value slice v u) (EP X pins σ Q) X.xe s
/-- a call of a builtin's method by values: the receiver, the arguments -/
def MtR (X : Cx) (id : String) (r : V → List V → Hp → VK → Prop) : Prop :=
  ∀ (pins : List (Addr × Obj)) (s : Shared) (σ : St) (H : Hp) (x : V) (xs : List V) (v : Value) (us : List Value) (Q : VK), Inv X pins σ H s → RelV x v → Vals xs us → r x xs H Q →
    wpAny (model X.prog X.w) X.A (call (.builtin id) (v :: us)) (EP X pins σ Q) X.xe s
section
variable {X : Cx} {a b : Expr} {ta tb : TE} {pos : Pos}
/-- a[b] -/
theorem pe_ix {r : R2} (hr : IxR X r) (ha : PE X a ta) (hb : PE X b tb) (hs : PlainIx b) : PE X (.Subscript a b pos) (tOp r ta tb) := by
  intro pins s σ H Q I h
  exact Subscript_ (binT ha hb I h fun v u s2 x y H2 I2 rx ry q => hr a b pins s2 σ H2 x y v u Q I2 rx ry q (hs _ _))

def rIxL (K : PySem.W.Frag) : R2 := fun x y H Q => ∃ p xs i v, x = .ref p ∧ y = .int i ∧ SqL K H p xs ∧ atI xs i = some v ∧ Q v H
def rIxT (K : PySem.W.Frag) : R2 := fun x y H Q => ∃ p xs i v, x = .ref p ∧ y = .int i ∧ SqT K H p xs ∧ atI xs i = some v ∧ Q v H
def rIxS : R2 := fun x y H Q => ∃ z i c, x = .str z ∧ y = .int i ∧ z.length ≤ sizeLine ∧ atI z.cps.toList i = some c ∧ Q (.str ⟨#[c]⟩) H
theorem ix_list : IxR X (rIxL X.K) := by
  intro value slice pins s σ H x y v u Q I rx ry h hs
  obtain ⟨p, xs, i, z, rfl, rfl, hq, he, q⟩ := h
  cases rx
  obtain ⟨t, rfl⟩ := ry
  obtain ⟨its, r, pl, hz⟩ := I.list hq
  obtain ⟨j, h1, h2, h3, h4, h5⟩ := atI_get he
  obtain ⟨w, ew, rw'⟩ := r.get h2
  have hl := r.length
  have hn := line63
  have fin : EP X pins σ Q w s := ⟨z, H, I, rw', q⟩
  by_cases h0 : 0 ≤ i
  · have hj : i.toNat = j := by
      rw [seqIndex_of h0 h5] at h1
      exact Option.some.inj h1
    exact item_listR pl.isList h0 (by omega) (by rw [hj]; simpa using ew) fin hs
  · have hj : (i + (its.toArray.size : Int)).toNat = j := by
      rw [seqIndex_neg (by omega) h4] at h1
      rw [List.size_toArray, ← hl]
      exact Option.some.inj h1
    exact subscriptTail_builtinR (x := w) pl.isList.typeIs slot_list_getitem.lookup
      (wpAny_getItem_list_neg (Q := fun r s' => r = w ∧ EP X pins σ Q r s') pl.isList (by omega) (by rw [List.size_toArray] <;> omega) (by omega) (by rw [hj]; simpa using ew) ⟨rfl, fin⟩) hs
theorem ix_str : IxR X rIxS := by
  intro value slice pins s σ H x y v u Q I rx ry h hs
  obtain ⟨z, i, c, rfl, rfl, hz, he, q⟩ := h
  obtain ⟨t, rfl⟩ := rx
  obtain ⟨t', rfl⟩ := ry
  obtain ⟨j, h1, h2, h3, h4, h5⟩ := atI_get he
  have hl : z.cps.toList.length = z.length := by simp [Str.length]
  rw [hl] at h1 h4 h5
  have hn := line63
  exact tail_any (typeIs_str s z t) slot_str_getitem.lookup (getItem_str (c := c) (by
    have e1 : decide (i < -(2 ^ 63 : Int)) = false := decide_eq_false (by omega)
    have e2 : decide (i ≥ 2 ^ 63) = false := decide_eq_false (by omega)
    rw [e1, e2, Bool.or_false]) (by rw [h1]; simpa using h2) ⟨.str ⟨#[c]⟩, H, I.tok _, ⟨_, rfl⟩, q⟩) hs
/-- list, tuple or str -/
def rIx (K : PySem.W.Frag) : R2 := fun x y H Q => rIxL K x y H Q ∨ rIxT K x y H Q ∨ rIxS x y H Q

/-! ### xs[i] = v, any sign -/
def rSetL : V → V → V → Hp → (Hp → Prop) → Prop := fun o i v H Q => ∃ p xs k j, o = .ref p ∧ i = .int k ∧ H p = some (.lst xs) ∧ ixN xs.length k = some j ∧ Q (upd H p (.lst (xs.set j v)))

/-! ### slices -/
/-- xs[lo:hi] of a list: a new list -/
def rSlL (K : PySem.W.Frag) : V → Option Int → Option Int → Hp → VK → Prop := fun x lo hi H Q => ∃ a xs, x = .ref a ∧ SqL K H a xs ∧ ∀ p, H p = none → Q (.ref p) (upd H p (.lst (cutV xs lo hi)))

/-! ### in, not in: flat items -/
def flatV : V → Bool
  | .non => true
  | .bl _ => true
  | .int _ => true
  | .str _ => true
  | _ => false
/-- == of flat values -/
def eqV : V → V → Bool
  | .non, .non => true
  | .bl a, .bl b => a == b
  | .bl a, .int b => (if a then 1 else 0) == b
  | .int a, .bl b => a == (if b then 1 else 0)
  | .int a, .int b => a == b
  | .str a, .str b => a == b
  | _, _ => false
/-- the items' answers, read off the values (a value's own answer does not lean on its token) -/
def eqU (x : V) (u : Value) : Bool := match u with
  | .none => eqV .non x
  | .bool b => eqV (.bl b) x
  | .int i _ => eqV (.int i) x
  | .str z _ => eqV (.str z) x
  | _ => false
def inV (x : V) (xs : List V) : Bool := xs.any fun y => eqV y x
/-- x in a list or tuple of flat items -/
def rIn (K : PySem.W.Frag) (neg : Bool) : R2 := fun x y H Q => ∃ p xs, y = .ref p ∧ (SqL K H p xs ∨ SqT K H p xs) ∧ flatV x = true ∧ xs.all flatV = true ∧ Q (.bl (if neg then !inV x xs else inV x xs)) H

/-! ### len, list(x), tuple(x) of any list or tuple that is read -/
theorem call_len_seq : CallR X (.builtin "len") (fun xs H Q => ∃ p ys, xs = [.ref p] ∧ (SqL X.K H p ys ∨ SqT X.K H p ys) ∧ Q (.int ys.length) H) := by
  intro pins s σ H xs us Q I r h
  obtain ⟨p, ys, rfl, hq, q⟩ := h
  obtain ⟨u, rfl, rx⟩ := vals1 r
  cases rx
  have hn := line63
  rcases hq with hq | hq
  · obtain ⟨its, r', pl, hz⟩ := I.list hq
    have hlen := r'.length
    exact Calls.call_len_list pl.isList (by simp only [List.size_toArray] <;> omega) ⟨.int ys.length, H, I.tok _, ⟨s.toks + 1, by rw [List.size_toArray, hlen]⟩, q⟩
  · obtain ⟨its, r', pl, hz⟩ := I.tuple hq
    have hlen := r'.length
    exact len_tuple pl (by simp only [List.size_toArray] <;> omega) ⟨.int ys.length, H, I.tok _, ⟨s.toks + 1, by rw [List.size_toArray, hlen]⟩, q⟩

/-! ### the call of a builtin's method: o.m(..) -/
/-- the value is of that builtin type -/
def tyV (K : PySem.W.Frag) (T : String) (x : V) (H : Hp) : Prop := match x with
  | .str _ => T = "str"
  | .int _ => T = "int"
  | .ref p => (T = "list" ∧ ∃ xs, SqL K H p xs) ∨ (T = "tuple" ∧ ∃ o, K.lookup p = some o ∧ o.cls = .type "tuple" ∧ o.dict = none) ∨
      (T = "dict" ∧ ((∃ kvs, H p = some (.dK kvs)) ∨ ∃ kvs, H p = some (.dT kvs))) ∨ (T = "set" ∧ ∃ S n, H p = some (.set S n))
  | _ => False
def tBM0 (K : PySem.W.Frag) (T : String) (r : V → List V → Hp → VK → Prop) (to : TE) : TE := fun σ H Q => to σ H fun x H1 => tyV K T x H1 ∧ r x [] H1 Q
def tBM (K : PySem.W.Frag) (T : String) (r : V → List V → Hp → VK → Prop) (to : TE) (t : TA) : TE := fun σ H Q => to σ H fun x H1 => tyV K T x H1 ∧ t σ H1 fun xs H2 => r x xs H2 Q
variable {o e : Expr} {es : List Expr} {to : TE} {t : TA} {name : Str} {apos cpos : Pos} {T id : String} {r : V → List V → Hp → VK → Prop}
/- xs.append(e), list.index on a module's tuple .. are MtR facts of 06m -/
end
end L2

namespace L2
open PySem PySem.Spec PyProof.Rows

def MtM (X : Cx) (id : String) (r : V → List V → Hp → VK → Prop) : Prop :=
  ∀ (pins : List (Addr × Obj)) (s : Shared) (σ : St) (H : Hp) (x : V) (xs : List V) (v : Value) (us : List Value) (Q : VK), Inv X pins σ H s → RelV x v → Vals xs us → r x xs H Q →
    wpAny (model X.prog X.w) X.A (call (.builtin id) (v :: us)) (EP X pins σ Q) X.xe s

/-! ### lists of values -/
theorem Vals.two : ∀ {x y : V} {us : List Value}, Vals [x, y] us → ∃ u v, us = [u, v] ∧ RelV x u ∧ RelV y v
  | _, _, _, .cons r (.cons q .nil) => ⟨_, _, rfl, r, q⟩

section
variable {X : Cx} {pins : List (Addr × Obj)} {σ : St} {H : Hp} {s : Shared} {l b : Addr} {xs ys zs : List V}

/-! ### the two steps: a tracked list is rewritten, a new list is laid -/
theorem Inv.lnew {its : List Value} {t' : Nat} (I : Inv X pins σ H s) (hv : Vals ys its) (hz : ys.length ≤ sizeLine) :
    Inv X pins σ (upd H s.heap.objs.size (.lst ys)) { s with heap := s.heap.push { cls := .type "list", data := .seq its.toArray }, toks := t' } :=
  I.laid (fun _ _ q => Heap.get?_push_of_some _ q) (Nat.le_refl _) ⟨hz, its, 0, hv, Heap.get?_push_size _ rfl⟩
theorem Inv.fresh (I : Inv X pins σ H s) : H s.heap.objs.size = none := I.hok.fresh (Nat.le_refl _)
theorem Inv.lstM (I : Inv X pins σ H s) (hH : H l = some (.lst xs)) : xs.length ≤ sizeLine ∧ ∃ (its : List Value) (n : Nat), Vals xs its ∧ xs.length = its.length ∧ s.heap.get? l = some { cls := .type "list", data := .seq its.toArray n } := by
  obtain ⟨z, its, n, r, e⟩ := I.hok l _ hH
  exact ⟨z, its, n, r, r.length, e⟩

end

section
variable {X : Cx}

/-! ### methods -/
def rAppend : V → List V → Hp → VK → Prop := fun x vs H Q => ∃ l xs y, x = .ref l ∧ vs = [y] ∧ H l = some (.lst xs) ∧ xs.length < sizeLine ∧ Q .non (upd H l (.lst (xs ++ [y])))

def rExtend : V → List V → Hp → VK → Prop := fun x vs H Q => ∃ l b xs zs, x = .ref l ∧ vs = [.ref b] ∧ H l = some (.lst xs) ∧ H b = some (.lst zs) ∧ xs.length + zs.length ≤ sizeLine ∧ Q .non (upd H l (.lst (xs ++ zs)))

def rPop : V → List V → Hp → VK → Prop := fun x vs H Q => ∃ l xs y, x = .ref l ∧ vs = [] ∧ H l = some (.lst xs) ∧ xs[xs.length - 1]? = some y ∧ Q y (upd H l (.lst xs.dropLast))

def rPopAt : V → List V → Hp → VK → Prop := fun x vs H Q => ∃ l xs i k y, x = .ref l ∧ vs = [.int i] ∧ H l = some (.lst xs) ∧ -(2 ^ 63) ≤ i ∧ i < 2 ^ 63 ∧ seqIndex? i xs.length = some k ∧ xs[k]? = some y ∧ Q y (upd H l (.lst (xs.eraseIdx k)))

def rReverse : V → List V → Hp → VK → Prop := fun x vs H Q => ∃ l xs, x = .ref l ∧ vs = [] ∧ H l = some (.lst xs) ∧ Q .non (upd H l (.lst xs.reverse))

def rClear : V → List V → Hp → VK → Prop := fun x vs H Q => ∃ l xs, x = .ref l ∧ vs = [] ∧ H l = some (.lst xs) ∧ Q .non (upd H l (.lst []))

/-! ### list + list, list += list, list * int -/
def rCat : R2 := fun x y H Q => ∃ l b xs zs, x = .ref l ∧ y = .ref b ∧ H l = some (.lst xs) ∧ H b = some (.lst zs) ∧ xs.length + zs.length ≤ sizeLine ∧ ∀ p, H p = none → Q (.ref p) (upd H p (.lst (xs ++ zs)))
theorem op_cat : OpR X (binaryOp .Add) rCat := by
  intro pins s σ H x y v u Q I rx ry h
  obtain ⟨l, b, xs, zs, rfl, rfl, hH, hB, hz, q⟩ := h
  cases rx
  cases ry
  obtain ⟨z, its, n, r, hl, e⟩ := I.lstM hH
  obtain ⟨z2, its2, n2, r2, hl2, e2⟩ := I.lstM hB
  refine PySem.P.add_list e e2 ?_ (by rw [List.size_toArray, List.size_toArray]; omega)
  have ea : its.toArray ++ its2.toArray = (its ++ its2).toArray := by simp
  rw [ea]
  exact ⟨.ref _, _, I.lnew (t' := s.toks) (r.append r2) (by rw [List.length_append]; omega), rfl, q _ I.fresh⟩
/-- a list times an int (a negative one is nothing) -/
def rRep : R2 := fun x y H Q => ∃ l k xs, x = .ref l ∧ y = .int k ∧ H l = some (.lst xs) ∧ -(2 ^ 63) ≤ k ∧ k < 2 ^ 63 ∧ xs.length * k.toNat ≤ sizeLine ∧
  ∀ p, H p = none → Q (.ref p) (upd H p (.lst (List.replicate k.toNat xs).flatten))

/-! ### del xs[i] -/
end

/-! ### xs[a:b] = ys -/
section
variable {prog : Program} {w : World} {A : Around} {E : Value → Shared → Prop} {s : Shared}
end

section
variable {X : Cx}
end
end L2

namespace L2
open PySem PySem.Spec PyProof.Rows

/-! ### lists of pairs as tables -/
section
variable {κ : Type} [DecidableEq κ]
def valV (kvs : List (κ × V)) (k : κ) : Option V := (kvs.find? fun kv => decide (kv.1 = k)).map (·.2)
/-- in its place, or at the end -/
def putK (kvs : List (κ × V)) (k : κ) (v : V) : List (κ × V) :=
  if (kvs.any fun kv => decide (kv.1 = k)) = true then kvs.map (fun kv => if kv.1 = k then (kv.1, v) else kv) else kvs ++ [(k, v)]
def dropK (kvs : List (κ × V)) (k : κ) : List (κ × V) := kvs.filter fun kv => decide (kv.1 ≠ k)



end


/-! ### a tracked dict, its keys ints and texts or tuples of these -/

/-- raw entries of a dict with tuple keys -/
abbrev KT (H : Hp) : List (List Key × V) → List (List Key × Addr × Value) → Prop := Paired fun p q => p.1 = q.1 ∧ H q.2.1 = some (.tup (p.1.map kV)) ∧ RelV p.2 q.2.2

section
variable {P : Program} {w : World} {H : Hp} {h : Heap} {a : Addr}
end

/-- what the dict at a holds at the key y -/
def DGet (H : Hp) (a : Addr) (y : V) (r : Option V) : Prop :=
  (∃ kvs k, Rd H a (.dK kvs) ∧ y = kV k ∧ r = valV kvs k) ∨ ∃ kvs k b, Rd H a (.dT kvs) ∧ y = .ref b ∧ H b = some (.tup (k.map kV)) ∧ r = valV kvs k
/-- the heap behind a[y] = v -/
def DPut (H : Hp) (a : Addr) (y v : V) (H' : Hp) : Prop :=
  (∃ kvs k, H a = some (.dK kvs) ∧ y = kV k ∧ kvs.length < sizeLine ∧ H' = upd H a (.dK (putK kvs k v))) ∨
  ∃ kvs k b, H a = some (.dT kvs) ∧ y = .ref b ∧ H b = some (.tup (k.map kV)) ∧ kvs.length < sizeLine ∧ H' = upd H a (.dT (putK kvs k v))


section
variable {X : Cx} {pins : List (Addr × Obj)} {σ : St} {H : Hp} {s : Shared} {a : Addr} {y v : V} {u r : Value} {o : Option V} {A : Around} {E : Value → Shared → Prop}


end

section
variable {X : Cx} {pins : List (Addr × Obj)} {σ : St} {H : Hp} {s : Shared} {a : Addr} {kvs : List (Key × V)} {k : Key} {u : Value} {A : Around} {E : Value → Shared → Prop}
end


/-! ### readings and rules -/
/-- the element of a subscription, not a slice -/
def NoSl (i : Expr) : Prop := ∀ ov iv, subscripted i false ov iv = operate [ov, iv] (getItem ov iv)


/-- d[y] -/
def tDGet (td ty : TE) : TE := fun σ H Q => td σ H fun x H1 => ty σ H1 fun y H2 => ∃ a v, x = .ref a ∧ DGet H2 a y (some v) ∧ Q v H2
/-- y in d, y not in d -/
def tDIn (ty td : TE) : TE := fun σ H Q => ty σ H fun y H1 => td σ H1 fun x H2 => ∃ a o, x = .ref a ∧ DGet H2 a y o ∧ Q (.bl o.isSome) H2
def tDNotIn (ty td : TE) : TE := fun σ H Q => ty σ H fun y H1 => td σ H1 fun x H2 => ∃ a o, x = .ref a ∧ DGet H2 a y o ∧ Q (.bl (!o.isSome)) H2
/-- d[y] = v -/
def sDPut (td ty tv : TE) : TS := fun D σ H => tv σ H fun v H1 => td σ H1 fun x H2 => ty σ H2 fun y H3 => ∃ a H4, x = .ref a ∧ DPut H3 a y v H4 ∧ D.nx σ H4
/-- d[y] op= v -/
def sDAug (td ty tv : TE) (rd : V → V → Hp → VK → Prop) : TS := fun D σ H => td σ H fun x H1 => ty σ H1 fun y H2 => ∃ a v, x = .ref a ∧ DGet H2 a y (some v) ∧
  tv σ H2 fun y2 H3 => rd v y2 H3 fun z H4 => ∃ H5, DPut H4 a y z H5 ∧ D.nx σ H5
/-- del d[y] -/
def sDDel (td ty : TE) : TS := fun D σ H => td σ H fun x H1 => ty σ H1 fun y H2 => ∃ a kvs k, x = .ref a ∧ H2 a = some (.dK kvs) ∧ y = kV k ∧ (valV kvs k).isSome = true ∧ D.nx σ (upd H2 a (.dK (dropK kvs k)))

section
variable {X : Cx} {o i e value : Expr} {pos pos' tpos : Pos} {td ty tv : TE}
end


/-! ### displays -/
/-- {}, to be a dict of the kind that is wanted -/
def tDNewK : TE := fun _ H Q => ∀ p, H p = none → Q (.ref p) (upd H p (.dK []))
def tDNewT : TE := fun _ H Q => ∀ p, H p = none → Q (.ref p) (upd H p (.dT []))
section
variable {X : Cx} {pos : Pos}
end

/-- the pairs of a display, from the left -/
def tPairs : List (TE × TE) → St → Hp → (List (V × V) → Hp → Prop) → Prop
  | [], _, H, Q => Q [] H
  | (tk, tv) :: r, σ, H, Q => tk σ H fun x H1 => tv σ H1 fun y H2 => tPairs r σ H2 fun ps H3 => Q ((x, y) :: ps) H3
abbrev VV : List (V × V) → List (Value × Value) → Prop := Paired fun p q => RelV p.1 q.1 ∧ RelV p.2 q.2
def PPs (X : Cx) (pos : Pos) (keys : List (Option Expr)) (values : List Expr) (trs : List (TE × TE)) : Prop :=
  ∀ (pins : List (Addr × Obj)) (s : Shared) (σ : St) (H : Hp) (Q : List (V × V) → Hp → Prop), Inv X pins σ H s → tPairs trs σ H Q →
    wpAny (model X.prog X.w) X.A (evalPairs (pairTrees keys values X.env pos)) (fun vs s' => ∃ ps H', Inv X pins σ H' s' ∧ VV ps vs ∧ Q ps H') X.xe s

def mergeK (kvs more : List (Key × V)) : List (Key × V) := more.foldl (fun acc kv => putK acc kv.1 kv.2) kvs
/-- {k: v, ..} with keys ints and texts; the new dict stands empty while the pairs are made -/
def tDisp (trs : List (TE × TE)) : TE := fun σ H Q => ∀ p, H p = none → tPairs trs σ (upd H p (.dK [])) fun ps H2 => H2 p = some (.dK []) ∧ ∃ kvs : List (Key × V), ps = kvs.map (fun kv => (kV kv.1, kv.2)) ∧ kvs.length ≤ 15 ∧ Q (.ref p) (upd H2 p (.dK (mergeK [] kvs)))


/-! ### methods -/
/-- a method call o.m(e) of a built-in, with one argument: what must be seen of the text -/
structure M1 (X : Cx) (o : Expr) (m : Str) (apos : Pos) (e : Expr) (cpos : Pos) : Prop where
  base : attributeBase o m X.env (eval o X.env) = eval o X.env
  few : ((backTo cpos (starEach [e] X.env)).all (fun x => !x.1) && (backToKw cpos (keywordEach [] X.env)).all (fun x => x.1.isSome)
    && decide (([e] : List Expr).length + ([] : List Keyword).length + (if ([] : List Keyword).isEmpty then 0 else 1) < 30)) = true
  line : (apos.endLine == cpos.line) = true
  trees : backTo cpos (starEach [e] X.env) = [(false, eval e X.env)]
structure M2 (X : Cx) (o : Expr) (m : Str) (apos : Pos) (e f : Expr) (cpos : Pos) : Prop where
  base : attributeBase o m X.env (eval o X.env) = eval o X.env
  few : ((backTo cpos (starEach [e, f] X.env)).all (fun x => !x.1) && (backToKw cpos (keywordEach [] X.env)).all (fun x => x.1.isSome)
    && decide (([e, f] : List Expr).length + ([] : List Keyword).length + (if ([] : List Keyword).isEmpty then 0 else 1) < 30)) = true
  line : (apos.endLine == cpos.line) = true
  trees : backTo cpos (starEach [e, f] X.env) = [(false, eval e X.env), (false, eval f X.env)]

/-- a is a dict, whatever its keys -/
def IsD (H : Hp) (a : Addr) : Prop := (∃ kvs, Rd H a (.dK kvs)) ∨ ∃ kvs, Rd H a (.dT kvs)

section
variable {X : Cx} {pins : List (Addr × Obj)} {σ : St} {H : Hp} {s : Shared} {a : Addr} {y d : V} {u r : Value} {o : Option V} {A : Around} {E : Value → Shared → Prop}
end

def tDGet1 (td ty : TE) : TE := fun σ H Q => td σ H fun x H1 => ∃ a, x = .ref a ∧ IsD H1 a ∧ ty σ H1 fun y H2 => ∃ o, DGet H2 a y o ∧ Q (o.getD .non) H2
def tDGet2 (td ty tx : TE) : TE := fun σ H Q => td σ H fun x H1 => ∃ a, x = .ref a ∧ IsD H1 a ∧ ty σ H1 fun y H2 => tx σ H2 fun z H3 => ∃ o, DGet H3 a y o ∧ Q (o.getD z) H3
/-- d.pop(k): there; d.pop(k, x): there or not -/
def tDPop1 (td ty : TE) : TE := fun σ H Q => td σ H fun x H1 => ∃ a, x = .ref a ∧ IsD H1 a ∧ ty σ H1 fun y H2 => ∃ kvs k v, H2 a = some (.dK kvs) ∧ y = kV k ∧ valV kvs k = some v ∧ Q v (upd H2 a (.dK (dropK kvs k)))
def tDPop2 (td ty tx : TE) : TE := fun σ H Q => td σ H fun x H1 => ∃ a, x = .ref a ∧ IsD H1 a ∧ ty σ H1 fun y H2 => tx σ H2 fun z H3 => ∃ kvs k, H3 a = some (.dK kvs) ∧ y = kV k ∧
  (∀ v, valV kvs k = some v → Q v (upd H3 a (.dK (dropK kvs k)))) ∧ (valV kvs k = none → Q z H3)
section
variable {X : Cx} {o e f : Expr} {apos cpos : Pos} {td ty tx : TE}
end

/-! ### dict(d): a copy -/
section
variable {X : Cx} {pins : List (Addr × Obj)} {σ : St} {H : Hp} {s : Shared} {a : Addr} {kvs : List (Key × V)} {A : Around} {E : Value → Shared → Prop}
end


section
variable {X : Cx} {pins : List (Addr × Obj)} {σ : St} {H : Hp} {s : Shared} {a : Addr} {y : V} {u : Value} {A : Around} {E : Value → Shared → Prop}
end
end L2

namespace Att
open PySem PySem.W PySem.Calls PyProof.Rows

/-! ### the script -/
theorem ints_of_wellAll {P : Params} {h : Heap} : ∀ (ns : List Int) (vs : List Value), WellAll P h vs (ns.map WData.int) → IntsAre vs ns := by
  intro ns
  induction ns with
  | nil =>
    intro vs w
    rw [List.map_nil] at w
    cases w
    exact .nil
  | cons n ns ih =>
    intro vs w
    rw [List.map_cons] at w
    cases w with
    | cons a b =>
      cases a
      exact .cons _ _ (ih _ b)

theorem script_of {l : OpenLaw} {n : Nat} (hn : l.most = some n) {P : Params} {h : Heap} {args : List WData} {vals : List Value}
    (hpre : l.row.toRowW.claim.pre args = true) (hwl : WellAll P h vals args) :
    ∃ a vs ns, vals = [Value.ref a] ∧ args = [WData.list (ns.map WData.int)] ∧ h.get? a = some { cls := .type "list", data := .seq vs.toArray } ∧ IntsAre vs ns ∧ ns.length ≤ n := by
  have hsh : WShape.hasAll [] args [.list .int] = true := (pre_splitW hpre).1
  have hc : l.pre.holds [] { args := args } = true := (pre_splitW hpre).2
  obtain ⟨d, r, rfl, h1, h2⟩ := hasAllW_cons hsh
  obtain rfl := hasAllW_nil h2
  obtain ⟨xs, rfl, h3⟩ := hasW_list h1
  obtain ⟨ns, rfl⟩ := items_int h3
  have hlen : ns.length ≤ n := by
    unfold OpenLaw.pre at hc
    have h4 : (WTm.not (.lt (.lit (.int (n : Int))) (.len (.arg 0)))).holds [] { args := [.list (ns.map .int)] } = true := by
      have h4 := (holds_andW hc).1
      rw [hn] at h4
      exact h4
    have h5 := condW_of h4 (w_not (w_lt w_lit (w_len_list (w_arg rfl))))
    rw [List.length_map] at h5
    refine Nat.le_of_not_lt fun q => ?_
    have q' : (n : Int) < ((ns.length : Nat) : Int) := by omega
    first
      | (rw [decide_eq_true q'] at h5; exact absurd h5 (by decide))
      | (simp at h5; omega)
  cases hwl with
  | cons w1 w2 =>
    cases w2
    cases w1 with
    | list ho hall => exact ⟨_, _, ns, rfl, rfl, ho, ints_of_wellAll ns _ hall, hlen⟩

theorem post_true (l : OpenLaw) (args : List WData) : l.row.toRowW.claim.post args (.bool true) args = true :=
  postW_of (r := l.row.toRowW) (X := (true == true))
    (show WShape.has [] (.bool true) .bool = true by first | rfl | decide | simp [WShape.has, WShape.arms, WShape.armsAll])
    (show (WTm.eq .res (.lit (.bool true))).value [] { args := args, res := some (.bool true), after := args } = some (.bool (true == true)) from w_eq_bool (w_res rfl) w_lit) rfl

/-! ### the attachment: holds_open's last premise (the goal 'hc' behind k_head) from a wpAny of the law's body -/

/-- the same from a codeAny of the CALL (for a layer whose function contracts speak of calls) -/
theorem attach_call {l : OpenLaw} {n : Nat} {q : Program} {loose : List Str} {XP : (Str → Option Value) → Heap → Prop} {YP : World → Heap → Prop} {d : DefRec}
    (hn : l.most = some n) (hdf : d.params.defaults = [])
    (call : ∀ (w : World) (s₀ s₁ : Shared) (mg mb : Str → Option Value) (fa : Addr) (o : Obj) (pm cd doc : Value) (a : Addr) (vs : List Value) (ns : List Int),
      Ground q loose [] XP w s₀ mg mb s₁.heap → YP w s₁.heap →
      s₁.heap.get? fa = some o → o.data = .func (docDef d.name d.params d.body d.scope pm cd doc) → s₁.heap.CodeRec cd d.name → mg d.name = some (.ref fa) →
      s₁.heap.get? a = some { cls := .type "list", data := .seq vs.toArray } → IntsAre vs ns → ns.length ≤ n → s₁.gens = #[] →
      codeAny (model l.prog w) callerA (.call (.ref fa) ⟨[.ref a], []⟩) (fun r s' => r = .ok (.ret (.bool true)) ∧ OldK s₁.heap s'.heap ∧ s'.os = s₁.os ∧ AllBare s'.gens) s₁) :
    WalkO q loose XP YP l.row.toRowW d [] (fun f vs => PySem.call f vs) := by
  intro w s₀ s₁ mg mb G Y fa o pm cd doc dV kV ho hd hcd hD hmg hg args vals as hpre hlay hrd hwl hlo
  obtain rfl : dV = .none := Dflts.none hD hdf
  obtain rfl : kV = .none := Dflts.noKw hD
  obtain ⟨a, vs, ns, rfl, rfl, hobj, hints, hlen⟩ := script_of hn hpre hwl
  refine enter_call (codeAny_mono (call w s₀ s₁ mg mb fa o pm cd doc a vs ns G Y ho (fd_plain hd) hcd hmg hobj hints hlen hg) fun r s' hq => ?_)
  obtain ⟨rfl, h2, h3, h4⟩ := hq
  exact ⟨.inl ⟨.bool true, .bool true, [], rfl, fun _ => rfl, .bool true, post_true l _, fun _ => ⟨List.Pairwise.nil, fun _ hm => (nomatch hm)⟩⟩, h2, h3, h4⟩


/-! ### rules over ANY heap (no ledger) from facts about the written part K: the library's own take a ledger (News) for what they write -/
section
variable {prog : Program} {w : World} {A : Around} {E : Value → Shared → Prop} {s : Shared} {K : Frag}





/-! the whole heap as the ledger: makes every rule that writes through a ledger a rule over any heap -/
def noObjs (h : Heap) : Heap := { h with objs := #[] }
def ledger (h : Heap) (L d : Addr) : List (Addr × Obj) := (List.range h.objs.size).filterMap fun a => if a = L ∨ a = d then none else (h.get? a).map fun o => (a, o)

end
end Att

namespace L2
open PySem PySem.Spec PyProof.Rows

theorem vals_ints : ∀ {vs : List Value} {ns : List Int}, IntsAre vs ns → Vals (ns.map V.int) vs
  | _, _, .nil => .nil
  | _, _, .cons n t h => .cons ⟨t, rfl⟩ (vals_ints h)

/-- nothing is tracked but the script, known to the object (or it is an object of the module) -/
def Only (H : Hp) : Prop := ∀ b, H b = none ∨ ∃ o xs, H b = some (.frz o (.lst xs))

/-- THE HEAD: the law's promise, at the heap behind the top. F, the promise of the law's def, may use that base is part of the heap (so K.In base, base.Ns mainGlobals mg stand in Mod) -/
theorem law_call {P : Program} {w : World} {K : PySem.W.Frag} {mg mb : Str → Option Value} {CX : CXT} {k : Nat} {fa a : Addr} {fd : FuncData} {x : Str} {sp : Sp} {s₁ : Shared} {vs : List Value} {ns : List Int}
    (KX : K.In s₁.heap) (hns : s₁.heap.Ns mainGlobals mg) (hb : s₁.heap.Ns builtinsNs mb) (hbb : ∀ x : Str, x ≠ "__name__" → mb x = bootBuiltins x) (hlim : s₁.heap.NoLimit) (hg : s₁.gens = #[])
    (ha : s₁.heap.get? a = some { cls := .type "list", data := .seq vs.toArray }) (hi : IntsAre vs ns) (hl : ns.length ≤ sizeLine) (hr : Room k callerA)
    (F : ∀ base : Heap, K.In base → base.Ns mainGlobals mg → FnOk P w K mg base CX k fa fd [x] sp) (hbind : ∀ (s : Shared) (u : Value), BindsTo s fd ⟨[u], []⟩ [(x, u)])
    (hsp : ∀ H : Hp, Only H → SqL K H a (ns.map V.int) → sp [.ref a] H (fun v _ => v = .bl true) fun _ _ _ => False)
    (hCX : ∀ H e s', CX [] H s₁ (fun _ _ _ => False) e s' → False) :
    codeAny (model P w) callerA (.call (.ref fa) ⟨[.ref a], []⟩) (fun r s' => r = .ok (.ret (.bool true)) ∧ OldK s₁.heap s'.heap ∧ s'.os = s₁.os ∧ AllBare s'.gens) s₁ := by
  have rv := vals_ints hi
  have lenV := hi.length
  -- from an abstract heap in which nothing but the script may be tracked
  have core : ∀ H : Hp, Only H → SqL K H a (ns.map V.int) → HOk P w H s₁.heap → (∀ b, H b ≠ none → b = a) → (H a ≠ none → K.lookup a = none) →
      codeAny (model P w) callerA (.call (.ref fa) ⟨[.ref a], []⟩) (fun r s' => r = .ok (.ret (.bool true)) ∧ OldK s₁.heap s'.heap ∧ s'.os = s₁.os ∧ AllBare s'.gens) s₁ := by
    intro H hO hS hok hA hK
    have base_of : ∀ {b : Addr} {o : Obj}, s₁.heap.get? b = some o → H b = none → (hidT s₁.heap H).get? b = some o := fun e n => hidT_get e n
    have noA : ∀ {b : Addr} {o : Obj} {es : Array DictEntry} {ep : Nat}, s₁.heap.get? b = some o → o.data = .dict es ep → H b = none := fun {b o es ep} e d => by
      cases q : H b with
      | none => rfl
      | some u =>
        have e' : b = a := hA b (by rw [q]; simp)
        subst e'
        rw [ha] at e; cases e
        have d' : Data.seq vs.toArray _ = Data.dict es ep := d
        cases d'
    have nsK : ∀ {b : Addr} {m : Str → Option Value}, s₁.heap.Ns b m → (hidT s₁.heap H).Ns b m := fun {b m} ⟨o, es, ep, e, d, r⟩ => ⟨o, es, ep, base_of e (noA e d), d, r⟩
    have hKb : K.In (hidT s₁.heap H) := fun b o e => base_of (KX b o e) (by
      cases q : H b with
      | none => rfl
      | some u =>
        have e' : b = a := hA b (by rw [q]; simp)
        subst e'
        rw [hK (by rw [q]; simp)] at e; cases e)
    have hM : Mod K mg (hidT s₁.heap H) := ⟨hKb, nsK hns, ⟨mb, nsK hb, hbb⟩, let ⟨mc, h1, h2⟩ := hlim; ⟨mc, nsK h1, h2⟩⟩
    have e0 : Env0 P w K mg (hidT s₁.heap H) callerA [] s₁ H := ⟨rfl, hM, fun b o e => of_hidT e, Nat.le_of_eq (hidT_size _ _), trivial, fun b hb => absurd (show b ∈ ([] : List Addr) from hb) (by simp), hok, .of_eq hg⟩
    refine codeAny_mono ((F _ hKb (nsK hns)).run callerA [] s₁ H ⟨[.ref a], []⟩ [.ref a] [.ref a] _ _ hr e0 (hbind s₁ (.ref a)) (.cons rfl .nil) (hsp H hO hS)) fun r s' h => ?_
    cases r with
    | error e => exact (hCX H e s' h).elim
    | ok fl =>
      cases fl with
      | next => exact False.elim h
      | brk => exact False.elim h
      | cont => exact False.elim h
      | ret u =>
        obtain ⟨v, H', os, bare, un, hok', r', q⟩ := h
        have q' : v = .bl true := q
        subst q'
        obtain rfl : u = Value.bool true := r'
        refine ⟨rfl, OldK.of_keep fun b o e => ?_, os, bare⟩
        cases q : H b with
        | none => exact un.keep b o e q (by intro z; exact absurd (show b ∈ ([] : List Addr) from z) (by simp)) (by simp)
        | some u =>
          rcases hO b with z | ⟨ob, xs, z⟩
          · rw [q] at z; cases z
          · have z2 := un.frzs b ob _ z
            obtain ⟨e1, _⟩ := hok b _ z
            obtain ⟨e2, _⟩ := hok' b _ z2
            rw [e] at e1; cases e1
            exact e2
  cases hk : K.lookup a with
  | some o =>
    -- the script is one of the module's own objects
    have e := KX a o hk
    rw [ha] at e
    cases e
    refine core (fun _ => none) (fun _ => .inl rfl) (.inr ⟨_, vs.toArray, _, hk, rfl, rfl, rfl, by rw [List.size_toArray, lenV]; exact hl, by simpa using rv⟩) (fun b u z => by have z' : (none : Option HO) = some u := z; cases z') (fun b z => absurd rfl z) fun z => absurd rfl z
  | none =>
    refine core (fun b => if b = a then some (.frz { cls := .type "list", data := .seq vs.toArray } (.lst (ns.map V.int))) else none) (fun b => ?_) (.inl (.inr ⟨{ cls := .type "list", data := .seq vs.toArray }, if_pos rfl⟩)) (fun b u z => ?_) (fun b z => ?_) fun _ => hk
    · by_cases hb : b = a
      · exact .inr ⟨_, _, if_pos hb⟩
      · exact .inl (if_neg hb)
    · by_cases hb : b = a
      · have z' := (if_pos hb).symm.trans z
        cases z'
        subst hb
        exact ⟨ha, by rw [List.length_map]; exact hl, vs, _, rv, ha⟩
      · have z' := (if_neg hb).symm.trans z
        cases z'
    · by_cases hb : b = a
      · exact hb
      · exact absurd (if_neg hb) z
end L2

namespace L2
open PySem PySem.Spec PyProof.Rows

abbrev KOf {K : PySem.W.Frag} {h : Heap} (_ : K.In h) : PySem.W.Frag := K

/-- the goal that k_head leaves (case hc), from the law's promise. F gives the function object fd (K's own) once, then the promise over every base -/
theorem walk_of {l : PySem.W.OpenLaw} {n k : Nat} {q : Program} {loose : List Str} {XP : (Str → Option Value) → Heap → Prop} {YP : World → Heap → Prop} {d : DefRec} {K : Params → PySem.W.Frag} {CX : World → CXT} {sp : World → Sp} {x : Str}
    (hn : l.most = some n) (hn2 : n ≤ sizeLine) (hdf : d.params.defaults = []) (hr : Room k callerA)
    (hY : ∀ (w : World) (h : Heap), YP w h → (K w.params).In h)
    (F : ∀ (w : World) (mg : Str → Option Value) (fa : Addr) (h : Heap), (K w.params).In h → h.Ns mainGlobals mg → mg d.name = some (.ref fa) →
      ∃ fd : FuncData, (∀ (s : Shared) (u : Value), BindsTo s fd ⟨[u], []⟩ [(x, u)]) ∧
        ∀ base : Heap, (K w.params).In base → base.Ns mainGlobals mg → FnOk l.prog w (K w.params) mg base (CX w) k fa fd [x] (sp w))
    (hsp : ∀ (w : World) (H : Hp) (a : Addr) (ns : List Int), ns.length ≤ n → Only H → SqL (K w.params) H a (ns.map V.int) → sp w [.ref a] H (fun v _ => v = .bl true) fun _ _ _ => False)
    (hCX : ∀ (w : World) (H : Hp) (s : Shared) (e : Value) (s' : Shared), CX w [] H s (fun _ _ _ => False) e s' → False) :
    PySem.W.WalkO q loose XP YP l.row.toRowW d [] (fun f vs => PySem.call f vs) := by
  refine Att.attach_call hn hdf fun w s₀ s₁ mg mb fa o pm cd doc a vs ns G Y ho hd hcd hmg hobj hints hlen hg => ?_
  have KX := hY w _ Y
  obtain ⟨fd, hb, hF⟩ := F w mg fa _ KX G.T.g hmg
  exact law_call KX G.T.g G.T.b G.T.builtins G.T.nolimit hg hobj hints (Nat.le_trans hlen hn2) hr hF hb (fun H hO hS => hsp w H a ns hlen hO hS) fun H e s' => hCX w H s₁ e s'
end L2

/- THE LAST THEOREM (shape; LID, My.* are yours):
   My.Adr: a structure of the addresses that your layer names (classes, functions); My.Txt K t: a structure (Prop) of the equations over K;
   My.txt_mk : {K} {implicit addresses ..} (e1 : nsIn K mainGlobals "law" = some (some (.ref f))) (e2 : K.lookup f = some ⟨oc, od, .func (fnOf "law" "law" params body scope dV kV doc pm an cdv ct), sl⟩) (e3 : codeIn K cdv "law" = true) .. : ∃ t, My.Txt K t

set_option maxRecDepth 100000 in
set_option maxHeartbeats 0 in
theorem PySem.Challenge.cw_LID_holds : PySem.Challenge.rw_LID.Holds := by
  w_on; o_law; k_head; (case hw => w_witness2)
  k_fill
  refine L2.walk_of (l := PySem.Challenge.rw_LID) (n := 63) (k := 40) (x := "script") (CX := fun w => ..) (sp := fun _ => My.sp_law) rfl (by decide) rfl ⟨rfl, by decide, by decide⟩ (fun w h Y => PySem.W.kIn_of Y) ?F ?S ?C
  case F =>
    intro w mg fa h KX G hmg
    have T : ∃ t, My.Txt (L2.KOf KX) t := by
      dsimp only [L2.KOf]                          -- K must stand as «<heap const> w.params» for k_is
      refine' My.txt_mk ?e1 ?e2 ?e3 ..
      (case e1 => PySem.W.k_is)                    -- in the order: a name -> its address -> its object -> its parts
      (case e2 => PySem.W.k_is)
      ..
    obtain ⟨t, T⟩ := T
    have e0 := hmg.symm.trans (PySem.W.mg_of KX G T.law)
    cases e0                                       -- fa is the law's own address
    exact ⟨_, fun s u => .of_eq rfl, fun base kb nb => My.law_fn T kb nb⟩     -- if «.of_eq rfl» comes too early: refine' ⟨_, ?b, fun base kb nb => My.law_fn T kb nb⟩; exact fun s u => .of_eq rfl
  case S => exact fun w H a ns hl hO hS => ..
  case C => exact ..
(the tactic k_is has no namespace: write k_is) -/

/-! SHORT WORDS over the layer: a def of the text, its body, what a loop and a test want. -/
namespace L2
open PySem PySem.Spec PyProof.Rows

/-! ### the text by places -/
/-- the j-th statement of a class's body -/
def inClass (s : Stmt) (j : Nat) : Stmt := match s with
  | .ClassDef _ _ _ body _ _ _ _ _ _ _ => body.getD j (.Pass ⟨0, 0, 0, 0⟩)
  | _ => .Pass ⟨0, 0, 0, 0⟩
def defArgs (s : Stmt) : Arguments := match s with
  | .FunctionDef _ a _ _ _ _ _ _ _ _ => a
  | _ => { posonlyargs := [], args := [], vararg := none, kwonlyargs := [], kw_defaults := [], kwarg := none, defaults := [] }
def defBody (s : Stmt) : List Stmt := match s with
  | .FunctionDef _ _ b _ _ _ _ _ _ _ => b
  | _ => []
def defScope (s : Stmt) : Scope := match s with
  | .FunctionDef _ _ _ _ _ _ sc _ _ _ => sc
  | _ => { kind := .function, names := [], isGenerator := false, isCoroutine := false }

/-! ### no exception leaves a def -/
abbrev CX0 : CXT := fun _ _ _ _ _ _ => False
abbrev E0 : XK := fun _ _ _ => False
theorem pass0 {X : Cx} : Passes CX0 X E0 := fun _ _ _ _ _ _ _ h => h.elim

/-! ### a def (or method) of the text as it stands behind the top -/
structure Fun (K : PySem.W.Frag) (x qual : Str) (st : Stmt) (f : Addr) (fd : FuncData) : Prop where
  ex : ∃ (oc : Value) (od : Option Addr) (kV doc pm : Value) (an : Option Addr) (cdv ct : Value) (osl : Array (Option Value)),
    fd = PySem.W.fnOf x qual (defArgs st) (defBody st) (defScope st) .none kV doc pm an cdv ct ∧ K.lookup f = some ⟨oc, od, .func fd, osl⟩ ∧ PySem.W.codeIn K cdv qual = true
  kp : PySem.W.keepIn K (.ref f) = true
section
variable {P : Program} {w : World} {K : PySem.W.Frag} {mg : Str → Option Value} {base : Heap}
/-- THE RULE for a def: its body as a term of rules, and the reading of that term -/
theorem Fun.ok {x qual : Str} {st : Stmt} {f : Addr} {fd : FuncData} {N ps : List Str} {k : Nat} {sp : Sp} (F : Fun K x qual st f fd) (S : FnScope N ps (defScope st)) (len : ∀ vs H Q E, sp vs H Q E → vs.length = ps.length)
    (hbody : ∀ (cdv : Value) (A : Around) (outer : List Env) (s : Shared) (H : Hp) (vs : List V) (Q : VK) (E : XK), Room k (A.deeper (envOfC qual (defScope st) s.heap.objs.size f cdv)) → sp vs H Q E →
      ∃ t, PSs (cxOf CX0 P w K mg base N qual (defScope st) f cdv A outer s H E).nox (defBody st) t ∧ t { nx := fun _ H' => Q .non H', rt := Q } (start N vs) H) : FnOk P w K mg base CX0 (k + 1) f fd ps sp := by
  obtain ⟨oc, od, kV, doc, pm, an, cdv, ct, osl, rfl, lk, hcd⟩ := F.ex
  refine fn_of lk hcd S len fun A outer s H vs Q E hr hsp => ?_
  obtain ⟨t, h, q⟩ := hbody cdv A outer s H vs Q E hr hsp
  exact ⟨t, h.nox, q⟩
/-- how its arguments bind (no defaults): h is «fun _ _ _ _ _ _ us hl => match us, hl with | [_, _], _ => rfl», one _ a parameter -/
theorem Fun.binds {x qual : Str} {st : Stmt} {f : Addr} {fd : FuncData} {ps : List Str} (F : Fun K x qual st f fd)
    (h : ∀ (kV doc pm : Value) (an : Option Addr) (cdv ct : Value) (us : List Value), us.length = ps.length → bindArgs (PySem.W.fnOf x qual (defArgs st) (defBody st) (defScope st) .none kV doc pm an cdv ct) ⟨us, []⟩ = pure (ps.zip us)) : Binds K fd ps [] := by
  obtain ⟨oc, od, kV, doc, pm, an, cdv, ct, osl, rfl, lk, hcd⟩ := F.ex
  exact .all (h kV doc pm an cdv ct)
theorem fun_mk {x qual : Str} {st : Stmt} {f : Addr} {oc : Value} {od an : Option Addr} {osl : Array (Option Value)} {kV doc pm cdv ct : Value} (l : K.lookup f = some ⟨oc, od, .func (PySem.W.fnOf x qual (defArgs st) (defBody st) (defScope st) .none kV doc pm an cdv ct), osl⟩)
    (c : PySem.W.codeIn K cdv qual = true) (k : PySem.W.keepIn K (.ref f) = true) : Fun K x qual st f (PySem.W.fnOf x qual (defArgs st) (defBody st) (defScope st) .none kV doc pm an cdv ct) := ⟨⟨oc, od, kV, doc, pm, an, cdv, ct, osl, rfl, l, c⟩, k⟩
end
theorem small1000 {n : Nat} (h : n ≤ 1000) : n < sizeLine := Nat.lt_of_le_of_lt h (by decide)

/-! ### expressions in short: the name that stands in the i-th slot -/
section
variable {X : Cx}
theorem pv (i : Nat) {x : Str} {pos : Pos} (hN : X.N[i]? = some x := by rfl) (hv : Vis X.env.scope x := by first | exact Or.inl rfl | exact Or.inr (Or.inl rfl) | exact Or.inr (Or.inr rfl)) (hd : (x == ("__debug__" : Str)) = false := by decide)
    (hcd : (x == ("__classdict__" : Str)) = false := by decide) : PE X (.Name x pos) (tVar i) := pe_var hN hv hd hcd
end

/-! ### tests -/
theorem iteF {A B : Prop} (h : B) : if false = true then A else B := by
  rw [if_neg Bool.false_ne_true]
  exact h
theorem iteT {A B : Prop} (h : A) : if true = true then A else B := by
  rw [if_pos rfl]
  exact h
theorem ite2 {c A B : Prop} [Decidable c] (h1 : c → A) (h2 : ¬ c → B) : if c then A else B := by
  by_cases h : c
  · rw [if_pos h]
    exact h1 h
  · rw [if_neg h]
    exact h2 h

/-! ### heaps -/
/-- all that was tracked is as it was -/
def Same (H H' : Hp) : Prop := ∀ b o, H b = some o → H' b = some o
theorem Same.seq {K : PySem.W.Frag} {H H' : Hp} {a : Addr} {xs : List V} (e : Same H H') (h : SqL K H a xs) : SqL K H' a xs := by
  rcases h with (h | ⟨o, h⟩) | h
  · exact .inl (.inl (e _ _ h))
  · exact .inl (.inr ⟨o, e _ _ h⟩)
  · exact .inr h

end L2

namespace L2
open PySem PySem.Spec PyProof.Rows
section
variable {X : Cx}
end
end L2
namespace L2
open PySem PySem.Spec PyProof.Rows
/-! ### a dict's pairs: keys that differ -/
section
variable {κ : Type} [DecidableEq κ]
end
end L2


/-! MORE OF THE HAND LAYER, our own: the signs of a text walked, a comprehension's block, slices of texts, all, isinstance. -/
namespace L2
open PySem PySem.Spec PyProof.Rows

/-! ### a text, sign by sign -/
def Its (z : Str) : It := ⟨fun i _ => i < z.cps.size, fun i H x H' => H' = H ∧ ∃ c, z.cps[i]? = some c ∧ x = .str ⟨#[c]⟩, fun i _ => z.cps.size ≤ i⟩
section
variable {X : Cx} {tg : Expr}
def iStr (tl : TE) : TI := fun σ H R => tl σ H fun x H1 => ∃ z, x = .str z ∧ R (Its z) H1
end

/-! ### a comprehension: its block has a frame of its own, what it reads of the def lies in cells -/
/-- the context of the block -/
abbrev blk (X : Cx) (N' : List Str) (sc : Scope) (cl : List (Str × Addr)) (s₀ : Shared) (H₀ : Hp) (C : Addr) (ex : List Addr) : Cx :=
  { X with N := N', s₀ := s₀, H₀ := H₀, env := compEnvC sc cl C X.env, outer := X.stack, ex := ex, fn := fun _ => false, xe := fun _ _ => False }
/-- own: the block's targets; caps: the names of the def that it reads; cl: their cells -/
structure BlkSc (X : Cx) (caps : List Str) (sc : Scope) (cl : List (Str × Addr)) : Prop where
  kind : sc.kind = .function
  nocell : ∀ y ∈ sc.names, y.2 ≠ .cell
  names : ∀ y ∈ sc.names, y.2 = .local → sc.names.lookup y.1 = some .local
  clos : closureFor sc X.env = pure cl
  has : (sc.names.all fun y => y.2 != .free || (cl.lookup y.1).isSome) = true
  sub : ∀ y ∈ cl, X.env.cells.lookup y.1 = some y.2
  caps : ∀ x ∈ caps, (X.env.kindOf x = some .cell ∨ X.env.kindOf x = some .free) ∧ (cl.lookup x).isSome = true ∧ ((relabel sc X.env).names.lookup x = some .cell ∨ (relabel sc X.env).names.lookup x = some .free)
theorem relabel_inv {env : Env} : ∀ {names : List (Str × NameKind)} {x : Str} {k : NameKind}, (names.map fun (n, k) => if (k == NameKind.free && env.scope.kind == .function && env.kindOf n == some .cell) then (n, NameKind.cell) else (n, k)).lookup x = some k →
    ∃ k', (x, k') ∈ names ∧ (k' = k ∨ k' = .free)
  | [], _, _, h => by simp at h
  | (n, k0) :: r, x, k, h => by
    have h' : List.lookup x ((if (k0 == NameKind.free && env.scope.kind == .function && env.kindOf n == some .cell) = true then (n, NameKind.cell) else (n, k0)) :: (r.map fun (n, k) => if (k == NameKind.free && env.scope.kind == .function && env.kindOf n == some .cell) then (n, NameKind.cell) else (n, k))) = some k := h
    by_cases hx : x = n
    · subst hx
      refine ⟨k0, List.mem_cons_self, ?_⟩
      by_cases hc : (k0 == NameKind.free && env.scope.kind == .function && env.kindOf x == some .cell) = true
      · have hf : (k0 == NameKind.free) = true := by
          rw [Bool.and_eq_true, Bool.and_eq_true] at hc
          exact hc.1.1
        exact .inr (by cases k0 <;> first | rfl | exact absurd hf (by decide))
      · rw [if_neg hc, List.lookup_cons_self] at h'
        exact .inl (Option.some.inj h')
    · have hb : (x == n) = false := beq_eq_false_iff_ne.mpr hx
      have h2 : (r.map fun (n, k) => if (k == NameKind.free && env.scope.kind == .function && env.kindOf n == some .cell) then (n, NameKind.cell) else (n, k)).lookup x = some k := by
        split at h' <;> simpa [List.lookup_cons, hb] using h'
      obtain ⟨k', hm, hk⟩ := relabel_inv h2
      exact ⟨k', List.mem_cons_of_mem _ hm, hk⟩
theorem BlkSc.hasc {X : Cx} {caps : List Str} {sc : Scope} {cl : List (Str × Addr)} (S : BlkSc X caps sc cl) {x : Str} (h : (relabel sc X.env).names.lookup x = some .cell ∨ (relabel sc X.env).names.lookup x = some .free) : ∃ c, cl.lookup x = some c := by
  have key : (x, NameKind.free) ∈ sc.names := by
    rcases h with h | h
    · obtain ⟨k', hm, hk⟩ := relabel_inv h
      rcases hk with rfl | rfl
      · exact absurd rfl (S.nocell _ hm)
      · exact hm
    · obtain ⟨k', hm, hk⟩ := relabel_inv h
      rcases hk with rfl | rfl <;> exact hm
  have q := List.all_eq_true.mp S.has _ key
  have q2 : (cl.lookup x).isSome = true := by simpa using q
  exact Option.isSome_iff_exists.mp q2
theorem BlkSc.subc {X : Cx} {caps : List Str} {sc : Scope} {cl : List (Str × Addr)} (S : BlkSc X caps sc cl) {x : Str} {c : Addr} (h : cl.lookup x = some c) : X.env.cells.lookup x = some c := S.sub _ (PySem.mem_of_lookup h)

/-- the names' values at a turn's begin: own targets unknown, then what is captured -/
def blkSt (n : Nat) (κ : List Nat) (σ : St) : St := List.replicate n none ++ κ.map fun k => (σ[k]?).join
/-- the turns of a comprehension: W is the invariant by the turn, a measure, the items so far -/
def CompRun (n : Nat) (κ : List Nat) (g : TG) (tc : TT) (te : TE) (σ : St) (J : It) (H1 : Hp) (Q : VK) : Prop :=
  ∃ W : Nat → Nat → List V → Hp → Prop, (∃ m, W 0 m [] H1) ∧ ∀ i m ys H2, W i m ys H2 →
    (J.stop i H2 ∧ ∀ D, H2 D = none → Q (.ref D) (upd H2 D (.lst ys))) ∨
    (J.go i H2 ∧ ys.length < sizeLine ∧ ∀ x H3, J.yld i H2 x H3 → g x (blkSt n κ σ) H3 fun σ4 H4 => σ4.drop n = (blkSt n κ σ).drop n ∧
      tc σ4 H4 fun b H5 => if b = true then te σ4 H5 fun v H6 => ∃ m', m' < m ∧ W (i + 1) m' (ys ++ [v]) H6 else ∃ m', m' < m ∧ W (i + 1) m' ys H5)
def tComp (n : Nat) (κ : List Nat) (wi : TI) (g : TG) (tc : TT) (te : TE) : TE := fun σ H Q => wi σ H fun J H1 => CompRun n κ g tc te σ J H1 Q
def tYes : TT := fun _ H Q => Q true H
theorem tYes_go {σ : St} {H : Hp} {A B : Hp → Prop} (h : A H) : tYes σ H fun b H5 => if b = true then A H5 else B H5 := by
  show (if true = true then A H else B H)
  rw [if_pos rfl]
  exact h

section
variable {X : Cx} {pins : List (Addr × Obj)} {σ : St} {H : Hp} {s : Shared}
/-- into the block -/
theorem Inv.block {caps : List Str} {own : List Str} {κ : List Nat} {sc : Scope} {cl : List (Str × Addr)} {fp : List Addr} {h₁ : Heap} {tk : Nat} (S : BlkSc X caps sc cl) (hκ : κ.map (fun k => X.N[k]?) = caps.map some) (I : Inv X pins σ H s)
    (f2 : ∀ b ∈ fp, FpOk X pins H b) (hfp : ∀ b ∈ fp, b < s.heap.objs.size)
    {hp : Heap} {ol : Obj} (ehp : hp = s.heap.push ol) (hns : h₁.Ns hp.objs.size fun _ => none) (old : ∀ b o, hp.get? b = some o → h₁.get? b = some o) :
    Inv (blk X (own ++ caps) sc cl { s with heap := hp } H hp.objs.size (s.heap.objs.size :: fp)) pins (blkSt own.length κ σ) H { s with heap := h₁, toks := tk } := by
  have hsz : hp.objs.size = s.heap.objs.size + 1 := by rw [ehp, Heap.size_push]
  have up : ∀ b o, s.heap.get? b = some o → hp.get? b = some o := fun b o e => by rw [ehp]; exact Heap.get?_push_of_some _ e
  have I3 : Inv X pins σ H { s with heap := hp } := I.kept (t' := s.toks) up
  have stk : ∀ b, b ≠ X.env.locals → b ∉ X.fs → b ∉ frs X.stack := fun b h1 h2 z => (List.mem_cons.mp (I.stkSub b z)).elim h1 h2
  have dD : s.heap.objs.size ≠ X.env.locals := Nat.ne_of_gt I.lt
  have cellLt : ∀ x c, X.env.cells.lookup x = some c → c < s.heap.objs.size := fun x c e => by
    obtain ⟨v, q⟩ := I.cell x c e
    exact q.lt
  have ltC : ∀ b, b < s.heap.objs.size → b ≠ hp.objs.size := fun b hb => by rw [hsz]; exact Nat.ne_of_lt (Nat.lt_succ_of_lt hb)
  have cellK : ∀ c v, s.heap.IsCell c v → h₁.IsCell c v := fun c v ⟨o, ho, hd⟩ => ⟨o, old _ _ (up _ _ ho), hd⟩
  refine ⟨⟨I.ok.mod, ?_, I.ok.glob, I.ok.blt, Nat.le_refl _, fun x y c h1 h2 => I.ok.inj x y c (S.subc h1) (S.subc h2), fun x h => S.hasc h, fun _ _ z => absurd z Bool.false_ne_true, I.ok.hd, I.ok.frames, .inl rfl, fun b hb => ?_, fun b o e => ⟨up _ _ (I.bs b o e).1, (I.bs b o e).2⟩,
      Nat.le_trans (Nat.le_trans I.ok.bsz I.sz) (by show s.heap.objs.size ≤ hp.objs.size; rw [hsz]; exact Nat.le_succ _), fun b o e hb => ?_, fun b hb => ?_, I3.stack, I.stkFree⟩,
    rfl, I.bare, Un.kept old, ⟨_, hns, fun i x v e1 e2 e3 => ?_⟩, fun x c h => ?_, I.hok.fresh (by rw [hsz]; exact Nat.le_succ _), fun x c h => I.freeC x c (S.subc h), fun p hp' => ?_, I.hok.kept fun b u e => old _ _ (up _ _ e), ?_⟩
  · show (relabel sc X.env).kind = .function
    exact S.kind
  · show b ≠ hp.objs.size ∧ ∀ x c, cl.lookup x = some c → c ≠ b
    rcases List.mem_cons.mp hb with rfl | hb
    · exact ⟨by rw [hsz]; exact Nat.ne_of_lt (Nat.lt_succ_self _), fun x c h => Nat.ne_of_lt (cellLt x c (S.subc h))⟩
    · exact ⟨ltC b (hfp b hb), fun x c h => (f2 b hb).2.2.2.2.1 x c (S.subc h)⟩
  · have hlt : b < X.s₀.heap.objs.size := Nat.lt_of_lt_of_le (Heap.lt_size e) I.ok.bsz
    rcases List.mem_cons.mp hb with rfl | hb
    · exact absurd (Nat.lt_of_lt_of_le hlt I.sz) (Nat.lt_irrefl _)
    · rcases (f2 b hb).2.2.2.1 with z | z
      · exact I.ok.noex b o e z
      · exact absurd (Nat.lt_of_lt_of_le hlt z) (Nat.lt_irrefl _)
  · rcases List.mem_cons.mp hb with rfl | hb
    · exact stk _ dD (I.nofs (Nat.le_refl _))
    · exact stk _ (f2 b hb).2.1 (f2 b hb).2.2.1
  · have e1' : (own ++ caps)[i]? = some x := e1
    have hlen : (List.replicate own.length (none : Option V)).length = own.length := List.length_replicate
    have hge : own.length ≤ i := by
      refine Nat.le_of_not_lt fun hlt => ?_
      unfold blkSt at e2
      rw [List.getElem?_append_left (by rw [hlen]; exact hlt), List.getElem?_replicate, if_pos hlt] at e2
      cases e2
    unfold blkSt at e2
    rw [List.getElem?_append_right (by rw [hlen]; exact hge), hlen, List.getElem?_map] at e2
    rw [List.getElem?_append_right hge] at e1'
    cases ek : κ[i - own.length]? with
    | none => rw [ek] at e2; cases e2
    | some k =>
      rw [ek] at e2
      have e2' : (σ[k]?).join = some v := Option.some.inj e2
      have e4 : σ[k]? = some (some v) := by
        cases eσ : σ[k]? with
        | none => rw [eσ] at e2'; cases e2'
        | some w => rw [eσ] at e2'; exact congrArg some e2'
      have e5 : X.N[k]? = some x := by
        have z := congrArg (fun l => l[i - own.length]?) hκ
        simp only [List.getElem?_map, ek, e1', Option.map_some] at z
        exact Option.some.inj z
      obtain ⟨c1, c2, c3⟩ := S.caps x (List.mem_of_getElem? e1')
      obtain ⟨m, hn, hl⟩ := I.loc
      obtain ⟨u, r, l⟩ := hl k x v e5 e4 (c1.elim (fun z => .inr (.inl z)) fun z => .inr (.inr z))
      refine ⟨u, r, ?_⟩
      rcases l with ⟨hk, _⟩ | ⟨_, c, hc, hcell⟩
      · rcases c1 with z | z <;> (rw [hk] at z; cases z)
      · obtain ⟨c', hc'⟩ := Option.isSome_iff_exists.mp c2
        have ecc : c' = c := Option.some.inj ((S.subc hc').symm.trans hc)
        subst ecc
        exact .inr ⟨c3, c', hc', cellK _ _ hcell⟩
  · obtain ⟨v, q⟩ := I.cell x c (S.subc h)
    exact ⟨v, cellK c v q⟩
  · obtain ⟨e, n, ne, nf, d⟩ := I.pin p hp'
    exact ⟨old _ _ (up _ _ e), n, ltC _ (Heap.lt_size e), stk _ ne nf, d⟩
  · show (blkSt own.length κ σ).length = (own ++ caps).length
    have z := congrArg List.length hκ
    rw [List.length_map, List.length_map] at z
    unfold blkSt
    rw [List.length_append, List.length_append, List.length_replicate, List.length_map, z]
/-- out of the block again: the new list is tracked -/
theorem Inv.unblock {own caps : List Str} {sc : Scope} {cl : List (Str × Addr)} {fp : List Addr} {H' : Hp} {s4 : Shared} {σ' : St} {pins' : List (Addr × Obj)} {hp h' : Heap} {ol : Obj} {ys : List V} {its : List Value} {cap : Nat} (I : Inv X pins σ H s)
    (f2 : ∀ b ∈ fp, FpOk X pins H b) (ehp : hp = s.heap.push ol)
    (J : Inv (blk X (own ++ caps) sc cl { s with heap := hp } H hp.objs.size (s.heap.objs.size :: fp)) pins' σ' H' s4)
    (hD : s4.heap.get? s.heap.objs.size = some { cls := .type "list", data := .seq its.toArray cap }) (nD : H' s.heap.objs.size = none) (r : Vals ys its) (hz : ys.length ≤ sizeLine) (sb : Heap.SameBut hp.objs.size s4.heap h') :
    Inv X pins σ (upd H' s.heap.objs.size (.lst ys)) { s4 with heap := h' } := by
  have hsz : hp.objs.size = s.heap.objs.size + 1 := by rw [ehp, Heap.size_push]
  have up : ∀ b o, s.heap.get? b = some o → hp.get? b = some o := fun b o e => by rw [ehp]; exact Heap.get?_push_of_some _ e
  have nDs : H s.heap.objs.size = none := I.hok.fresh (Nat.le_refl _)
  have neD : ∀ b o, s.heap.get? b = some o → b ≠ s.heap.objs.size := fun b o e => Nat.ne_of_lt (Heap.lt_size e)
  have neC : ∀ b o, s.heap.get? b = some o → b ≠ hp.objs.size := fun b o e => by rw [hsz]; exact Nat.ne_of_lt (Nat.lt_succ_of_lt (Heap.lt_size e))
  have nex : ∀ b o, s.heap.get? b = some o → b ∉ fp → b ∉ s.heap.objs.size :: fp := fun b o e hb z => (List.mem_cons.mp z).elim (neD b o e) hb
  have u := J.base
  have hDC : s.heap.objs.size ≠ hp.objs.size := by rw [hsz]; exact Nat.ne_of_lt (Nat.lt_succ_self _)
  have eD : h'.get? s.heap.objs.size = some { cls := .type "list", data := .seq its.toArray cap } := (sb.2 _ hDC).trans hD
  refine I.call' (ch := fp) J.os ⟨fun b o e n hb hx => ?_, fun b o e n hb hx => ?_, fun b o e n hx => ?_, fun b o e hx => ?_, fun b xs e => ?_, fun b o x e => ?_, fun b ps e => ?_⟩ (fun b o e => ?_) J.bare fun b hb => ?_
  · exact (sb.2 b (neC b o e)).trans (u.keep b o (up _ _ e) n hb (nex b o e hx))
  · obtain ⟨sl, q⟩ := u.slot b o (up _ _ e) n hb (nex b o e hx)
    exact ⟨sl, (sb.2 b (neC b o e)).trans q⟩
  · rw [upd_ne (neD b o e)]
    exact u.free b o (up _ _ e) n (nex b o e hx)
  · obtain ⟨o', q⟩ := u.there b o (up _ _ e) (nex b o e hx)
    exact ⟨o', (sb.2 b (neC b o e)).trans q⟩
  · rw [upd_ne (ne_of_none e nDs)]
    exact u.tups b xs e
  · rw [upd_ne (ne_of_none e nDs)]
    exact u.frzs b o x e
  · rw [upd_ne (ne_of_none e nDs)]
    exact u.tbls b ps e
  · by_cases hb : b = s.heap.objs.size
    · subst hb
      rw [upd_same] at e
      cases e
      exact ⟨hz, its, cap, r, eD⟩
    · rw [upd_ne hb] at e
      have nC : ∀ c w, H' c = some w → c ≠ hp.objs.size := fun c w q => ne_of_none q J.free
      refine (J.hok b o e).stay (fun c v hc q => (sb.2 c ?_).trans q) (fun c q => by rw [upd_ne (ne_of_none q nD)]; exact q) fun c xs q => by rw [upd_ne (ne_of_none q nD)]; exact q
      rcases hc with rfl | hc
      · exact nC c o e
      · exact nC c _ hc
  · obtain ⟨_, f1, _, f3, f4, f5⟩ := f2 b hb
    exact ⟨f3, f1, f4, f5⟩
end

section
variable {X : Cx}
/-- THE RULE of a comprehension with one clause -/
theorem pe_compG {tg elt iter : Expr} {ifs : List Expr} {own caps : List Str} {κ : List Nat} {sc : Scope} {cl : List (Str × Addr)} {pos : Pos} {wi : TI} {g : TG} {tc : TT} {te : TE} (hcalm : X.calm = true) (S : BlkSc X caps sc cl) (hκ : κ.map (fun k => X.N[k]?) = caps.map some)
    (hi : PI X tg iter wi) (hg : ∀ s₀ H₀ C ex, PG (blk X (own ++ caps) sc cl s₀ H₀ C ex) tg g)
    (hc : ∀ s₀ H₀ C ex (pins : List (Addr × Obj)) (s : Shared) (σ : St) (H : Hp) (Q : Bool → Hp → Prop), Inv (blk X (own ++ caps) sc cl s₀ H₀ C ex) pins σ H s → tc σ H Q →
      wpAny (model X.prog X.w) X.A (forIn ifs true fun c r => if r = true then do let ok ← isTrue c (compEnvC sc cl C X.env) (eval c (compEnvC sc cl C X.env)); pure (ForInStep.yield ok) else pure (ForInStep.yield r)) (TP (blk X (own ++ caps) sc cl s₀ H₀ C ex) pins σ Q) (fun _ _ => False) s)
    (he : ∀ s₀ H₀ C ex, PE (blk X (own ++ caps) sc cl s₀ H₀ C ex) elt te)
    (hs : ∀ x, foldedSetIterable iter X.env x = pure x := by intro _; rfl) : PE X (.ListComp elt [⟨tg, iter, ifs, 0⟩] sc pos) (tComp own.length κ wi g tc te) := by
  intro pins s σ H Q I h
  rw [eval_ListComp]
  refine wpAny_comprehension_free (use := none) rfl hs S.clos S.kind S.names (thn (hi pins s σ H _ I h) fun v s1 h1 => thn h1 fun itv s2 h2 => ?_)
  obtain ⟨it, fp, tn, J, H2, e, I2, T, st2, f2, W, ⟨m0, w0⟩, turn⟩ := h2
  subst e
  have hfp : ∀ b ∈ fp, b < s2.heap.objs.size := fun b hb => by
    obtain ⟨o, e, _⟩ := T.obj _ _ st2 b hb
    exact Heap.lt_size e
  refine wpAny_newObj_type (wpAny_newFunctionEnv S.nocell (fun y hy => nomatch hy) (fun h₁ hns hsb => ?_) S.kind)
  generalize ehp : s2.heap.push { cls := .type "list", dict := none, data := .seq ([] : List Value).toArray } = hp at hns hsb ⊢
  have hsz : hp.objs.size = s2.heap.objs.size + 1 := by rw [← ehp, Heap.size_push]
  have hDC : s2.heap.objs.size ≠ hp.objs.size := by rw [hsz]; exact Nat.ne_of_lt (Nat.lt_succ_self _)
  have old : ∀ b o, hp.get? b = some o → h₁.get? b = some o := fun b o e => (hsb.2 b (Nat.ne_of_lt (Heap.lt_size e))).trans (Heap.get?_push_of_some _ e)
  have eD : h₁.get? s2.heap.objs.size = some { cls := .type "list", data := .seq ([] : List Value).toArray } := old _ _ (by rw [← ehp]; exact Heap.get?_push_size _ rfl)
  have I0 := Inv.block (own := own) (h₁ := h₁) (tk := s2.toks + ([] : List (Str × Value)).length) S hκ I2 f2 hfp ehp.symm hns old
  have stkD : s2.heap.objs.size ∉ frs X.stack := fun z => (List.mem_cons.mp (I2.stkSub _ z)).elim (Nat.ne_of_gt I2.lt) (I2.nofs (Nat.le_refl _))
  have cellD : ∀ x c, cl.lookup x = some c → c ≠ s2.heap.objs.size := fun x c q => by
    obtain ⟨v, z⟩ := I2.cell x c (S.subc q)
    exact Nat.ne_of_lt z.lt
  have pinD : ∀ p ∈ X.pn ++ pins, p.1 ≠ s2.heap.objs.size := fun p hp => Nat.ne_of_lt (Heap.lt_size (I2.pin p hp).1)
  have stkF : ∀ b ∈ fp, b ∉ frs X.stack := fun b hb z => (List.mem_cons.mp (I2.stkSub _ z)).elim (f2 b hb).2.1 (f2 b hb).2.2.1
  -- the loop
  have loop : codeAny (model X.prog X.w) X.A (.compLoop (.ListComp elt [⟨tg, iter, ifs, 0⟩] sc pos) 0 (.ref it) (.ref s2.heap.objs.size) (compEnvC sc cl hp.objs.size X.env))
      (compPost (model X.prog X.w) X.A X.xe none (EP X pins σ Q) (.ref s2.heap.objs.size) hp.objs.size) { s2 with heap := h₁, toks := s2.toks + ([] : List (Str × Value)).length } := by
    refine codeAny_loop rfl (fun n s' => ∃ (i : Nat) (ys : List V) (its : List Value) (cap : Nat) (H' : Hp), Inv (blk X (own ++ caps) sc cl { s2 with heap := hp } H2 hp.objs.size (s2.heap.objs.size :: fp)) pins (blkSt own.length κ σ) H' s' ∧ tn i s'.heap ∧ (∀ b ∈ fp, H' b = none) ∧
      s'.heap.get? s2.heap.objs.size = some { cls := .type "list", data := .seq its.toArray cap } ∧ H' s2.heap.objs.size = none ∧ Vals ys its ∧ ys.length ≤ sizeLine ∧ W i n ys H') (fun n s3 hI => ?_) m0
      ⟨0, [], [], 0, H2, I0, T.keep _ _ _ st2 fun b hb o e => old _ _ (by rw [← ehp]; exact Heap.get?_push_of_some _ e), fun b hb => (f2 b hb).1, eD, I2.hok.fresh (Nat.le_refl _), .nil, Nat.zero_le _, w0⟩
    obtain ⟨i, ys, its, cap, H3, I3, st3, fr3, eD3, nD3, rv, hz, w3⟩ := hI
    show wpAny _ X.A ((compTurn (.ListComp elt [⟨tg, iter, ifs, 0⟩] sc pos) 0 (.ref it) (.ref s2.heap.objs.size) (compEnvC sc cl hp.objs.size X.env)).onRaise fun x => do noteFrame x (compEnvC sc cl hp.objs.size X.env); theTreesLotGoes x) _ _ s3
    refine wpAny_noted ?_
    rw [compTurn_list]
    -- the list that grows is pinned
    have I3' : Inv (blk X (own ++ caps) sc cl { s2 with heap := hp } H2 hp.objs.size (s2.heap.objs.size :: fp)) (pins ++ [(s2.heap.objs.size, { cls := .type "list", data := .seq its.toArray cap })]) (blkSt own.length κ σ) H3 s3 := by
      refine I3.pins_of fun p hp => (List.mem_append.mp hp).elim (fun z => I3.pin p (List.mem_append_right _ z)) fun z => ?_
      obtain rfl := List.mem_singleton.mp z
      exact ⟨eD3, nD3, hDC, stkD, fun v q => by cases q⟩
    have fpk : ∀ {H' : Hp}, (∀ b ∈ fp, H' b = none) → ∀ b ∈ fp, FpOk (blk X (own ++ caps) sc cl { s2 with heap := hp } H2 hp.objs.size (s2.heap.objs.size :: fp)) (pins ++ [(s2.heap.objs.size, { cls := .type "list", data := .seq its.toArray cap })]) H' b := fun {H'} hn b hb =>
      ⟨hn b hb, by show b ≠ hp.objs.size; rw [hsz]; exact Nat.ne_of_lt (Nat.lt_succ_of_lt (hfp b hb)), stkF b hb, .inl (List.mem_cons_of_mem _ hb), fun x c q => (f2 b hb).2.2.2.2.1 x c (S.subc q), fun p hp => by
        rw [← List.append_assoc] at hp
        rcases List.mem_append.mp hp with z | z
        · exact (f2 b hb).2.2.2.2.2 p z
        · obtain rfl := List.mem_singleton.mp z
          exact Nat.ne_of_gt (hfp b hb)⟩
    rcases turn i n ys H3 w3 with ⟨stop, fin⟩ | ⟨go, hlt, step⟩
    · refine wpAny_bind (wpAny_standAt (wpAny_bind (thn (T.done (blk X (own ++ caps) sc cl { s2 with heap := hp } H2 hp.objs.size (s2.heap.objs.size :: fp)) rfl rfl rfl hcalm i _ s3 _ H3 _ I3' (fpk fr3) st3 stop) fun r s4 ⟨hr, I4⟩ => ?_)))
      subst hr
      refine wpAny_pure ?_
      obtain ⟨m, hm, _⟩ := I4.loc
      refine ⟨m, hm, fun h' sb => ?_⟩
      have eD4 := (I4.pin (s2.heap.objs.size, { cls := .type "list", data := .seq its.toArray cap }) (List.mem_append_right _ (List.mem_append_right _ (List.mem_singleton.mpr rfl)))).1
      exact ⟨.ref s2.heap.objs.size, _, Inv.unblock I2 f2 ehp.symm I4 eD4 nD3 rv hz sb, rfl, fin _ nD3⟩
    · refine wpAny_bind (wpAny_standAt (wpAny_bind (thn (T.item (blk X (own ++ caps) sc cl { s2 with heap := hp } H2 hp.objs.size (s2.heap.objs.size :: fp)) rfl rfl rfl hcalm i _ s3 _ H3 _ I3' (fpk fr3) st3 go) fun r s4 ⟨u, hr, h4⟩ => ?_)))
      subst hr
      refine wpAny_bind (thn h4 fun _ s5 ⟨x, H5, I5, r5, y5, st5, fr5⟩ => ?_)
      have I5' := I5.pinned (fpk fr5) (T.obj _ _ st5)
      refine wpAny_bind (wpAny_mono (hg _ _ _ _ _ s5 _ H5 x u _ I5' r5 (step x H5 y5)) (fun _ s6 ⟨σ6, H6, I6, eσ, q6⟩ => ?_) fun _ _ z => z.elim)
      refine wpAny_bind (wpAny_mono (hc _ _ _ _ _ s6 σ6 H6 _ I6 q6) (fun ok s7 ⟨H7, I7, q7⟩ => ?_) fun _ _ z => z.elim)
      -- back to the invariant: what was pinned is as it was
      have back : ∀ {s8 : Shared} {H8 : Hp}, Inv (blk X (own ++ caps) sc cl { s2 with heap := hp } H2 hp.objs.size (s2.heap.objs.size :: fp)) ((pins ++ [(s2.heap.objs.size, { cls := .type "list", data := .seq its.toArray cap })]) ++ pinsAt fp s5.heap) σ6 H8 s8 →
          Inv (blk X (own ++ caps) sc cl { s2 with heap := hp } H2 hp.objs.size (s2.heap.objs.size :: fp)) pins (blkSt own.length κ σ) H8 s8 ∧ tn (i + 1) s8.heap ∧ (∀ b ∈ fp, H8 b = none) ∧ s8.heap.get? s2.heap.objs.size = some { cls := .type "list", data := .seq its.toArray cap } ∧ H8 s2.heap.objs.size = none := by
        intro s8 H8 I8
        have pk : ∀ b ∈ fp, ∀ o, s5.heap.get? b = some o → s8.heap.get? b = some o ∧ H8 b = none := fun b hb o e => by
          have z := I8.pin (b, o) (List.mem_append_right _ (List.mem_append_right _ (mem_pinsAt hb e)))
          exact ⟨z.1, z.2.1⟩
        have zD := I8.pin (s2.heap.objs.size, { cls := .type "list", data := .seq its.toArray cap }) (List.mem_append_right _ (List.mem_append_left _ (List.mem_append_right _ (List.mem_singleton.mpr rfl))))
        refine ⟨(I8.pins_of fun p hp => I8.pin p (List.mem_append_right _ (List.mem_append_left _ (List.mem_append_left _ hp)))).weak ?_ fun j v e => ?_, T.keep _ _ _ st5 fun b hb o e => (pk b hb o e).1, fun b hb => ?_, zD.1, zD.2.1⟩
        · exact I3.len.trans I8.len.symm
        · have hge : own.length ≤ j := by
            refine Nat.le_of_not_lt fun q => ?_
            unfold blkSt at e
            rw [List.getElem?_append_left (by rw [List.length_replicate]; exact q), List.getElem?_replicate, if_pos q] at e
            cases e
          have z := congrArg (fun l => l[j - own.length]?) eσ
          simp only [List.getElem?_drop] at z
          rw [show own.length + (j - own.length) = j by omega] at z
          rw [z]
          exact e
        · obtain ⟨o, e, _⟩ := T.obj _ _ st5 b hb
          exact (pk b hb o e).2
      cases ok with
      | false =>
        obtain ⟨m', hm, w7⟩ := (if_neg Bool.false_ne_true) ▸ q7
        obtain ⟨I8, st8, fr8, e8, n8⟩ := back I7
        exact wpAny_pure ⟨rfl, m', hm, i + 1, ys, its, cap, H7, I8, st8, fr8, e8, n8, rv, hz, w7⟩
      | true =>
        have q7' := (if_pos rfl) ▸ q7
        refine wpAny_bind (wpAny_bind (wpAny_mono (he _ _ _ _ _ s7 σ6 H7 _ I7 q7') (fun y s8 ⟨v8, H8, I8, r8, m', hm, w8⟩ => ?_) fun _ _ z => z.elim))
        obtain ⟨I9, st9, fr9, e9, n9⟩ := back I8
        have hl := rv.length
        refine wpAny_bind (wpAny_list_append_plain (items := its.toArray) ⟨cap, e9⟩ (fun h' hl' sb => ?_) (by rw [List.size_toArray, ← hl]; exact hz))
        obtain ⟨cap', e'⟩ := hl'
        refine wpAny_pure (wpAny_pure ⟨rfl, m', hm, i + 1, ys ++ [v8], its ++ [y], cap', H8, ?_, ?_, fr9, ?_, n9, Vals.append rv (.cons r8 .nil), ?_, w8⟩)
        · exact I9.turned (t' := s8.toks) (fun b o hb e => (sb.2 b hb).trans e) n9 hDC (.inl List.mem_cons_self) cellD pinD
        · exact T.keep _ _ _ st9 fun b hb o e => (sb.2 b (Nat.ne_of_lt (hfp b hb))).trans e
        · rw [e']
          congr 3
          simp
        · rw [List.length_append]
          exact hlt
  exact codeAny_compStart_list loop (T.self _ 0 _ _ _ (T.keep _ _ _ st2 fun b hb o e => old _ _ (by rw [← ehp]; exact Heap.get?_push_of_some _ e)) loop)
theorem pe_comp {tg elt iter : Expr} {own caps : List Str} {κ : List Nat} {sc : Scope} {cl : List (Str × Addr)} {pos : Pos} {wi : TI} {g : TG} {te : TE} (hcalm : X.calm = true) (S : BlkSc X caps sc cl) (hκ : κ.map (fun k => X.N[k]?) = caps.map some)
    (hi : PI X tg iter wi) (hg : ∀ s₀ H₀ C ex, PG (blk X (own ++ caps) sc cl s₀ H₀ C ex) tg g) (he : ∀ s₀ H₀ C ex, PE (blk X (own ++ caps) sc cl s₀ H₀ C ex) elt te)
    (hs : ∀ x, foldedSetIterable iter X.env x = pure x := by intro _; rfl) : PE X (.ListComp elt [⟨tg, iter, [], 0⟩] sc pos) (tComp own.length κ wi g tYes te) :=
  pe_compG hcalm S hκ hi hg (fun s₀ H₀ C ex pins s σ H Q I h => wpAny_tests_nil ⟨H, I, h⟩) he hs
end
end L2

namespace L2
open PySem PySem.Spec PyProof.Rows
section
variable {X : Cx}
/-! ### z[lo:hi] of a text -/
def rSlS : V → Option Int → Option Int → Hp → VK → Prop := fun x lo hi H Q => ∃ z, x = .str z ∧ z.length ≤ sizeLine ∧ Q (.str (Txt.slice z lo hi)) H
/-! ### all(list of bools) -/
/-! ### isinstance(x, bool) of a bool, isinstance(x, int) -/
end
end L2
namespace L2
open PySem PySem.Spec PyProof.Rows
/-- the signs of z as values -/
def signsV (z : Str) : List V := z.cps.toList.map fun c => V.str ⟨#[c]⟩
end L2
namespace L2
open PySem PySem.Spec PyProof.Rows
/-- a comprehension by an invariant of the turns -/
theorem comp_by {J : It} {xs : List V} {n : Nat} {κ : List Nat} {g : TG} {tc : TT} {te : TE} {σ : St} {H : Hp} {Q : VK} (Pv : Nat → List V → Hp → Prop) (h0 : Pv 0 [] H) (hz : xs.length ≤ sizeLine) (hlen : ∀ i ys H2, Pv i ys H2 → ys.length ≤ i)
    (hgo : ∀ i x ys H2, xs[i]? = some x → Pv i ys H2 → J.go i H2) (hyl : ∀ i ys x H2 H', i < xs.length → Pv i ys H2 → J.yld i H2 x H' → H' = H2 ∧ xs[i]? = some x) (hst : ∀ ys H2, Pv xs.length ys H2 → J.stop xs.length H2)
    (hs : ∀ i x ys H2 (N : List V → Hp → Prop), (∀ ys' H', Pv (i + 1) ys' H' → N ys' H') → xs[i]? = some x → Pv i ys H2 → g x (blkSt n κ σ) H2 fun σ4 H4 => σ4.drop n = (blkSt n κ σ).drop n ∧ tc σ4 H4 fun b H5 => if b = true then te σ4 H5 fun v H6 => N (ys ++ [v]) H6 else N ys H5)
    (hQ : ∀ ys H2 D, Pv xs.length ys H2 → H2 D = none → Q (.ref D) (upd H2 D (.lst ys))) :
    CompRun n κ g tc te σ J H Q := by
  refine ⟨fun i m ys H2 => m = xs.length - i ∧ i ≤ xs.length ∧ Pv i ys H2, ⟨xs.length, rfl, Nat.zero_le _, h0⟩, ?_⟩
  rintro i m ys H2 ⟨rfl, hi, p⟩
  by_cases hlt : i < xs.length
  · have e : xs[i]? = some xs[i] := List.getElem?_eq_getElem hlt
    refine .inr ⟨hgo i _ ys H2 e p, Nat.lt_of_le_of_lt (hlen i ys H2 p) (Nat.lt_of_lt_of_le hlt hz), fun x H3 y => ?_⟩
    obtain ⟨rfl, ex⟩ := hyl i ys x H2 H3 hlt p y
    exact hs i x ys _ (fun ys' H' => ∃ m', m' < xs.length - i ∧ m' = xs.length - (i + 1) ∧ i + 1 ≤ xs.length ∧ Pv (i + 1) ys' H') (fun ys' H' p' => ⟨xs.length - (i + 1), by omega, rfl, hlt, p'⟩) ex p
  · obtain rfl : i = xs.length := by omega
    exact .inl ⟨hst ys H2 p, fun D hD => hQ ys H2 D p hD⟩
/-- a range's ints as values -/
def rangeV (lo : Int) (n : Nat) : List V := (List.range n).map fun i => V.int (lo + (i : Nat))
theorem rangeV_len (lo : Int) (n : Nat) : (rangeV lo n).length = n := by simp [rangeV]
theorem rangeV_get {lo : Int} {n i : Nat} {x : V} : (rangeV lo n)[i]? = some x ↔ i < n ∧ x = .int (lo + i) := by
  unfold rangeV
  rw [List.getElem?_map]
  by_cases h : i < n
  · rw [List.getElem?_range h]
    simp [h, eq_comm]
  · rw [List.getElem?_eq_none (by simp; omega)]
    simp [h]
theorem itr_go {lo : Int} {n : Nat} {H : Hp} {i : Nat} {x : V} (h : (rangeV lo n)[i]? = some x) : (Itr lo n).go i H := (rangeV_get.mp h).1
theorem itr_yld' {lo : Int} {n : Nat} {H H' : Hp} {i : Nat} {x : V} (hi : i < n) (h : (Itr lo n).yld i H x H') : H' = H ∧ (rangeV lo n)[i]? = some x := ⟨h.1, rangeV_get.mpr ⟨hi, h.2⟩⟩
section
variable {X : Cx}
end
end L2

namespace L2
open PySem PySem.Spec PyProof.Rows
/-! ### data: texts, numbers, tuples and lists of these, by the abstract heap -/
mutual
inductive Dat (K : PySem.W.Frag) (H : Hp) : V → PyData → Prop
  | non : Dat K H .non .none
  | bl (b : Bool) : Dat K H (.bl b) (.bool b)
  | int (i : Int) : Dat K H (.int i) (.int i)
  | str (x : Str) : Dat K H (.str x) (.str x)
  | tup {a : Addr} {xs : List V} {ds : List PyData} : SqT K H a xs → Dats K H xs ds → Dat K H (.ref a) (.tuple ds)
  | lst {a : Addr} {xs : List V} {ds : List PyData} : SqL K H a xs → Dats K H xs ds → Dat K H (.ref a) (.list ds)
inductive Dats (K : PySem.W.Frag) (H : Hp) : List V → List PyData → Prop
  | nil : Dats K H [] []
  | cons {x : V} {d : PyData} {xs : List V} {ds : List PyData} : Dat K H x d → Dats K H xs ds → Dats K H (x :: xs) (d :: ds)
end
theorem Same.tup {K : PySem.W.Frag} {H H' : Hp} {a : Addr} {xs : List V} (e : Same H H') (h : SqT K H a xs) : SqT K H' a xs := by
  rcases h with (h | ⟨o, h⟩) | h
  · exact .inl (.inl (e _ _ h))
  · exact .inl (.inr ⟨o, e _ _ h⟩)
  · exact .inr h
mutual
theorem Dat.same {K : PySem.W.Frag} {H H' : Hp} (e : Same H H') : ∀ {x : V} {d : PyData}, Dat K H x d → Dat K H' x d
  | _, _, .non => .non
  | _, _, .bl b => .bl b
  | _, _, .int i => .int i
  | _, _, .str x => .str x
  | _, _, .tup h r => .tup (e.tup h) (Dats.same e r)
  | _, _, .lst h r => .lst (e.seq h) (Dats.same e r)
theorem Dats.same {K : PySem.W.Frag} {H H' : Hp} (e : Same H H') : ∀ {xs : List V} {ds : List PyData}, Dats K H xs ds → Dats K H' xs ds
  | _, _, .nil => .nil
  | _, _, .cons h r => .cons (Dat.same e h) (Dats.same e r)
end
section
variable {X : Cx} {pins : List (Addr × Obj)} {σ : St} {H : Hp} {s : Shared}
mutual
theorem Dat.reads (I : Inv X pins σ H s) : ∀ {x : V} {d : PyData} {v : Value}, Dat X.K H x d → RelV x v → ∃ as, Reads s.heap v d as
  | _, _, _, .non, r => by cases r; exact ⟨_, .none⟩
  | _, _, _, .bl b, r => by cases r; exact ⟨_, .bool b⟩
  | _, _, _, .int i, r => by obtain ⟨t, rfl⟩ := r; exact ⟨_, .int i t⟩
  | _, _, _, .str x, r => by obtain ⟨t, rfl⟩ := r; exact ⟨_, .str x t⟩
  | _, _, _, .tup hq ds, r => by
    cases r
    obtain ⟨its, rv, p, _⟩ := I.tuple hq
    obtain ⟨as, q⟩ := Dats.reads I ds rv
    obtain ⟨o, e, c, n, dt⟩ := p
    exact ⟨as, .tuple e c dt (by simpa using q)⟩
  | _, _, _, .lst hq ds, r => by
    cases r
    obtain ⟨its, rv, p, _⟩ := I.list hq
    obtain ⟨as, q⟩ := Dats.reads I ds rv
    obtain ⟨o, n, e, c, _, dt⟩ := p
    exact ⟨_, .list e c dt (by simpa using q)⟩
theorem Dats.reads (I : Inv X pins σ H s) : ∀ {xs : List V} {ds : List PyData} {vs : List Value}, Dats X.K H xs ds → Vals xs vs → ∃ as, ReadsAll s.heap vs ds as
  | _, _, _, .nil, r => by cases r; exact ⟨_, .nil⟩
  | _, _, _, .cons h t, r => by
    cases r with
    | cons r1 r2 =>
      obtain ⟨as, q⟩ := Dat.reads I h r1
      obtain ⟨bs, q2⟩ := Dats.reads I t r2
      exact ⟨_, .cons q q2⟩
end
end
section
variable {X : Cx}
def rEqD (K : PySem.W.Frag) (neg : Bool) : R2 := fun x y H Q => ∃ dx dy, Dat K H x dx ∧ Dat K H y dy ∧ SeqAt.shaped dx = true ∧ SeqAt.shaped dy = true ∧ Q (.bl (if neg then !PyData.eqv dx dy else PyData.eqv dx dy)) H
theorem op_eqD (hu : X.A.units + 64 < cLine) : OpR X (compareOp .Eq) (rEqD X.K false) := by
  intro pins s σ H x y v u Q I rx ry h
  obtain ⟨dx, dy, hx, hy, sx, sy, q⟩ := h
  obtain ⟨as, ra⟩ := Dat.reads I hx rx
  obtain ⟨bs, rb⟩ := Dat.reads I hy ry
  exact eq_dataH ra rb sx sy hu ⟨.bl _, H, I, rfl, q⟩
theorem op_neD (hu : X.A.units + 64 < cLine) : OpR X (compareOp .NotEq) (rEqD X.K true) := by
  intro pins s σ H x y v u Q I rx ry h
  obtain ⟨dx, dy, hx, hy, sx, sy, q⟩ := h
  obtain ⟨as, ra⟩ := Dat.reads I hx rx
  obtain ⟨bs, rb⟩ := Dat.reads I hy ry
  exact ne_dataH ra rb sx sy hu ⟨.bl _, H, I, rfl, q⟩
end
end L2

namespace L2
open PySem PySem.Spec PyProof.Rows
/-! ### x in a list of data -/
section
variable {X : Cx}
open Classical in
/-- the answer at an item, by the data that lies there -/
noncomputable def eqAtD (h : Heap) (d : PyData) (v : Value) : Bool := if q : ∃ e, ∃ bs, Reads h v e bs then PyData.eqv q.choose d else false
def rInD (K : PySem.W.Frag) (neg : Bool) : R2 := fun x y H Q => ∃ p xs ds d, y = .ref p ∧ SqL K H p xs ∧ Dats K H xs ds ∧ Dat K H x d ∧ PyData.canLayAll0 ds = true ∧ d.canLay0 = true ∧ d.depth ≤ 60 ∧
  Q (.bl (if neg then !(ds.any fun e => PyData.eqv e d) else ds.any fun e => PyData.eqv e d)) H
/-! ### z * n of a text -/
end
end L2

/-! a dict walked by its keys, whatever they are (tuples too): the entries as they stand -/
namespace L2
open PySem PySem.Spec PyProof.Rows
/-- the dict's own entries -/
def RawD (h : Heap) (d : Addr) (es : Array DictEntry) (ep : Nat) : Prop := ∃ o, h.get? d = some o ∧ o.ExactDict ∧ o.data = .dict es ep
section
variable {prog : Program} {w : World} {A : Around} {E : Value → Shared → Prop} {s : Shared}
end
end L2

namespace L2
open PySem PySem.Spec PyProof.Rows
section
variable {X : Cx}
end
end L2

/-! kinds as trees: the mathematics, and how a kind lies on the abstract heap -/
namespace Kk
open PySem L2
inductive Kd where
  | num (n : Int)
  | name (q t : Str)
  | pair (a b : Kd)
  deriving DecidableEq
def Kd.words : Kd → Nat
  | .num _ => 1
  | .name _ _ => 1
  | .pair a b => 1 + a.words + b.words
def Kd.leaves : Kd → List Kd
  | .num n => [.num n]
  | .name q t => [.name q t]
  | .pair a b => a.leaves ++ b.leaves
def Kd.leaf : Kd → Bool
  | .pair _ _ => false
  | _ => true
/-- a kind lies at v -/
inductive KdAt (K : PySem.W.Frag) (H : Hp) : V → Kd → Prop
  | num {a : Addr} {n : Int} : SqT K H a [.str "num", .int n] → KdAt K H (.ref a) (.num n)
  | name {a : Addr} {q t : Str} : SqT K H a [.str "name", .str q, .str t] → KdAt K H (.ref a) (.name q t)
  | pair {a : Addr} {x y : V} {k l : Kd} : SqT K H a [.str "pair", x, y] → KdAt K H x k → KdAt K H y l → KdAt K H (.ref a) (.pair k l)
inductive KdsAt (K : PySem.W.Frag) (H : Hp) : List V → List Kd → Prop
  | nil : KdsAt K H [] []
  | cons {x : V} {k : Kd} {xs : List V} {ks : List Kd} : KdAt K H x k → KdsAt K H xs ks → KdsAt K H (x :: xs) (k :: ks)
end Kk

namespace L2
open PySem PySem.Spec PyProof.Rows
/-! ### what a run leaves as it was: the dict of an exception that flies -/
section
variable {α β : Type} {P : Shared → Prop}
def Keeps (P : Shared → Prop) (t : Sem α) : Prop := ∀ (M : Model) (Γ : PySem.Ctx) (Q : α → Pos → Shared → Prop) (E : Value → Pos → Shared → Prop) (p : Pos) (s : Shared), P s → Sem.wp M Γ t Q E p s →
  Sem.wp M Γ t (fun a p' s' => Q a p' s' ∧ P s') (fun e p' s' => E e p' s' ∧ P s') p s
theorem Keeps.ret (a : α) : Keeps P (Pure.pure a : Sem α) := fun _ _ _ _ _ _ h q => ⟨q, h⟩
theorem Keeps.no (x : String) : Keeps P (unsupported x : Sem α) := fun _ _ _ _ _ _ _ q => False.elim q
theorem Keeps.then {m : Sem α} {f : α → Sem β} (hm : Keeps P m) (hf : ∀ a, Keeps P (f a)) : Keeps P (m >>= f) := fun M Γ Q E p s h q => by
  rw [Sem.wp_bind'] at q ⊢
  exact Sem.wp_mono M Γ m (fun a p' s' z => hf a M Γ Q E p' s' z.2 z.1) (fun _ _ _ z => z) p s (hm M Γ _ E p s h q)
theorem Keeps.ld (a : Addr) : Keeps P (load a) := fun _ _ _ _ _ _ h ⟨o, e, q⟩ => ⟨o, e, q, h⟩
theorem Keeps.stk : Keeps P stack := fun _ _ _ _ _ _ h q => ⟨q, h⟩
theorem Keeps.ite {c : Prop} [Decidable c] {a b : Sem α} (ha : Keeps P a) (hb : Keeps P b) : Keeps P (if c then a else b) := by split <;> assumption
theorem Keeps.wpAny {t : Sem α} (k : Keeps P t) {M : Model} {A : Around} {Q : α → Shared → Prop} {E : Value → Shared → Prop} {s : Shared} (hp : P s) (h : wpAny M A t Q E s) : wpAny M A t (fun a s' => Q a s' ∧ P s') (fun e s' => E e s' ∧ P s') s :=
  fun Γ p hΓ => k M Γ _ _ p s hp (h Γ p hΓ)
def DictIs (x : Addr) (d : Option Addr) (s : Shared) : Prop := ∃ ob, s.heap.get? x = some ob ∧ ob.dict = d
variable {x : Addr} {d : Option Addr}
theorem Keeps.up {a : Addr} {f : Obj → Obj} (hf : ∀ o : Obj, o.isFreed = false → (f o).dict = o.dict ∧ (f o).isFreed = false) : Keeps (DictIs x d) (update a f) := fun _ _ _ _ _ s h q => by
  refine ⟨q.1, q.2, ?_⟩
  obtain ⟨ob, e, hd⟩ := h
  have hfr := (Heap.get?_some_iff.mp e).2
  by_cases hx : a = x
  · subst hx
    exact ⟨_, Heap.get?_update_self f e (hf ob hfr).2, (hf ob hfr).1.trans hd⟩
  · exact ⟨ob, (Heap.get?_update_other _ f hx).trans e, hd⟩
theorem Keeps.new {o : Obj} : Keeps (DictIs x d) (alloc o) := fun _ _ _ _ _ s h q => by
  obtain ⟨ob, e, hd⟩ := h
  exact ⟨q, ob, Heap.get?_push_of_some _ e, hd⟩
theorem Keeps.flds {v : Value} : Keeps P (fieldsOf v) := by
  unfold fieldsOf
  split
  · refine Keeps.then (Keeps.ld _) fun o => ?_
    split
    · exact Keeps.ret _
    · exact Keeps.no _
  · exact Keeps.no _
theorem Keeps.fld {v : Value} {i : Nat} : Keeps P (field v i) := by
  unfold field
  refine Keeps.then Keeps.flds fun vs => ?_
  split
  · exact Keeps.ret _
  · exact Keeps.no _
theorem Keeps.setF {v u : Value} {i : Nat} : Keeps (DictIs x d) (setField v i u) := by
  unfold setField
  split
  · unfold updateField
    refine Keeps.then (Keeps.ld _) fun o => ?_
    split
    · refine Keeps.ite (Keeps.up fun o ho => ?_) (Keeps.no _)
      obtain ⟨c, dd, dt, sl⟩ := o
      cases dt <;> exact ⟨rfl, ho⟩
    · exact Keeps.no _
  · exact Keeps.no _
theorem Keeps.flight {e : Value} {f : Option Addr} : Keeps (DictIs x d) (setFlight e f) := by
  unfold setFlight
  exact Keeps.then Keeps.fld fun tb => Keeps.ite Keeps.setF (Keeps.ret _)
theorem Keeps.ready : ∀ l : List Env, Keeps (DictIs x d) (readyFrames l)
  | [] => Keeps.ret _
  | env :: outer => by
    unfold readyFrames
    split
    · refine Keeps.then (Keeps.ld _) fun o => Keeps.ite (Keeps.ret _) (Keeps.then ?_ fun im => Keeps.then ?_ fun bk => Keeps.then (Keeps.up fun o ho => ⟨rfl, by obtain ⟨c, dd, dt, sl⟩ := o; cases dt <;> first | rfl | exact ho⟩) fun _ => Keeps.ready outer)
      · unfold behindIsImport
        exact Keeps.ite (Keeps.ret _) (Keeps.ite (Keeps.ret _) (Keeps.then Keeps.fld fun _ => Keeps.ret _))
      · cases outer with
        | nil =>
          unfold keptBack
          refine Keeps.ite (Keeps.ret _) (Keeps.then ?_ fun _ => Keeps.ret _)
          unfold underTheClaimsCaller
          exact Keeps.then Keeps.stk fun _ => Keeps.ret _
        | cons c r => exact Keeps.ret _
    · exact Keeps.no _
theorem Keeps.frame {env : Env} : Keeps (DictIs x d) (PySem.frameOf env) := by
  unfold PySem.frameOf
  refine Keeps.then (Keeps.then Keeps.stk fun _ => Keeps.ret _) fun l => Keeps.then ?_ fun r => ?_
  · generalize l.dropWhile (fun y => y.frame != env.frame) = l2
    cases l2 with
    | nil => exact Keeps.ret _
    | cons e r => exact Keeps.then (Keeps.ready (e :: r)) fun _ => Keeps.ret _
  · split
    · exact Keeps.ret _
    · exact Keeps.no _
theorem Keeps.entry {a b c e f : Value} {pl : List Value} : Keeps (DictIs x d) (EntryCells.newEntry a b c e f pl) := by
  unfold EntryCells.newEntry newFields newObj
  have st : ∀ (dt : Data) (dd : Option Addr), Keeps (DictIs x d) (newObjAsIs (.type "traceback") dt dd) := fun dt dd => by
    unfold newObjAsIs
    exact Keeps.then Keeps.new fun a => Keeps.ret _
  exact Keeps.ite (Keeps.then (Keeps.no _) fun _ => st _ _) (st _ _)
theorem Keeps.note {e : Value} {env : Env} : Keeps (DictIs x d) (noteFrame e env) := by
  unfold noteFrame
  split
  · rename_i fr _
    refine Keeps.then Keeps.fld fun hd => ?_
    have go : Keeps (DictIs x d) (do setField e 1 (← EntryCells.newEntry hd (← PySem.frameOf env) .none (rawInt fr) .none (← entryPlaceOf fr (hd != .none)))) :=
      Keeps.then Keeps.frame fun _ => Keeps.then (by
        unfold entryPlaceOf
        refine Keeps.then Keeps.stk fun _ => ?_
        split
        · exact Keeps.ret _
        · exact Keeps.ret _) fun _ => Keeps.then Keeps.entry fun _ => Keeps.setF
    exact Keeps.ite (Keeps.then Keeps.fld fun _ => Keeps.ite (Keeps.ret _) (Keeps.then Keeps.setF fun _ => go)) go
  · exact Keeps.no _
theorem Keeps.leave {e : Value} {env : Env} : Keeps (DictIs x d) (leaving env e) := by
  unfold leaving
  exact Keeps.then Keeps.note fun _ => Keeps.flight
end
end L2

namespace L2
open PySem PySem.Spec PyProof.Rows
/-! ### exceptions: how one lies behind a call, how it is made, how it leaves a frame -/
section
variable {P : Program} {w : World}
theorem ObjOk.there {H : Hp} {h : Heap} {a : Addr} {o : HO} (x : ObjOk P w H h a o) : ∃ u, h.get? a = some u := by
  cases o with
  | lst xs => obtain ⟨_, _, _, _, e⟩ := x; exact ⟨_, e⟩
  | tup xs => obtain ⟨_, _, _, ob, e, _⟩ := x; exact ⟨_, e⟩
  | dK kvs => obtain ⟨_, _, _, _, o, _, _, e, _⟩ := x; exact ⟨_, e⟩
  | dT kvs => obtain ⟨_, _, _, _, o, _, _, e, _⟩ := x; exact ⟨_, e⟩
  | set S n => obtain ⟨o, _, _, _, e, _⟩ := x; exact ⟨_, e⟩
  | ins C dx fs => obtain ⟨_, _, _, e, _⟩ := x; exact ⟨_, e⟩
  | own y => exact x
  | xd fs => obtain ⟨_, ⟨_, _, _, e, _⟩, _⟩ := x; exact ⟨_, e⟩
  | rng lo hi => obtain ⟨_, _, _, e⟩ := x; exact ⟨_, e⟩
  | frz ob u => obtain ⟨e, _⟩ := x; exact ⟨_, e⟩
  | tbl ps => exact ⟨_, (show h.get? a = some _ from x)⟩
  | met f y => exact ⟨_, (show h.get? a = some _ from x)⟩
  | ext φ => obtain ⟨_, e, _⟩ := x; exact e
/-- an exception x of class cls flies behind a call: H, s ahead of the call, H', s' behind it. What the callers have, and what is tracked, stands in a heap B that nothing of the flight touches -/
structure Fly (P : Program) (w : World) (outer : List Env) (H : Hp) (s : Shared) (x : Addr) (cls : Value) (H' : Hp) (s' : Shared) : Prop where
  os : s'.os = s.os
  bare : AllBare s'.gens
  un : Un (frs outer) [] H H' s.heap s'.heap
  hok : HOk P w H' s'.heap
  fl : ∃ B a0, Heap.FlyingW B outer x cls a0 s'.heap ∧ (∀ b o, H' b = some o → ∃ u, B.get? b = some u) ∧ ∀ b o, s.heap.get? b = some o → b ∉ frs outer → ∃ u, B.get? b = some u
  free : H' x = none
def CX1 (P : Program) (w : World) : CXT := fun outer H s E e s' => ∃ x cls d H', e = .ref x ∧ Fly P w outer H s x cls H' s' ∧ DictIs x d s' ∧ E cls d H'
end
section
variable {X : Cx} {pins : List (Addr × Obj)} {σ : St} {H H' : Hp} {s s' : Shared} {x : Addr} {cls : Value} {E : Value → Shared → Prop} {Q : Unit → Shared → Prop}
theorem Inv.notSt (I : Inv X pins σ H s) {b : Addr} (h1 : b ≠ X.env.locals) (h2 : b ∉ X.fs) : b ∉ frs X.stack := fun z => (List.mem_cons.mp (I.stkSub b z)).elim h1 h2
theorem Inv.oldL (I : Inv X pins σ H s) {b : Addr} {o : Obj} (e : X.s₀.heap.get? b = some o) : b ≠ X.env.locals := Nat.ne_of_lt (Nat.lt_of_lt_of_le (Heap.lt_size e) I.ok.above)
theorem Fly.leave (I : Inv X pins σ H s) (hst : X.stack = X.env :: X.outer) (hfr : X.env.frame = some X.env.locals) (hex : X.ex = []) (f : Fly X.prog X.w X.stack H s x cls H' s') {d : Option Addr} (hdi : DictIs x d s')
    (hQ : ∀ s'', Fly X.prog X.w X.outer X.H₀ X.s₀ x cls H' s'' → DictIs x d s'' → Q () s'') : wpAny (model X.prog X.w) X.A (leaving X.env (.ref x)) Q E s' := by
  refine wpAny_mono (Keeps.leave.wpAny (E := E) (Q := fun _ s'' => Fly X.prog X.w X.outer X.H₀ X.s₀ x cls H' s'') hdi ?_) (fun _ s'' z => hQ s'' z.1 z.2) fun _ _ z => z.1
  obtain ⟨B, a0, fl, c1, c2⟩ := f.fl
  rw [hst] at fl
  have nx : ∀ b : Addr, b ∉ X.ex := fun b => by rw [hex]; simp
  refine wpAny_leaves_onW (by rw [I.ok.frames, hst]) hfr fl fun h' fl' up => ?_
  have st : ∀ b o, B.get? b = some o → h'.get? b = some o := fl'.1
  have same : ∀ b u v, B.get? b = some u → s'.heap.get? b = some v → u = v := fun b u v h1 h2 => by
    have h3 := fl.1 b u h1
    rw [h2] at h3
    exact (Option.some.inj h3).symm
  have slot : ∀ b o, X.s₀.heap.get? b = some o → X.H₀ b = none → b ∈ X.fs → ∃ sl, h'.get? b = some { o with slots := sl } := fun b o e n hb => by
    obtain ⟨sl, e1⟩ := I.base.slot b o e n hb (nx b)
    obtain ⟨sl2, e2⟩ := f.un.any e1 (I.base.free b o e n (nx b)) (by simp)
    obtain ⟨_, of, ho, hnf⟩ := I.ok.funs.mem hb
    rw [e] at ho
    cases ho
    obtain ⟨sl3, e3⟩ := up b _ e2 hnf
    exact ⟨sl3, e3⟩
  refine ⟨f.os.trans I.os, f.bare, ⟨fun b o e n hb _ => ?_, fun b o e n hb _ => slot b o e n hb, fun b o e n _ => ?_, fun b o e _ => ?_, fun b xs e => f.un.tups b xs (I.base.tups b xs e), fun b o u e => f.un.frzs b o u (I.base.frzs b o u e), fun b ps e => ?_⟩, fun a o e => ?_, ⟨B, a0, fl', c1, fun b o e hb => ?_⟩, f.free⟩
  · have e1 := I.base.keep b o e n hb (nx b)
    have n1 := I.base.free b o e n (nx b)
    have hb' := I.notSt (I.oldL e) hb
    have e2 := f.un.keep b o e1 n1 hb' (by simp)
    obtain ⟨u, hu⟩ := c2 b o e1 hb'
    exact same b u o hu e2 ▸ st b u hu
  · obtain ⟨o', e1⟩ := I.base.there b o e (nx b)
    exact f.un.free b o' e1 (I.base.free b o e n (nx b)) (by simp)
  · by_cases hb : b ∈ X.fs
    · obtain ⟨sl, e1⟩ := slot b o e (I.ok.frf b hb) hb
      exact ⟨_, e1⟩
    · obtain ⟨o', e1⟩ := I.base.there b o e (nx b)
      obtain ⟨u, hu⟩ := c2 b o' e1 (I.notSt (I.oldL e) hb)
      exact ⟨u, st b u hu⟩
  · obtain ⟨m1, e1⟩ := I.base.tbls b ps e
    obtain ⟨m2, e2⟩ := f.un.tbls b _ e1
    exact ⟨m1 ++ m2, by rw [e2, Array.append_assoc]⟩
  · refine (f.hok a o e).stay (fun b u hb q => ?_) (fun _ q => q) fun _ _ q => q
    have t : ∃ o', H' b = some o' := by
      rcases hb with z | z
      · exact ⟨o, by rw [z]; exact e⟩
      · exact ⟨_, z⟩
    obtain ⟨o', e'⟩ := t
    obtain ⟨v, hv⟩ := c1 b o' e'
    exact same b v u hv q ▸ st b v hv
  · obtain ⟨o', e1⟩ := I.base.there b o e (nx b)
    exact c2 b o' e1 (I.notSt (I.oldL e) hb)
/-- an exception that this frame made leaves it for the first time -/
theorem Fly.first {oe : Obj} {vs : Array Value} {a0 : Value} (I : Inv X pins σ H s) (hst : X.stack = X.env :: X.outer) (hfr : X.env.frame = some X.env.locals) (hex : X.ex = []) (hx : s.heap.get? x = some oe) (hcl : oe.cls = cls) (hdt : oe.data = .fields vs)
    (h1 : vs[1]? = some .none) (h0 : vs[0]? = some a0) (hn : X.s₀.heap.get? x = none) (hH : H x = none)
    (hQ : ∀ s'', Fly X.prog X.w X.outer X.H₀ X.s₀ x cls H s'' → DictIs x oe.dict s'' → Q () s'') : wpAny (model X.prog X.w) X.A (leaving X.env (.ref x)) Q E s := by
  have nx : ∀ b : Addr, b ∉ X.ex := fun b => by rw [hex]; simp
  refine wpAny_mono (Keeps.leave.wpAny (E := E) (Q := fun _ s'' => Fly X.prog X.w X.outer X.H₀ X.s₀ x cls H s'') ⟨oe, hx, rfl⟩ ?_) (fun _ s'' z => hQ s'' z.1 z.2) fun _ _ z => z.1
  have hl : s.heap.FunFrames (PySem.W.hideAll s.heap (x :: frs X.stack)) (X.env :: X.outer) :=
    PySem.W.funFrames_hide (base := X.base) (by rw [← hst]; exact I.stack) fun env he a hf => by
      rw [hst]
      exact .tail _ (List.mem_filterMap.mpr ⟨env, he, hf⟩)
  have hen : (PySem.W.hideAll s.heap (x :: frs X.stack)).get? x = none := PySem.W.hideAll_none _ (.head _)
  refine wpAny_leaving_firstW (a0 := a0) (by rw [I.ok.frames, hst]) hl hfr hx (fun b o q => PySem.W.of_hideAll _ q) hen hdt h1 h0 fun h' hL => ?_
  obtain ⟨k1, ⟨_, _, k2⟩, k3, up⟩ := hL
  rw [hcl] at k3
  have st : ∀ b o, s.heap.get? b = some o → b ∉ frs X.stack → b ≠ x → h'.get? b = some o := fun b o e hb hbx => k1 b o (PySem.W.hideAll_get _ e fun z => (List.mem_cons.mp z).elim hbx hb)
  have old : ∀ b o, X.s₀.heap.get? b = some o → b ≠ x := fun b o e z => by rw [z, hn] at e; cases e
  have slot : ∀ b o, X.s₀.heap.get? b = some o → X.H₀ b = none → b ∈ X.fs → ∃ sl, h'.get? b = some { o with slots := sl } := fun b o e n hb => by
    obtain ⟨sl, e1⟩ := I.base.slot b o e n hb (nx b)
    obtain ⟨_, of, ho, hnf⟩ := I.ok.funs.mem hb
    rw [e] at ho
    cases ho
    obtain ⟨sl3, e3⟩ := up b _ e1 hnf
    exact ⟨sl3, e3⟩
  have trk : ∀ b o, H b = some o → b ∉ frs X.stack ∧ b ≠ x := fun b o e => ⟨fun z => (by rw [I.stkFree b z] at e; cases e), fun z => (by rw [z, hH] at e; cases e)⟩
  refine ⟨I.os, I.bare, ⟨fun b o e n hb _ => st b o (I.base.keep b o e n hb (nx b)) (I.notSt (I.oldL e) hb) (old b o e), fun b o e n hb _ => slot b o e n hb, fun b o e n _ => I.base.free b o e n (nx b), fun b o e _ => ?_, I.base.tups, I.base.frzs, I.base.tbls⟩, fun a o e => ?_, ⟨_, _, ⟨k1, hen, k2, k3⟩, fun b o e => ?_, fun b o e hb => ?_⟩, hH⟩
  · by_cases hb : b ∈ X.fs
    · obtain ⟨sl, e1⟩ := slot b o e (I.ok.frf b hb) hb
      exact ⟨_, e1⟩
    · obtain ⟨o', e1⟩ := I.base.there b o e (nx b)
      exact ⟨o', st b o' e1 (I.notSt (I.oldL e) hb) (old b o e)⟩
  · refine (I.hok a o e).stay (fun b u hb q => ?_) (fun _ q => q) fun _ _ q => q
    have hb' : ∃ o', H b = some o' := by
      rcases hb with z | z
      · exact ⟨o, by rw [z]; exact e⟩
      · exact ⟨_, z⟩
    obtain ⟨o', e'⟩ := hb'
    exact st b u q (trk b o' e').1 (trk b o' e').2
  · obtain ⟨u, hu⟩ := (I.hok b o e).there
    exact ⟨u, PySem.W.hideAll_get _ hu fun z => (List.mem_cons.mp z).elim (trk b o e).2 (trk b o e).1⟩
  · obtain ⟨o', e1⟩ := I.base.there b o e (nx b)
    exact ⟨o', PySem.W.hideAll_get _ e1 fun z => (List.mem_cons.mp z).elim (old b o e) (I.notSt (I.oldL e) hb)⟩
/-- just made, it leaves the frame that raised it -/
theorem Fly.made {h1 : Heap} {vs : List Value} (I : Inv X pins σ H s) (hst : X.stack = X.env :: X.outer) (hfr : X.env.frame = some X.env.locals) (hex : X.ex = []) (hx : Heap.MadeExcOf s.heap h1 x cls vs)
    (hQ : ∀ s'', Fly X.prog X.w X.outer X.H₀ X.s₀ x cls H s'' → DictIs x none s'' → Q () s'') : wpAny (model X.prog X.w) X.A (leaving X.env (.ref x)) Q E { s with heap := h1 } := by
  obtain ⟨t, he, _, _⟩ := hx.there
  have I1 : Inv X pins σ H { s with heap := h1 } := I.kept hx.keeps
  refine Fly.first I1 hst hfr hex he rfl rfl rfl rfl ?_ ?_ hQ
  · cases q : X.s₀.heap.get? x with
    | none => rfl
    | some o =>
      obtain ⟨u, hu⟩ := I.base.there x o q (by rw [hex]; simp)
      have := hx.new
      rw [hu] at this
      cases this
  · cases q : H x with
    | none => rfl
    | some o =>
      obtain ⟨u, hu⟩ := (I.hok x o q).there
      have := hx.new
      rw [hu] at this
      cases this
end
section
variable {P : Program} {w : World} {K : PySem.W.Frag} {mg : Str → Option Value} {base : Heap} {N : List Str} {qual : Str} {scope : Scope} {f : Addr} {cd : Value} {A : Around} {outer : List Env} {s : Shared} {H : Hp} {E : XK}
/-- an exception of a callee leaves this def too -/
theorem pass1 : Passes (CX1 P w) (cxOf (CX1 P w) P w K mg base N qual scope f cd A outer s H E) E := fun pins σ H1 s1 e s' I h => by
  obtain ⟨x, cls, d, H', rfl, fl, hd, hE⟩ := h
  exact Fly.leave I rfl rfl rfl fl hd fun s'' g gd => ⟨x, cls, d, H', rfl, g, gd, hE⟩
end
/-! ### raise -/
theorem ownExc_of {K : PySem.W.Frag} {h : Heap} {mg : Str → Option Value} {c : Str} {C : Addr} {bmB : List Value} {newId : String} (kin : K.In h) (hm : mg c = some (.ref C)) (q : PySem.W.excIn K C bmB newId = true) : OwnCls c C bmB newId mg h := by
  refine ⟨hm, ?_⟩
  unfold PySem.W.excIn at q
  split at q
  next ddx cdx slx look =>
    split at q
    next C2 tl z0 z1 z2 z3 nn z5 hmro hsl =>
      simp only [Bool.not_eq_true', Bool.and_eq_true, beq_iff_eq] at q
      obtain ⟨⟨⟨⟨⟨e1, e2⟩, hdel⟩, htl⟩, hok⟩, hni⟩ := q
      obtain ⟨nm, bs, mro, ns, qn, hd, sn, sub, ab, col, del⟩ := cdx
      obtain ⟨sll⟩ := slx
      dsimp only at hmro hdel hok hni hsl
      subst e1 e2 hmro hdel hsl
      exact ⟨tl, ns, nm, qn, bs, hd, sn, sub, ab, col, ddx, z0, z1, z2, z3, z5, _, kin _ _ look, .of_isNs (PySem.W.isNs_of_in kin hok), PySem.W.nsMap_none_of_in kin hok hni, PySem.W.tail_of_in kin htl⟩
    next => cases q
  next => cases q
abbrev bmVE : List Value := [.type "ValueError", .type "Exception", .type "BaseException", .type "object"]
/-- raise C(..), C an own class under ValueError without an __init__ -/
theorem ps_raise {X : Cx} {c : Str} {C : Addr} {e₀ : Expr} {es : List Expr} {np cpos pos : Pos} {ta : TA} {W : St → Hp → Prop} (hc : X.calm = true) (hg : Gl X c) (hm : X.mg c = some (.ref C)) (q : PySem.W.excIn X.K C bmVE "ValueError.__new__" = true)
    (ha : PA X (e₀ :: es) ta) (hW : ∀ (pins : List (Addr × Obj)) (σ : St) (H : Hp) (s : Shared) (e : Addr) (h1 : Heap) (vs : List Value), Inv X pins σ H s → W σ H → Heap.MadeExcOf s.heap h1 e (.ref C) vs → X.xe (.ref e) { s with heap := h1 })
    (hd : (c == ("__debug__" : Str)) = false := by decide) (he : starEach (e₀ :: es) X.env = (false, eval e₀ X.env) :: starEach es X.env := by rfl) (hpl : (backTo cpos (starEach es X.env)).any (·.1) = false := by rfl) :
    PS X (.Raise (some (.Call (.Name c np) (e₀ :: es) [] cpos)) none pos) (fun _ σ H => ta σ H fun vs H1 => vs.length ≤ sizeLine ∧ W σ H1) := by
  intro pins s σ H D I h
  obtain ⟨tl, N, nm, qq, bs, hdct, sn, sub, ab, col, dd, k0, k1, k2, k3, k5, mN, hC, hN, hni, T⟩ := (ownExc_of I.mod.kin hm q).obj
  refine wpAny_Raise_call_subU (C := C) (nm := nm) (q := qq) (N := N) (bs := bs) (bm := tl) (hdct := hdct) (sn := sn) (sub := sub) (ab := ab) (col := col) (dd := dd) (k0 := k0) (k1 := k1) (k2 := k2) (k3 := k3) (k5 := k5)
    PySem.F.excBase_ValueError (by decide +kernel) PySem.F.excBase_ValueError (mN := mN) (T.hasType PySem.F.excBase_ValueError.hasBase) (I.ok.hd hc) ?_ hni (ld_glob I hg hm ⟨rfl, ?_⟩ hd)
  · rw [he]
    show (false || (backTo cpos (starEach es X.env)).any (·.1)) = false
    rw [hpl]
    rfl
  · have h2 := ha cpos pins s σ H _ I h
    rw [he] at h2 ⊢
    refine Calls.evalArgs_plain (wpAny_mono h2 (fun us s2 ⟨vs, H1, I1, rv, hl, hw⟩ => ⟨rfl, ?_, I1.bk _ _ hC, hN.keeps I1.bk, T.keeps I1.bk, fun h' e hx => hW pins σ H1 s2 e h' us I1 hw hx⟩) fun _ _ z => z)
    rw [← rv.length]
    exact hl
section
variable {P : Program} {w : World} {K : PySem.W.Frag} {mg : Str → Option Value} {base : Heap}
theorem ps_raise1 {N : List Str} {qual : Str} {scope : Scope} {f : Addr} {cd : Value} {A : Around} {outer : List Env} {s : Shared} {H : Hp} {E : XK} {c : Str} {C : Addr} {e₀ : Expr} {es : List Expr} {np cpos pos : Pos} {ta : TA}
    (hg : Gl (cxOf (CX1 P w) P w K mg base N qual scope f cd A outer s H E) c) (hm : mg c = some (.ref C)) (q : PySem.W.excIn K C bmVE "ValueError.__new__" = true) (ha : PA (cxOf (CX1 P w) P w K mg base N qual scope f cd A outer s H E) (e₀ :: es) ta)
    (hd : (c == ("__debug__" : Str)) = false := by decide) (he : starEach (e₀ :: es) (envOfC qual scope s.heap.objs.size f cd) = (false, eval e₀ (envOfC qual scope s.heap.objs.size f cd)) :: starEach es (envOfC qual scope s.heap.objs.size f cd) := by rfl)
    (hpl : (backTo cpos (starEach es (envOfC qual scope s.heap.objs.size f cd))).any (·.1) = false := by rfl) :
    PS (cxOf (CX1 P w) P w K mg base N qual scope f cd A outer s H E) (.Raise (some (.Call (.Name c np) (e₀ :: es) [] cpos)) none pos) (fun _ σ H => ta σ H fun vs H1 => vs.length ≤ sizeLine ∧ E (.ref C) none H1) :=
  ps_raise (X := cxOf (CX1 P w) P w K mg base N qual scope f cd A outer s H E) (W := fun _ H1 => E (.ref C) none H1) rfl hg hm q ha (fun pins σ H s e h1 vs I hw hx => Fly.made I rfl rfl rfl hx fun s'' g gd => ⟨e, .ref C, none, H, rfl, g, gd, hw⟩) hd he hpl
/-- THE RULE for a def that may raise -/
theorem Fun.okX {x qual : Str} {st : Stmt} {f : Addr} {fd : FuncData} {N ps : List Str} {k : Nat} {sp : Sp} (F : Fun K x qual st f fd) (S : FnScope N ps (defScope st)) (len : ∀ vs H Q E, sp vs H Q E → vs.length = ps.length)
    (hbody : ∀ (cdv : Value) (A : Around) (outer : List Env) (s : Shared) (H : Hp) (vs : List V) (Q : VK) (E : XK), Room k (A.deeper (envOfC qual (defScope st) s.heap.objs.size f cdv)) → sp vs H Q E →
      ∃ t, PSs (cxOf (CX1 P w) P w K mg base N qual (defScope st) f cdv A outer s H E) (defBody st) t ∧ t { nx := fun _ H' => Q .non H', rt := Q } (start N vs) H) : FnOk P w K mg base (CX1 P w) (k + 1) f fd ps sp := by
  obtain ⟨oc, od, kV, doc, pm, an, cdv, ct, osl, rfl, lk, hcd⟩ := F.ex
  exact fn_of lk hcd S len fun A outer s H vs Q E hr hsp => hbody cdv A outer s H vs Q E hr hsp
end
end L2

namespace L2
open PySem PySem.Spec PyProof.Rows
/-! ### try: what flies is looked at, lands, is handled -/
section
variable {X : Cx} {pins : List (Addr × Obj)} {σ : St} {H H' : Hp} {s s' : Shared} {x : Addr} {cls : Value}
/-- still flying: the frames' slots and the flight's own records may have changed -/
theorem Fly.on {h' : Heap} (f : Fly X.prog X.w X.stack H s x cls H' s') (I : Inv X pins σ H s) {B : Heap} {a0 a1 : Value} (fl : Heap.FlyingW B X.stack x cls a0 s'.heap) (c1 : ∀ b o, H' b = some o → ∃ u, B.get? b = some u)
    (c2 : ∀ b o, s.heap.get? b = some o → b ∉ frs X.stack → ∃ u, B.get? b = some u) (fl' : Heap.FlyingW B X.stack x cls a1 h') (up : s'.heap.UpToSlots h') : Fly X.prog X.w X.stack H s x cls H' { s' with heap := h' } := by
  have st : ∀ b o, B.get? b = some o → h'.get? b = some o := fl'.1
  have same : ∀ b u v, B.get? b = some u → s'.heap.get? b = some v → u = v := fun b u v h1 h2 => by
    have h3 := fl.1 b u h1
    rw [h2] at h3
    exact (Option.some.inj h3).symm
  have slot : ∀ b o, s.heap.get? b = some o → H b = none → b ∈ frs X.stack → ∃ sl, h'.get? b = some { o with slots := sl } := fun b o e n hb => by
    obtain ⟨sl2, e2⟩ := f.un.any e n (by simp)
    obtain ⟨_, of, ho, hnf⟩ := I.stack.mem hb
    rw [e] at ho
    cases ho
    obtain ⟨sl3, e3⟩ := up b _ e2 hnf
    exact ⟨sl3, e3⟩
  refine ⟨f.os, f.bare, ⟨fun b o e n hb _ => ?_, fun b o e n hb _ => slot b o e n hb, f.un.free, fun b o e _ => ?_, f.un.tups, f.un.frzs, f.un.tbls⟩, fun a o e => ?_, ⟨B, a1, fl', c1, c2⟩, f.free⟩
  · have e2 := f.un.keep b o e n hb (by simp)
    obtain ⟨u, hu⟩ := c2 b o e hb
    exact same b u o hu e2 ▸ st b u hu
  · by_cases hb : b ∈ frs X.stack
    · obtain ⟨sl, e1⟩ := slot b o e (I.stkFree b hb) hb
      exact ⟨_, e1⟩
    · obtain ⟨u, hu⟩ := c2 b o e hb
      exact ⟨u, st b u hu⟩
  · refine (f.hok a o e).stay (fun b u hb q => ?_) (fun _ q => q) fun _ _ q => q
    have t : ∃ o', H' b = some o' := by
      rcases hb with z | z
      · exact ⟨o, by rw [z]; exact e⟩
      · exact ⟨_, z⟩
    obtain ⟨o', e'⟩ := t
    obtain ⟨v, hv⟩ := c1 b o' e'
    exact same b v u hv q ▸ st b v hv
theorem Fly.inv (f : Fly X.prog X.w X.stack H s x cls H' s') (I : Inv X pins σ H s) : Inv X pins σ H' s' := I.call' (ch := []) f.os f.un f.hok f.bare fun b z => absurd z (by simp)
theorem Fly.there (f : Fly X.prog X.w X.stack H s x cls H' s') : ∃ ob, s'.heap.get? x = some ob ∧ ob.cls = cls := by
  obtain ⟨B, a0, fl, _⟩ := f.fl
  exact fl.there
theorem Fly.again {A : Around} {E : Value → Shared → Prop} {Q : Unit → Shared → Prop} (f : Fly X.prog X.w X.stack H s x cls H' s') (I : Inv X pins σ H s) {d : Option Addr} (hdi : DictIs x d s') (hQ : ∀ s'', Fly X.prog X.w X.stack H s x cls H' s'' → DictIs x d s'' → Q () s'') :
    wpAny (model X.prog X.w) A (setFlight (.ref x) none) Q E s' := by
  refine wpAny_mono (Keeps.flight.wpAny (E := E) (Q := fun _ s'' => Fly X.prog X.w X.stack H s x cls H' s'') hdi ?_) (fun _ s'' z => hQ s'' z.1 z.2) fun _ _ z => z.1
  obtain ⟨B, a0, fl, c1, c2⟩ := f.fl
  exact lands_againW fl fun h' fl' up => f.on I fl c1 c2 fl' up
theorem Fly.look {E E2 : Value → Shared → Prop} {Q : Unit → Shared → Prop} (f : Fly X.prog X.w X.stack H s x cls H' s') (I : Inv X pins σ H s) (hst : X.stack = X.env :: X.outer) (hfr : X.env.frame = some X.env.locals) {d : Option Addr} (hdi : DictIs x d s')
    (hQ : ∀ s'', Fly X.prog X.w X.stack H s x cls H' s'' → DictIs x d s'' → Q () s'') : wpAny (model X.prog X.w) X.A (noteFrame (.ref x) X.env) (fun _ s2 => wpAny (model X.prog X.w) X.A (setFlight (.ref x) none) Q E2 s2) E s' := by
  obtain ⟨B, a0, fl, c1, c2⟩ := f.fl
  have fl0 := fl
  rw [hst] at fl
  refine wpAny_mono (Keeps.note.wpAny (E := E) (Q := fun _ s2 => wpAny (model X.prog X.w) X.A (setFlight (.ref x) none) (fun _ s'' => Fly X.prog X.w X.stack H s x cls H' s'') E2 s2) hdi ?_) (fun _ s2 z => ?_) fun _ _ z => z.1
  · refine wpAny_looks_onW (by rw [I.ok.frames, hst]) hfr fl fun h' hd up => ?_
    refine wpAny_landsW hd fun h2 fl2 up2 => ?_
    rw [← hst] at fl2
    exact f.on I fl0 c1 c2 fl2 (up.trans up2)
  · exact wpAny_mono (Keeps.flight.wpAny z.2 z.1) (fun _ s'' y => hQ s'' y.1 y.2) fun _ _ y => y.1
end
/-! ### the context within an except suite; within a try -/
abbrev Cx.inE (X : Cx) (e : Addr) : Cx := { X with A := X.A.mark (some (.ref e)), calm := false }
section
variable {X : Cx} {pins : List (Addr × Obj)} {σ : St} {H : Hp} {s : Shared}
theorem Cx.Ok.inE {e : Addr} (ok : X.Ok) : (X.inE e).Ok := ⟨ok.mod, ok.kind, ok.glob, ok.blt, ok.above, ok.inj, ok.has, ok.cab, fun z => absurd z (by simp), ok.frames, ok.stk, ok.exf, ok.bs, ok.bsz, ok.noex, ok.exfs, ok.funs, ok.frf⟩
theorem Inv.inE {e : Addr} (I : Inv X pins σ H s) : Inv (X.inE e) pins σ H s := ⟨I.ok.inE, I.os, I.bare, I.base, I.loc, I.cell, I.free, I.freeC, I.pin, I.hok, I.len⟩
theorem Inv.outE {e : Addr} {E : Value → Shared → Prop} (ok : X.Ok) (I : Inv ((X.inE e).wish E) pins σ H s) : Inv X pins σ H s := ⟨ok, I.os, I.bare, I.base, I.loc, I.cell, I.free, I.freeC, I.pin, I.hok, I.len⟩
theorem SP.outE {e : Addr} {E : Value → Shared → Prop} {D : Ends} {f : Flow} {s' : Shared} (ok : X.Ok) (h : SP ((X.inE e).wish E) pins D f s') : SP X pins D f s' := by
  cases f with
  | next => obtain ⟨σ', H', I, q⟩ := h; exact ⟨σ', H', I.outE ok, q⟩
  | brk => obtain ⟨σ', H', I, q⟩ := h; exact ⟨σ', H', I.outE ok, q⟩
  | cont => obtain ⟨σ', H', I, q⟩ := h; exact ⟨σ', H', I.outE ok, q⟩
  | ret u => obtain ⟨v, σ', H', I, r, q⟩ := h; exact ⟨v, σ', H', I.outE ok, r, q⟩
end
abbrev TH := Ends → Value → Option Addr → Addr → St → Hp → Prop
def PH (X : Cx) (hs : List ExceptHandler) (t : TH) : Prop :=
  ∀ (pins : List (Addr × Obj)) (σ : St) (H H' : Hp) (s s' : Shared) (D : Ends) (cls : Value) (d : Option Addr) (e : Addr), Inv X pins σ H s → Fly X.prog X.w X.stack H s e cls H' s' → DictIs e d s' → t D cls d e σ H' →
    wpAny (model X.prog X.w) X.A (handleBy (.ref e) X.env hs) (SP X pins D) X.xe s'
theorem ph_nil {X : Cx} : PH X [] (fun _ _ _ _ _ _ => False) := fun _ _ _ _ _ _ _ _ _ _ _ _ _ h => h.elim
/-- what a try wants of an exception within it -/
def etry (X : Cx) (hs : List ExceptHandler) (pins : List (Addr × Obj)) (D : Ends) : Value → Shared → Prop := fun e s1 =>
  wpAny (model X.prog X.w) X.A (noteFrame e X.env) (fun _ s2 => wpAny (model X.prog X.w) X.A (setFlight e none) (fun _ s3 => wpAny (model X.prog X.w) X.A (handleBy e X.env hs) (SP X pins D) X.xe s3) X.xe s2) X.xe s1
abbrev Cx.tryIn (X : Cx) (hs : List ExceptHandler) (pins : List (Addr × Obj)) (D : Ends) : Cx := { X with pn := X.pn ++ pins, xe := etry X hs pins D }
section
variable {X : Cx} {hs : List ExceptHandler} {pins pins' : List (Addr × Obj)} {D D' : Ends} {σ : St} {H : Hp} {s : Shared}
theorem Cx.Ok.tryIn (ok : X.Ok) : (X.tryIn hs pins D).Ok := ⟨ok.mod, ok.kind, ok.glob, ok.blt, ok.above, ok.inj, ok.has, ok.cab, ok.hd, ok.frames, ok.stk, ok.exf, ok.bs, ok.bsz, ok.noex, ok.exfs, ok.funs, ok.frf⟩
theorem Cx.Ok.tryOut (ok : (X.tryIn hs pins D).Ok) : X.Ok := ⟨ok.mod, ok.kind, ok.glob, ok.blt, ok.above, ok.inj, ok.has, ok.cab, ok.hd, ok.frames, ok.stk, ok.exf, ok.bs, ok.bsz, ok.noex, ok.exfs, ok.funs, ok.frf⟩
theorem Inv.tryIn (I : Inv X pins σ H s) : Inv (X.tryIn hs pins D) [] σ H s := ⟨I.ok.tryIn, I.os, I.bare, I.base, I.loc, I.cell, I.free, I.freeC, fun p hp => I.pin p (by simpa using hp), I.hok, I.len⟩
theorem Inv.tryOut (I : Inv (X.tryIn hs pins D) pins' σ H s) : Inv X pins σ H s := ⟨I.ok.tryOut, I.os, I.bare, I.base, I.loc, I.cell, I.free, I.freeC, fun p hp => I.pin p (List.mem_append_left _ hp), I.hok, I.len⟩
theorem SP.tryOut {f : Flow} {s' : Shared} (h : SP (X.tryIn hs pins D') [] D f s') : SP X pins D f s' := by
  cases f with
  | next => obtain ⟨σ', H', I, q⟩ := h; exact ⟨σ', H', I.tryOut, q⟩
  | brk => obtain ⟨σ', H', I, q⟩ := h; exact ⟨σ', H', I.tryOut, q⟩
  | cont => obtain ⟨σ', H', I, q⟩ := h; exact ⟨σ', H', I.tryOut, q⟩
  | ret u => obtain ⟨v, σ', H', I, r, q⟩ := h; exact ⟨v, σ', H', I.tryOut, r, q⟩
end
/-- try: body, except ..: .. -/
theorem ps_try {X : Cx} {body : List Stmt} {h₀ : ExceptHandler} {hs : List ExceptHandler} {pos : Pos} {tb : Ends → TS} (hb : ∀ pins D, PSs (X.tryIn (h₀ :: hs) pins D) body (tb D)) : PS X (.Try body (h₀ :: hs) [] [] pos) (fun D σ H => tb D D σ H) := by
  intro pins s σ H D I h
  refine wpAny_Try_except (wpAny_mono (hb pins D [] s σ H D I.tryIn h) (fun f s1 q => ?_) fun _ _ z => z)
  have q' := SP.tryOut q
  cases f with
  | next => exact wpAny_execs_nil q'
  | brk => exact q'
  | cont => exact q'
  | ret u => exact q'
/-- an exception of a callee within a try comes to its handlers -/
theorem passT {X : Cx} {hs : List ExceptHandler} {pins : List (Addr × Obj)} {D : Ends} {th : TH} (hst : X.stack = X.env :: X.outer) (hfr : X.env.frame = some X.env.locals) (hh : PH X hs th) :
    ∀ (pins' : List (Addr × Obj)) (σ : St) (H : Hp) (s : Shared) (e : Value) (s' : Shared), Inv (X.tryIn hs pins D) pins' σ H s → CX1 X.prog X.w X.stack H s (fun cls d H' => ∀ x, H' x = none → th D cls d x σ H') e s' → (X.tryIn hs pins D).xe e s' := by
  intro pins' σ H s e s' I h
  obtain ⟨x, cls, d, H', rfl, f, hdi, hE⟩ := h
  have I0 : Inv X pins σ H s := I.tryOut
  exact Fly.look f I0 hst hfr hdi fun s'' f2 d2 => hh pins σ H H' s s'' D cls d x I0 f2 d2 (hE x f.free)
section
variable {X : Cx} {CX : CXT} {k : Nat} {f C : Addr} {fd : FuncData} {ps : List Str} {sp : Sp} {dvs : List V} {ds : List Value} {E : St → XK} {x m : Str} {p pos apos : Pos} {e o : Expr} {es : List Expr} {ta : TE} {t : TA}
/-- a call whose wish of an exception looks at the state -/
theorem pe_callE (F : FnOk X.prog X.w X.K X.mg X.base CX k f fd ps sp) (hr : Room k X.A) (hg : Gl X x) (hm : X.mg x = some (.ref f)) (hk : PySem.W.keepIn X.K (.ref f) = true) (hb : Binds X.K fd ps ds) (hd : Vals dvs ds)
    (hx : ∀ (pins : List (Addr × Obj)) (σ : St) (H : Hp) (s : Shared) (e : Value) (s' : Shared), Inv X pins σ H s → CX X.stack H s (E σ) e s' → X.xe e s') (ha : PA X (e :: es) t)
    (hdb : (x == ("__debug__" : Str)) = false := by decide) (he : starEach (e :: es) X.env = (false, eval e X.env) :: starEach es X.env := by rfl) (hpl : (backTo pos (starEach es X.env)).any (·.1) = false := by rfl) :
    PE X (.Call (.Name x p) (e :: es) [] pos) (fun σ H Q => t σ H fun vs H1 => sp (vs ++ dvs) H1 Q (E σ)) := by
  intro pins s σ H Q I h
  refine wpAny_Call_Name_kw (ld_glob I hg hm ?_ hdb)
  refine PySem.W.callWith_K (h₀ := X.base) I.ok.mod.kin hk (thn (ha pos pins s σ H _ I h) fun us s1 ⟨vs, H1, I1, r, q⟩ => ⟨I1.kIn, ?_⟩) he hpl
  have r2 : Vals (vs ++ dvs) (us ++ ds) := r.append hd
  have hl : (us ++ ds).length = ps.length := by rw [← r2.length]; exact F.len _ _ _ _ q
  refine wpAny_call (codeAny_mono (F.run X.A X.stack s1 H1 ⟨us, []⟩ (us ++ ds) (vs ++ dvs) Q (E σ) hr I1.env0 (hb s1 us I1.kIn hl) r2 q) fun r s' hq => ?_)
  cases r with
  | error e => exact hx pins σ H1 s1 e s' I1 hq
  | ok fl =>
    cases fl with
    | ret u => exact I1.after hq
    | next => exact False.elim hq
    | brk => exact False.elim hq
    | cont => exact False.elim hq
end
end L2

namespace L2
open PySem PySem.Spec PyProof.Rows
/-! ### f-strings of texts and numbers: a text comes, whichever -/
section
variable {X : Cx} {pos : Pos} {e : Expr} {es : List Expr} {te : TE}
abbrev TJ := St → Hp → (Hp → Prop) → Prop
def PJ (X : Cx) (es : List Expr) (t : TJ) : Prop :=
  ∀ (pins : List (Addr × Obj)) (s : Shared) (σ : St) (H : Hp) (acc : Str) (Z : Hp → Prop), acc.length + 100000 * es.length ≤ sizeLine → Inv X pins σ H s → t σ H Z →
    Joins (model X.prog X.w) X.A X.xe (evalEach es X.env) acc (fun out s1 => out.length ≤ sizeLine ∧ ∃ H1, Inv X pins σ H1 s1 ∧ Z H1) s
theorem pj_nil : PJ X [] (fun _ H Z => Z H) := fun _ _ _ H _ _ hz I h => ⟨Nat.le_trans (Nat.le_add_right _ _) hz, H, I, h⟩
theorem pj_cons {tj : TJ} (he : PE X e te) (hr : PJ X es tj) : PJ X (e :: es) (fun σ H Z => te σ H fun v H1 => ∃ y : Str, v = .str y ∧ y.length ≤ 100000 ∧ tj σ H1 Z) := by
  intro pins s σ H acc Z hz I h
  refine thn (he pins s σ H _ I h) fun u s1 ⟨v, H1, I1, r, y, hv, hy, q⟩ => ?_
  subst hv
  obtain ⟨t, rfl⟩ := r
  have e1 : (acc ++ y).length = acc.length + y.length := by
    show Array.size (acc.cps ++ y.cps) = _
    rw [Array.size_append]
    rfl
  have e2 : (e :: es).length = es.length + 1 := rfl
  rw [e2] at hz
  refine ⟨y, t, rfl, by omega, hr pins s1 σ H1 (acc ++ y) Z (by omega) I1 q⟩
theorem pe_fstr {v1 v2 : Expr} {rest : List Expr} {tj : TJ} (hj : PJ X (v1 :: v2 :: rest) tj) (hl : (v1 :: v2 :: rest).length ≤ 100) :
    PE X (.JoinedStr (v1 :: v2 :: rest) pos) (fun σ H Q => tj σ H fun H1 => ∀ z : Str, z.length ≤ sizeLine → Q (.str z) H1) := by
  intro pins s σ H Q I h
  have hz : Str.empty.length + 100000 * (v1 :: v2 :: rest).length ≤ sizeLine := by
    have e0 : Str.empty.length = 0 := rfl
    rw [sizeLine_eq, e0]
    rw [Nat.zero_add]
    exact Nat.le_trans (Nat.mul_le_mul_left _ hl) (Nat.le_of_ble_eq_true rfl)
  refine wpAny_JoinedStr ?_
  have j := hj pins s σ H Str.empty _ hz I h
  exact joins_mono _ _ (fun out s1 ⟨h1, H1, I1, q⟩ => ⟨h1, .str out, H1, I1.tok _, ⟨_, rfl⟩, q out h1⟩) _ j
where joins_mono {M : Model} {A : Around} {E : Value → Shared → Prop} : ∀ (parts : List (Sem Value)) (acc : Str) {Q Q' : Str → Shared → Prop}, (∀ out s, Q out s → Q' out s) → ∀ s, Joins M A E parts acc Q s → Joins M A E parts acc Q' s
  | [], acc, _, _, hq, s, h => hq _ _ h
  | x :: rest, acc, _, _, hq, s, h => thn (show wpAny _ _ _ _ _ _ from h) fun v s1 ⟨y, t, e1, e2, e3⟩ => ⟨y, t, e1, e2, joins_mono rest (acc ++ y) hq s1 e3⟩
end
end L2

namespace L2
open PySem PySem.Spec PyProof.Rows
/-! ### dicts by texts and numbers: dict(d), d.setdefault(k, x), == and != of two dicts with the same pairs -/
section
variable {prog : Program} {w : World} {A : Around} {s : Shared} {E : Value → Shared → Prop} {K : Type} [DecidableEq K] {knd : KeyKind prog w K}
end
section
variable {X : Cx}
def rSameD (neg : Bool) : R2 := fun x y H Q => ∃ a b kvs, x = .ref a ∧ y = .ref b ∧ H a = some (.dK kvs) ∧ H b = some (.dK kvs) ∧ (∀ p ∈ kvs, ∃ c, p.2 = .ref c) ∧ Q (.bl (!neg)) H
def tDSetd (td ty tx : TE) : TE := fun σ H Q => td σ H fun x H1 => ∃ a, x = .ref a ∧ IsD H1 a ∧ ty σ H1 fun y H2 => tx σ H2 fun z H3 => ∃ kvs k, H3 a = some (.dK kvs) ∧ y = kV k ∧ kvs.length < sizeLine ∧
  ((∃ v, valV kvs k = some v ∧ Q v H3) ∨ (valV kvs k = none ∧ Q z (upd H3 a (.dK (putK kvs k z)))))
end
end L2

namespace L2
open PySem PySem.Spec PyProof.Rows
/-! ### the class of an exception that was caught, isinstance of it -/
/-- what the text's own exception classes are like -/
structure ExcCls (K : PySem.W.Frag) (D : Addr) : Prop where
  is : (match K.lookup D with | some ⟨_, _, .cls _, _⟩ => true | _ => false) = true
  ga : PySem.W.findIn K (.ref D) "__getattribute__" = some (some (.builtin "BaseException.__getattribute__"))
  gh : PySem.W.findIn K (.ref D) "__getattr__" = some none
  cl : PySem.W.findIn K (.ref D) "__class__" = some (some (.builtin "object.__class__"))
  sp : PySem.W.specialIn K (.builtin "object.__class__") "__get__" = some (some (.builtin "getset_descriptor.__get__"))
  tk : PySem.W.takesIn K (.builtin "object.__class__") = some true
  ob : PySem.W.mroIn K D (.type "object") = some true
  be : PySem.W.mroIn K D (.type "BaseException") = some true
section
variable {prog : Program} {w : World} {A : Around} {E : Value → Shared → Prop} {s : Shared} {K : PySem.W.Frag} {x D : Addr}
theorem find_data {M : Model} {h : Heap} {a g : Value} {nm : Str} (X : K.In h) (ha : PySem.W.findIn K (.ref D) nm = some (some a)) (hg : PySem.W.specialIn K a "__get__" = some (some g)) (ht : PySem.W.takesIn K a = some true) :
    PySem.W.Looks M h (Builtin.ObjectAttr.find (.ref x) (.ref D) nm) (.bind g a) := by
  have z1 := PySem.W.looks_findIn (M := M) X ha
  have z2 : PySem.W.Looks M h (Builtin.ObjectAttr.getOf (some a)) (some g) := PySem.W.looks_specialIn X hg
  have z3 := PySem.W.looks_takesIn (M := M) X ht
  have z4 : PySem.W.Looks M h (Builtin.ObjectAttr.dataDescriptor? (some a) (some g)) (some (g, a)) := z3.andThen .now
  exact z1.andThen (z2.andThen (z4.andThen (PySem.W.Looks.tag .now)))
theorem exc_get {tp : Value} {R : Result → Shared → Prop} (X : K.In s.heap) (LT : PySem.W.Looks (model prog w) s.heap (typeOf (.ref x)) (.ref D)) (hm : PySem.W.mroIn K D (.type "object") = some true) (h : R (.ok (.ret (.ref D))) s) :
    codeAny (model prog w) A (.call (.builtin "getset_descriptor.__get__") ⟨[.builtin "object.__class__", .ref x, tp], []⟩) R s := by
  obtain ⟨hh, gs, dr, tt, oss⟩ := s
  have LM := PySem.W.looks_mroIn (M := model prog w) X hm
  refine codeAny_call_builtin PySem.W.KF.slot_gs.plain PySem.W.KF.entry_gs (PySem.W.KF.slot_gs.check _ _ _ _ _ _ _ _ PySem.W.KF.type_class (PySem.W.KF.args_gs _ _ _) ?_)
  unfold Builtin.«getset_descriptor.__get__» Builtin.Getset_descriptor.descrGet
  rw [PySem.W.dga_obj]
  refine wpAny_bind (wpAny_pure ?_)
  unfold Builtin.Getset_descriptor.descrGetter Builtin.Getset_descriptor.descrCheckInstance Builtin.Getset_descriptor.descrNameAndClass isInstance
  simp only [PySem.W.KF.owner_class]
  repeat lk
  refine ⟨Code.quiet_builtin _ (by decide +kernel), codeAny_builtin PySem.W.KF.entry_class ?_⟩
  unfold Builtin.«object.__class__» shownTypeOf
  repeat lk
  exact h
theorem exc_gaCall {tk : Tok} {R : Result → Shared → Prop} (c : ExcCls K D) (X : K.In s.heap) (LT : PySem.W.Looks (model prog w) s.heap (typeOf (.ref x)) (.ref D)) (h : R (.ok (.ret (.ref D))) s) :
    codeAny (model prog w) A (.call (.builtin "BaseException.__getattribute__") ⟨[.ref x, .str "__class__" tk], []⟩) R s := by
  obtain ⟨hh, gs, dr, tt, oss⟩ := s
  have LF := find_data (M := model prog w) (x := x) X c.cl c.sp c.tk
  have LI : PySem.W.Looks (model prog w) hh (isInstance (.ref x) (.type "BaseException")) true := LT.andThen (PySem.W.looks_mroIn (M := model prog w) X c.be)
  have hk : builtinKind "BaseException.__getattribute__" = some Manifest.AttrKind.slot := by decide +kernel
  have hsp : splitId "BaseException.__getattribute__" = some ("BaseException", "__getattribute__") := by decide +kernel
  refine codeAny_call_builtin PySem.F.attr_ValueError.ga.plain PySem.F.entry_bexc_ga ?_
  simp only [checkBuiltinCall, hk, hsp]
  have hargs := PySem.F.args_bexc_ga (.ref x) (.str "__class__" tk)
  refine wpAny_bind (LI.at ?_)
  first
    | (rw [if_neg (by decide)]; refine wpAny_of_eq hargs ?_)
    | refine wpAny_of_eq hargs ?_
  unfold Builtin.«object.__getattribute__»
  refine wpAny_bind (wpAny_pure (wpAny_bind (wpAny_pure (wpAny_bind (LT.at (wpAny_bind (LF.at ?_)))))))
  show wpAny _ _ (holding [.builtin "object.__class__"] (call (.builtin "getset_descriptor.__get__") [.builtin "object.__class__", .ref x, .ref D]) >>= ret) _ _ _
  exact wpAny_bind (wpAny_holding (wpAny_call (exc_get X LT c.ob (wpAny_pure h))))
theorem exc_class {Q : Option Value → Shared → Prop} (c : ExcCls K D) (X : K.In s.heap) (LT : PySem.W.Looks (model prog w) s.heap (typeOf (.ref x)) (.ref D)) (h : Q (some (.ref D)) { s with toks := s.toks + 1 }) :
    wpAny (model prog w) A (getAttr? (.ref x) "__class__") Q E s := by
  obtain ⟨hh, gs, dr, tt, oss⟩ := s
  have LG := PySem.W.looks_findIn (M := model prog w) X c.ga
  have LH := PySem.W.looks_findIn (M := model prog w) X c.gh
  have hb := PySem.F.attr_ValueError.ga.bind (.ref x)
  unfold getAttr? getAttrBy? getAttrBy
  refine wpAny_bind (wpAny_mkText (wpAny_bind (wpAny_attempt (wpAny_holding (wpAny_bind (LT.at (wpAny_bind (LG.at ?_))))))))
  show wpAny _ _ (getAttrByItsOwn _ _ _ _ _ _) _ _ _
  unfold getAttrByItsOwn hookBefore
  refine wpAny_bind (LH.at ?_)
  refine wpAny_bind (wpAny_attempt (wpAny_holding ?_))
  show wpAny _ _ (boundAndCalled _ _ _) _ _ _
  unfold boundAndCalled
  refine wpAny_bind (wpAny_of_eq hb ?_)
  show wpAny _ _ (call (.builtin "BaseException.__getattribute__") [.ref x, .str "__class__" tt]) _ _ _
  refine wpAny_call (exc_gaCall (s := ⟨hh, gs, dr, tt + 1, oss⟩) c X LT ?_)
  refine PySem.W.handed_on rfl ?_
  exact wpAny_pure h
def excAt (x : Addr) (cls : Value) (d : Option Addr) (h : Heap) : Prop := ∃ o vs, h.get? x = some o ∧ o.cls = cls ∧ o.dict = d ∧ o.data = .fields vs
theorem excAt_ty {cls : Value} {d : Option Addr} (M : Model) (h : Heap) (p : excAt x cls d h) : PySem.W.Looks M h (typeOf (.ref x)) cls := by
  obtain ⟨o, vs, h1, h2, _⟩ := p
  rw [← h2]
  exact (PySem.W.Looks.ld h1).andThen .now
theorem kitx_exc {d : Option Addr} (c : ExcCls K D) : PySem.W.KitX K (.ref x) (.ref D) (excAt x (.ref D) d) where
  ty := fun M h _ p => excAt_ty M h p
  it := fun _ _ X _ => by
    have q := c.is
    split at q
    · rename_i ho
      intro A' Q' E' s' k z
      unfold isType loadHead
      exact wpAny_bind (wpAny_loadPart (k _ _ (X _ _ ho)) (wpAny_pure z))
    · cases q
  ne := fun _ t _ _ _ _ X ht => by
    cases hb : (Value.ref D == Value.ref t) with
    | false => rfl
    | true =>
      obtain rfl : D = t := Value.ref.inj (beq_iff_eq.mp hb)
      have q := c.is
      split at q
      · next ho => exact nomatch (X _ _ ho).symm.trans ht
      · cases q
  ca := fun X p k => exc_class c X (excAt_ty _ _ p) k
end
section
variable {X : Cx}
/-- isinstance(e, C) of a caught exception -/
theorem call_isiX {D : Addr} (c : ExcCls X.K D) : CallR X (.builtin "isinstance") (fun xs H Q => ∃ e d y u b, xs = [.ref e, y] ∧ RelV y u ∧ (∀ u', RelV y u' → u' = u) ∧ H e = some (.ext (excAt e (.ref D) d)) ∧ PySem.W.kitOne X.K (.ref D) u = some b ∧ Q (.bl b) H) := by
  intro pins s σ H xs us Q I rv h
  obtain ⟨e, d, y, u, b, rfl, _, hu, he, hk, q⟩ := h
  obtain ⟨u1, u2, rfl, r1, r2⟩ := rv.two
  cases r1
  rw [hu u2 r2]
  obtain ⟨p, _, _⟩ := (show ObjOk X.prog X.w H s.heap e (.ext (excAt e (.ref D) d)) from I.hok e _ he)
  exact PySem.W.kia_one (kitx_exc c) I.kIn p hk (fun z => nomatch z) fun tk => ⟨.bl b, H, I.tok _, rfl, q⟩
end
/-! ### except .. as n -/
section
variable {X : Cx} {pins : List (Addr × Obj)} {σ : St} {H H' : Hp} {s s' : Shared} {x : Addr} {cls : Value}
theorem Fly.new (I : Inv X pins σ H s) (f : Fly X.prog X.w X.stack H s x cls H' s') : s.heap.get? x = none := by
  cases e : s.heap.get? x with
  | none => rfl
  | some o =>
    obtain ⟨B, a0, fl, c1, c2⟩ := f.fl
    by_cases hb : x ∈ frs X.stack
    · obtain ⟨_, of, ho, hnf⟩ := fl.2.2.1.mem hb
      obtain ⟨oe, vs, hoe, _, hd, _⟩ := fl.first
      rw [ho] at hoe
      cases hoe
      exact absurd hd (hnf vs)
    · obtain ⟨u, hu⟩ := c2 x o e hb
      have := fl.2.1
      rw [hu] at this
      cases this
/-- what was not tracked, and is not the callers', is tracked from here on -/
theorem Inv.track {o : HO} (I : Inv X pins σ H s) (hn : X.s₀.heap.get? x = none) (hl : x ≠ X.env.locals) (hc : ∀ y c, X.env.cells.lookup y = some c → c ≠ x) (hp : ∀ p ∈ X.pn ++ pins, p.1 ≠ x) (hx : H x = none) (ho : ObjOk X.prog X.w (upd H x o) s.heap x o) :
    Inv X pins σ (upd H x o) s := by
  have ne : ∀ b u, H b = some u → b ≠ x := fun b u e z => by rw [z, hx] at e; cases e
  have old : ∀ b ob, X.s₀.heap.get? b = some ob → b ≠ x := fun b ob e z => by rw [z, hn] at e; cases e
  refine ⟨I.ok, I.os, I.bare, ⟨I.base.keep, I.base.slot, fun b ob e n hb => by rw [upd_ne (old b ob e)]; exact I.base.free b ob e n hb, I.base.there, fun b xs e => ?_, fun b ob u e => ?_, fun b ps e => ?_⟩, I.loc, I.cell, by rw [upd_ne (Ne.symm hl)]; exact I.free, fun y c e => by rw [upd_ne (hc y c e)]; exact I.freeC y c e, fun p hpp => ?_, fun b u e => ?_, I.len⟩
  · have z := I.base.tups b xs e
    rw [upd_ne (ne _ _ z)]
    exact z
  · have z := I.base.frzs b ob u e
    rw [upd_ne (ne _ _ z)]
    exact z
  · obtain ⟨m, z⟩ := I.base.tbls b ps e
    exact ⟨m, by rw [upd_ne (ne _ _ z)]; exact z⟩
  · obtain ⟨a1, a2, a3, a4, a5⟩ := I.pin p hpp
    exact ⟨a1, by rw [upd_ne (hp p hpp)]; exact a2, a3, a4, a5⟩
  · by_cases eb : b = x
    · subst eb
      rw [upd_same] at e
      cases e
      exact ho
    · rw [upd_ne eb] at e
      refine (I.hok b u e).stay (fun _ _ _ q => q) (fun c q => ?_) fun c xs q => ?_
      · rw [upd_ne (ne _ _ q)]; exact q
      · rw [upd_ne (ne _ _ q)]; exact q
theorem Fly.track {d : Option Addr} (I : Inv X pins σ H s) (hex : X.ex = []) (f : Fly X.prog X.w X.stack H s x cls H' s') (hdi : DictIs x d s') : Inv X pins σ (upd H' x (.ext (excAt x cls d))) s' := by
  have hn := f.new I
  have I1 := f.inv I
  obtain ⟨B, a0, fl, _⟩ := f.fl
  obtain ⟨ob, vs, hob, hcl, hdt, _⟩ := fl.first
  obtain ⟨ob', hob', hdd⟩ := hdi
  obtain rfl : ob = ob' := Option.some.inj (hob.symm.trans hob')
  have ne : ∀ b o, s.heap.get? b = some o → b ≠ x := fun b o e z => by rw [z, hn] at e; cases e
  refine I1.track ?_ ?_ ?_ ?_ f.free ⟨⟨ob, vs, hob, hcl, hdd, hdt⟩, ⟨ob, hob⟩, fun h1 h2 p k => ?_⟩
  · cases e : X.s₀.heap.get? x with
    | none => rfl
    | some o =>
      obtain ⟨o', e1⟩ := I.base.there x o e (by rw [hex]; simp)
      rw [hn] at e1
      cases e1
  · obtain ⟨m, ⟨o, _, _, ho, _⟩, _⟩ := I.loc
    exact (ne _ _ ho).symm
  · intro y c e
    obtain ⟨v, o, ho, _⟩ := I.cell y c e
    exact ne _ _ ho
  · intro p hp
    exact ne _ _ (I.pin p hp).1
  · obtain ⟨o, ws, e1, e2⟩ := p
    exact ⟨o, ws, k o e1, e2⟩
theorem unbind_ok {M : Model} {A : Around} {E : Value → Shared → Prop} {i : Nat} {n : Str} {v : V} {Q : Unit → Shared → Prop} (I : Inv X pins σ H s) (hN : X.N.Nodup) (hi : X.N[i]? = some n) (hk : X.env.scope.names.lookup n = some .local) (hv : σ[i]? = some (some v))
    (h : ∀ s', Inv X pins (σ.set i none) H s' → Q () s') : wpAny M A (unbindName X.env n) Q E s := by
  obtain ⟨m, hn, hl⟩ := id I.loc
  obtain ⟨u, r, lk⟩ := hl i n v hi hv (.inl hk)
  have kk : X.env.kindOf n = some .local := hk
  have hcls : (X.env.scope.kind == .class || (X.env.scope.kind == .module && X.env.locals != X.env.globals)) = false := by rw [I.ok.kind]; rfl
  have hiσ : i < σ.length := by rw [I.len]; exact (List.getElem?_eq_some_iff.mp hi).1
  have cne := I.cne
  have e0 : m n = some u := by
    rcases lk with ⟨_, e⟩ | ⟨k, _⟩
    · exact e
    · rw [kk] at k
      rcases k with z | z <;> cases z
  refine wpAny_unbindName_local kk hn e0 hcls fun h' u' hn' hs => ?_
  obtain ⟨oL, _, _, hoL, _⟩ := id hn
  refine h _ ⟨I.ok, I.os, I.bare, ⟨fun b o e nn hb hx => ?_, fun b o e nn hb hx => ?_, I.base.free, fun b o e hx => ?_, I.base.tups, I.base.frzs, I.base.tbls⟩, ⟨_, hn', fun j y v' e1 e2 e3 => ?_⟩, fun y c e => ?_, I.free, I.freeC, fun p hp => ?_, fun b ob e => ?_, by rw [List.length_set]; exact I.len⟩
  · exact (hs.2 b (Nat.ne_of_lt (Nat.lt_of_lt_of_le (Heap.lt_size e) I.ok.above))).trans (I.base.keep b o e nn hb hx)
  · obtain ⟨sl, e1⟩ := I.base.slot b o e nn hb hx
    exact ⟨sl, (hs.2 b (Nat.ne_of_lt (Nat.lt_of_lt_of_le (Heap.lt_size e) I.ok.above))).trans e1⟩
  · obtain ⟨o', e1⟩ := I.base.there b o e hx
    exact ⟨o', (hs.2 b (Nat.ne_of_lt (Nat.lt_of_lt_of_le (Heap.lt_size e) I.ok.above))).trans e1⟩
  · by_cases hj : j = i
    · subst hj
      rw [List.getElem?_set_self hiσ] at e2
      cases e2
    · rw [List.getElem?_set_ne (Ne.symm hj)] at e2
      obtain ⟨u2, r2, q⟩ := hl j y v' e1 e2 e3
      refine ⟨u2, r2, ?_⟩
      rcases q with ⟨k, e⟩ | ⟨k, c, e, z⟩
      · refine .inl ⟨k, ?_⟩
        have : y ≠ n := fun e => hj (nodup_ix hN e1 (e ▸ hi))
        simp [this, e]
      · exact .inr ⟨k, c, e, z.sameBut hs (cne y c e)⟩
  · obtain ⟨w', z⟩ := I.cell y c e
    exact ⟨w', z.sameBut hs (cne y c e)⟩
  · obtain ⟨e, nn, ne, nf, d⟩ := I.pin p hp
    exact ⟨(hs.2 p.1 ne).trans e, nn, ne, nf, d⟩
  · refine (I.hok b ob e).stay (fun c w' hc q => (hs.2 c ?_).trans q) (fun _ q => q) fun _ _ q => q
    rintro rfl
    rcases hc with rfl | hc
    · rw [I.free] at e; cases e
    · rw [I.free] at hc; cases hc
/-- behind the suite the name is gone -/
def Ends.gone (D : Ends) (i : Nat) : Ends := { nx := fun σ H => D.nx (σ.set i none) H, rt := D.rt, bk := fun σ H => D.bk (σ.set i none) H, ct := fun σ H => D.ct (σ.set i none) H }
theorem gone_ok {A : Around} {E : Value → Shared → Prop} {i : Nat} {n : Str} {pos : Pos} {D : Ends} {f : Flow} (hN : X.N.Nodup) (hi : X.N[i]? = some n) (hk : X.env.scope.names.lookup n = some .local) (h : SP X pins (D.gone i) f s) :
    wpAny (model X.prog X.w) A (do bindName X.env n .none; unbindBehindTheSuite X.env n pos) (fun _ s3 => SP X pins D f s3) E s := by
  have go : ∀ {σ' : St} {H' : Hp} {Z : Shared → Prop}, Inv X pins σ' H' s → (∀ s2, Inv X pins (σ'.set i none) H' s2 → Z s2) →
      wpAny (model X.prog X.w) A (do bindName X.env n .none; unbindBehindTheSuite X.env n pos) (fun _ s3 => Z s3) E s := fun {σ' H' Z} I hz => by
    have hiσ : i < σ'.length := by rw [I.len]; exact (List.getElem?_eq_some_iff.mp hi).1
    refine wpAny_bind (wpAny_bindName (store_ok I hN hi (.inl hk) (v := .non) rfl (fun s1 I1 => ?_) (.inr hk)))
    unfold unbindBehindTheSuite
    refine wpAny_onRaise (unbind_ok I1 hN hi hk (by rw [List.getElem?_set_self hiσ]) fun s2 I2 => ?_)
    rw [List.set_set] at I2
    exact hz s2 I2
  cases f with
  | next => obtain ⟨σ', H', I, q⟩ := h; exact go I fun s2 I2 => ⟨_, H', I2, q⟩
  | brk => obtain ⟨σ', H', I, q⟩ := h; exact go I fun s2 I2 => ⟨_, H', I2, q⟩
  | cont => obtain ⟨σ', H', I, q⟩ := h; exact go I fun s2 I2 => ⟨_, H', I2, q⟩
  | ret u => obtain ⟨v, σ', H', I, r, q⟩ := h; exact go I fun s2 I2 => ⟨v, _, H', I2, r, q⟩
end
/-- except d as n: suite -/
theorem ph_as {X : Cx} {d n : Str} {i : Nat} {vd : Value} {np pos : Pos} {b₀ : Stmt} {suite : List Stmt} {rest : List ExceptHandler} {th : TS} {tr : TH} (hex : X.ex = []) (hN : X.N.Nodup) (hi : X.N[i]? = some n) (hk : X.env.scope.names.lookup n = some .local)
    (hg : Gl X d) (hm : X.mg d = some vd) (hb : ∀ e, PSs (X.inE e).nox (b₀ :: suite) th) (hr : PH X rest tr) (hd : (d == ("__debug__" : Str)) = false := by decide) :
    PH X (.ExceptHandler (some (.Name d np)) (some n) (b₀ :: suite) pos :: rest)
      (fun D cls dd e σ H => ∃ b, PySem.W.exmOne X.K cls vd = some b ∧ if b = true then th (D.gone i) (σ.set i (some (.ref e))) (upd H e (.ext (excAt e cls dd))) else tr D cls dd e σ H) := by
  intro pins σ H H' s s' D cls dd e I f hdi h
  obtain ⟨b, hx, h⟩ := h
  have I1 := f.inv I
  obtain ⟨ob, hob, hcl⟩ := f.there
  have LT : PySem.W.Looks (model X.prog X.w) s'.heap (typeOf (.ref e)) cls := by
    rw [← hcl]
    exact (PySem.W.Looks.ld hob).andThen .now
  refine wpAny_handleBy_cons (codeAny_handlers_test (Calls.Name_function_global I1.ok.kind hg (Calls.loadGlobal_global (by rw [I1.ok.glob]; exact I1.mod.glob.keeps I1.bk) hm ?_) hd)) (by intro q; cases q)
  refine (PySem.W.exm_one I1.kIn LT hx).here ?_
  cases b with
  | false => exact hr pins σ H H' s s' D cls dd e I f hdi h
  | true =>
    refine codeAny_handlers_suite_as (f.again I hdi fun s2 f2 d2 => ?_)
    have I2 := f2.track I hex d2
    refine store_ok I2 hN hi (.inl hk) (v := .ref e) rfl (fun s3 I3 => ?_) (.inr hk)
    exact wpAny_mono (hb e pins s3 _ _ (D.gone i) (I3.inE.wish _) h) (fun fl s4 q => gone_ok hN hi hk (SP.outE I1.ok q)) fun _ _ z => False.elim z
end L2

namespace L2
open PySem PySem.Spec PyProof.Rows
/-! ### a def with defaults -/
structure FunD (K : PySem.W.Frag) (x qual : Str) (st : Stmt) (dV : Value) (f : Addr) (fd : FuncData) : Prop where
  ex : ∃ (oc : Value) (od : Option Addr) (kV doc pm : Value) (an : Option Addr) (cdv ct : Value) (osl : Array (Option Value)),
    fd = PySem.W.fnOf x qual (defArgs st) (defBody st) (defScope st) dV kV doc pm an cdv ct ∧ K.lookup f = some ⟨oc, od, .func fd, osl⟩ ∧ PySem.W.codeIn K cdv qual = true
  kp : PySem.W.keepIn K (.ref f) = true
section
variable {P : Program} {w : World} {K : PySem.W.Frag} {mg : Str → Option Value} {base : Heap}
end
end L2

/-! x = [.. for .. in ..]: the store stands inside the comprehension's run -/
namespace L2
open PySem PySem.Spec PyProof.Rows
section
variable {X : Cx}
end
end L2

namespace L2
open PySem PySem.Spec PyProof.Rows
/-! ### reversed(list), enumerate(tuple) walked by a loop -/
section
variable {X : Cx} {pins : List (Addr × Obj)} {σ : St} {H : Hp} {s : Shared} {h' : Heap}
end
/-- the items of the list at a, n of them, from the last to the first -/
def Itv (K : PySem.W.Frag) (a : Addr) (n : Nat) : It :=
  ⟨fun i H => ∃ xs x, SqL K H a xs ∧ xs.length = n ∧ i < n ∧ xs[n - 1 - i]? = some x, fun i H x H' => H' = H ∧ ∀ xs, SqL K H a xs → xs[n - 1 - i]? = some x, fun i _ => i = n⟩
section
variable {X : Cx} {tg : Expr}
def iRev (K : PySem.W.Frag) (ta : TA) : TI := fun σ H R => ta σ H fun vs H1 => ∃ a xs, vs = [.ref a] ∧ SqL K H1 a xs ∧ R (Itv K a xs.length) H1
end
/-! enumerate of a tuple: the library has it of lists and texts -/
section
variable {prog : Program} {w : World} {A : Around} {E : Value → Shared → Prop} {s : Shared}
open AutoSeq1 (wpAny_loadPart') in
end
/-- (0, first), (1, second) .. of the tuple at t: each a new tuple -/
def Iten (K : PySem.W.Frag) (t : Addr) : It :=
  ⟨fun i H => ∃ xs x, SqT K H t xs ∧ xs[i]? = some x, fun i H x H' => ∃ p y, H p = none ∧ x = .ref p ∧ H' = upd H p (.tup [.int i, y]) ∧ ∀ xs, SqT K H t xs → xs[i]? = some y, fun i H => ∃ xs, SqT K H t xs ∧ xs.length ≤ i⟩
section
variable {X : Cx}
def iEnT (K : PySem.W.Frag) (ta : TA) : TI := fun σ H R => ta σ H fun vs H1 => ∃ a xs, vs = [.ref a] ∧ SqT K H1 a xs ∧ R (Iten K a) H1
end
end L2

/-! ### list(d.items()): the pairs of a dict by texts and numbers, each a new tuple -/
namespace L2
open PySem PySem.Spec PyProof.Rows
section
variable {X : Cx} {pins : List (Addr × Obj)} {σ : St} {H H' : Hp} {s : Shared} {h' : Heap}
end
/-- tuples laid at the addresses -/
def layT (H : Hp) : List Addr → List (Key × V) → Hp
  | a :: as, p :: ps => upd (layT H as ps) a (.tup [kV p.1, p.2])
  | _, _ => H
/-- the view d.items() at v -/
def itemsAt (v d : Addr) (h : Heap) : Prop := h.IsItemsView v d
section
variable {X : Cx}
def rItems : V → List V → Hp → VK → Prop := fun x vs H Q => ∃ d kvs, x = .ref d ∧ vs = [] ∧ H d = some (.dK kvs) ∧ ∀ v, H v = none → Q (.ref v) (upd H v (.ext (itemsAt v d)))
end
end L2

/-! ### a dict that a loop walks: frozen at its head, thawed behind it -/
namespace L2
open PySem PySem.Spec PyProof.Rows
section
variable {X : Cx} {pins : List (Addr × Obj)} {σ : St} {H : Hp} {s : Shared} {d : Addr} {o : Obj} {u : HO}
end
def thawD (H₀ : Hp) (D : Ends) : Ends where
  nx := fun σ H => ∃ d o u, H d = some (.frz o u) ∧ (∀ o' u', H₀ d ≠ some (.frz o' u')) ∧ D.nx σ (upd H d u)
  rt := fun v H => ∃ d o u, H d = some (.frz o u) ∧ (∀ o' u', H₀ d ≠ some (.frz o' u')) ∧ D.rt v (upd H d u)
  bk := D.bk
  ct := D.ct
/-- the pairs of the dict at d, which is o and stays so -/
def Itd (d : Addr) (o : Obj) (kvs : List (Key × V)) : It :=
  ⟨fun i H => H d = some (.frz o (.dK kvs)) ∧ i < kvs.length, fun i H x H' => ∃ a p, H a = none ∧ x = .ref a ∧ H' = upd H a (.tup [kV p.1, p.2]) ∧ kvs[i]? = some p, fun i H => H d = some (.frz o (.dK kvs)) ∧ kvs.length ≤ i⟩
section
variable {X : Cx}
def iItems (to : TE) : TI := fun σ H R => to σ H fun x H1 => ∃ d kvs, x = .ref d ∧ H1 d = some (.dK kvs) ∧ ∀ o, R (Itd d o kvs) (upd H1 d (.frz o (.dK kvs)))
end
end L2

/-! ### d.values() walked by a loop -/
namespace L2
open PySem PySem.Spec PyProof.Rows
/-- the values of the dict at d, which is o and stays so -/
def Itw (d : Addr) (o : Obj) (kvs : List (Key × V)) : It :=
  ⟨fun i H => H d = some (.frz o (.dK kvs)) ∧ i < kvs.length, fun i H x H' => H' = H ∧ ∃ p, kvs[i]? = some p ∧ x = p.2, fun i H => H d = some (.frz o (.dK kvs)) ∧ kvs.length ≤ i⟩
section
variable {X : Cx} {tg : Expr}
def iValues (to : TE) : TI := fun σ H R => to σ H fun x H1 => ∃ d kvs, x = .ref d ∧ H1 d = some (.dK kvs) ∧ ∀ o, R (Itw d o kvs) (upd H1 d (.frz o (.dK kvs)))
end
end L2

/-! ### a dict by texts and numbers walked by its keys -/
namespace L2
open PySem PySem.Spec PyProof.Rows
/-- the keys of the dict at d, which is o and stays so -/
def Itk (d : Addr) (o : Obj) (kvs : List (Key × V)) : It :=
  ⟨fun i H => H d = some (.frz o (.dK kvs)) ∧ i < kvs.length, fun i H x H' => H' = H ∧ ∃ p, kvs[i]? = some p ∧ x = kV p.1, fun i H => H d = some (.frz o (.dK kvs)) ∧ kvs.length ≤ i⟩
section
variable {X : Cx} {tg : Expr}
def iKeys (to : TE) : TI := fun σ H R => to σ H fun x H1 => ∃ d kvs, x = .ref d ∧ H1 d = some (.dK kvs) ∧ ∀ o, R (Itk d o kvs) (upd H1 d (.frz o (.dK kvs)))
end
end L2

/-! ### a comprehension over a frozen dict; max of a list; isinstance by the type that lies there; a method's call whose wish of an exception looks at the state -/
namespace L2
open PySem PySem.Spec PyProof.Rows
section
variable {X : Cx}
end
end L2
/-! ### rules with the fragment named (within a comprehension's block); a target of two names -/
namespace L2
open PySem PySem.Spec PyProof.Rows
section
variable {X : Cx} {K : PySem.W.Frag}
/-- t + u, whichever of them is empty: no new tuple then -/
def rCatA (K : PySem.W.Frag) : R2 := fun x y H Q => ∃ a b xs ys, x = .ref a ∧ y = .ref b ∧ SqT K H a xs ∧ SqT K H b ys ∧ ys ≠ [] ∧ xs.length + ys.length ≤ sizeLine ∧
  ∀ p H', Same H H' → SqT K H' p (xs ++ ys) → Q (.ref p) H'
end
end L2
/-! ### {(..): v}: a display of one pair whose key is a tuple -/
namespace L2
open PySem PySem.Spec PyProof.Rows
def tDisp1T (tk tv : TE) : TE := fun σ H Q => ∀ p, H p = none → tk σ (upd H p (.dT [])) fun x H1 => tv σ H1 fun y H2 => ∃ b ks, x = .ref b ∧ H2 p = some (.dT []) ∧ H2 b = some (.tup (ks.map kV)) ∧ Q (.ref p) (upd H2 p (.dT (putK [] ks y)))
end L2

namespace L2
open PySem PySem.Spec PyProof.Rows
/-! ### an exception class of the text's with an __init__ of its own: made, filled, raised -/
/-- the class at C is an exception's, under own ones without an __init__ and a built-in one -/
def excInI (K : PySem.W.Frag) (C : Addr) (bmB : List Value) (newId : String) : Bool := match K.lookup C with | some ⟨.type "type", _, .cls cd, sl⟩ => (match cd.mro, sl.toList with | .ref C' :: bm, [_, _, _, _, some (.builtin n), _] => C' == C && n == newId && !cd.hasDel && PySem.W.tailIn K bmB bm | _, _ => false) | _ => false
structure ExcI (h : Heap) (C : Addr) (bmB : List Value) (newId : String) : Prop where
  obj : ∃ bm N nm q bs hdct sn sub ab col dd k0 k1 k2 k3 k5, h.get? C = some (excClassObj nm q C N bs bm hdct sn sub ab col dd k0 k1 k2 k3 k5 newId) ∧ OwnTail h bmB bm
theorem excI_of {K : PySem.W.Frag} {h : Heap} {C : Addr} {bmB : List Value} {newId : String} (kin : K.In h) (q : excInI K C bmB newId = true) : ExcI h C bmB newId := by
  refine ⟨?_⟩
  unfold excInI at q
  split at q
  next ddx cdx slx look =>
    split at q
    next C2 tl z0 z1 z2 z3 nn z5 hmro hsl =>
      simp only [Bool.not_eq_true', Bool.and_eq_true, beq_iff_eq] at q
      obtain ⟨⟨⟨e1, e2⟩, hdel⟩, htl⟩ := q
      obtain ⟨nm, bs, mro, ns, qn, hd, sn, sub, ab, col, del⟩ := cdx
      obtain ⟨sll⟩ := slx
      dsimp only at hmro hdel hsl
      subst e1 e2 hmro hdel hsl
      exact ⟨tl, ns, nm, qn, bs, hd, sn, sub, ab, col, ddx, z0, z1, z2, z3, z5, kin _ _ look, PySem.W.tail_of_in kin htl⟩
    next => cases q
  next => cases q
/-- what lies at e: an exception, just made, with the dict d -/
abbrev rawExc (C : Addr) (d : Option Addr) (t : Addr) : Obj := { cls := .ref C, dict := d, data := .fields #[.ref t, .none, .none, .none, .bool false, .none] }
abbrev madeHp (h : Heap) (C : Addr) (us : List Value) : Heap := (h.push { cls := .type "tuple", data := .seq us.toArray }).push (rawExc C none h.objs.size)
section
variable {prog : Program} {w : World} {A : Around} {E : Value → Shared → Prop} {h : Heap} {g : Array GenState} {d : Drawn} {t : Nat} {os : OsState} {K : PySem.W.Frag} {C fI : Addr} {us : List Value}
theorem made_at : (madeHp h C us).get? (h.objs.size + 1) = some (rawExc C none h.objs.size) := by
  have := Heap.get?_push_size (h.push { cls := .type "tuple", data := .seq us.toArray }) (o := rawExc C none h.objs.size) rfl
  rwa [Heap.size_push] at this
theorem made_keeps : ∀ b o, h.get? b = some o → (madeHp h C us).get? b = some o := fun b o e => Heap.get?_push_of_some _ (Heap.get?_push_of_some _ e)
theorem exc_typeCall {Q : Fin → Shared → Prop} (X : K.In h) (q : excInI K C bmVE "ValueError.__new__" = true) (hi : PySem.W.findIn K (.ref C) "__init__" = some (some (.ref fI))) (hf : PySem.W.typeIn K (.ref fI) = some (.type "function")) (hl : us.length ≤ sizeLine)
    (hq : wpAny (model prog w) A (call (.ref fI) (.ref (h.objs.size + 1) :: us)) (fun r s' => r = .none ∧ Q (.done (.ret (.ref (h.objs.size + 1)))) s') E ⟨madeHp h C us, g, d, t, os⟩) :
    wpAny (model prog w) A (Builtin.«type.__call__» ⟨.ref C :: us, []⟩) Q E ⟨h, g, d, t, os⟩ := by
  have F := PySem.F.excBase_ValueError
  have X1 : K.In (madeHp h C us) := X.keeps made_keeps
  have hget := made_at (h := h) (C := C) (us := us)
  obtain ⟨bm, N, nm, qq, bs, hdct, sn, sub, ab, col, dd, k0, k1, k2, k3, k5, hCl, T⟩ := (excI_of X q).obj
  have hC1 := made_keeps (h := h) (C := C) (us := us) _ _ hCl
  have self : (Value.ref C :: bm).contains (.ref C) = true := by simp
  repeat (first | with_reducible refine wpAny_loadPart_at hCl ?_ | with_reducible refine wpAny_madeBy_exc hCl ?_ | wp_step)
  refine codeAny_call_builtin_code (Code.quiet_builtin _ F.quiet) (wpAny_check_new_subU F (by decide +kernel) T hCl (codeAny_exc_new_subU F (by decide +kernel) F T hCl ?_ hl))
  show wpAny _ _ _ _ _ ⟨madeHp h C us, g, d, t, os⟩
  unfold isInstance
  repeat (first | with_reducible refine wpAny_loadPart_at hget ?_ | (with_reducible refine wpAny_isSubtype_exc hC1 ?_; rw [self]) | wp_step)
  show wpAny (model prog w) A (typeLookup (.ref C) _) _ _ _
  refine (PySem.W.looks_findIn X1 hi).at ?_
  refine wpAny_holding (wpAny_bind ((PySem.W.bind_fn X1 _ hf).at ?_))
  refine wpAny_bind (wpAny_mono hq (fun r s' ⟨hr, hQ⟩ => ?_) fun _ _ z => z)
  subst hr
  wp_walk
  exact hQ
theorem exc_call {Q : Value → Shared → Prop} (X : K.In h) (q : excInI K C bmVE "ValueError.__new__" = true) (hi : PySem.W.findIn K (.ref C) "__init__" = some (some (.ref fI))) (hf : PySem.W.typeIn K (.ref fI) = some (.type "function")) (hl : us.length ≤ sizeLine)
    (hq : wpAny (model prog w) (A.under (.builtin "type.__call__" ⟨.ref C :: us, []⟩)) (call (.ref fI) (.ref (h.objs.size + 1) :: us)) (fun r s' => r = .none ∧ Q (.ref (h.objs.size + 1)) s') E ⟨madeHp h C us, g, d, t, os⟩) :
    wpAny (model prog w) A (call (.ref C) us) Q E ⟨h, g, d, t, os⟩ := by
  obtain ⟨bm, N, nm, qq, bs, hdct, sn, sub, ab, col, dd, k0, k1, k2, k3, k5, hCl, T⟩ := (excI_of X q).obj
  have tl := tc_lookup
  have tb := tc_bind (.ref C)
  have ty : Shared.TypeIs ⟨h, g, d, t, os⟩ (.ref C) "type" := ⟨_, hCl, rfl⟩
  refine wpAny_call (codeAny_of_tree (show wpAny (model prog w) _ (callAny (.ref C) _) _ _ _ from ?_))
  repeat (any_goals (first | assumption | with_reducible refine wpAny_loadPart_at hCl ?_ | wp_step))
  exact ⟨rfl, codeAny_call_builtin_at (Code.quiet_builtin _ (by decide +kernel)) entry_typeCall (wpAny_check_type_call_sub hCl (exc_typeCall X q hi hf hl hq))⟩
end
section
variable {prog : Program} {w : World} {A : Around} {E : Value → Shared → Prop} {s : Shared} {env : Env} {K : PySem.W.Frag} {C fI : Addr}
theorem exc_raiseStmt {m : Sem Value} {Q : Flow → Shared → Prop} (q : excInI K C bmVE "ValueError.__new__" = true) (hno : A.handled = none)
    (h : wpAny (model prog w) A m (fun v s1 => ∃ e d t, v = .ref e ∧ K.In s1.heap ∧ s1.heap.get? e = some (rawExc C d t) ∧ E (.ref e) s1) E s) : wpAny (model prog w) A (raiseStmt env (some m) none) Q E s := by
  unfold raiseStmt
  refine wpAny_bind (wpAny_mono h (fun v s1 ⟨e, d, t, hv, X, he, hE⟩ => ?_) fun _ _ z => z)
  subst hv
  obtain ⟨bm, N, nm, qq, bs, hdct, sn, sub, ab, col, dd, k0, k1, k2, k3, k5, hCl, T⟩ := (excI_of X q).obj
  have be : (Value.ref C :: bm).contains (.type "BaseException") = true := by rw [List.contains_cons, T.hasType PySem.F.excBase_ValueError.hasBase, Bool.or_true]
  obtain ⟨hp, gs, dr, tk, os⟩ := s1
  dsimp only at he hCl
  repeat (first | with_reducible refine wpAny_loadPart_at he ?_ | with_reducible refine wpAny_loadPart_at hCl ?_ | (with_reducible refine wpAny_isSubtype_exc hCl ?_; rw [be]) | wp_step)
  exact wpAny_raiseNew_none hno hE
theorem exc_Raise {x : Str} {npos cpos pos : Pos} {args : List Expr} {Q : Flow → Shared → Prop} (q : excInI K C bmVE "ValueError.__new__" = true) (hi : PySem.W.findIn K (.ref C) "__init__" = some (some (.ref fI))) (hf : PySem.W.typeIn K (.ref fI) = some (.type "function"))
    (hno : A.handled = none) (hpl : (backTo cpos (starEach args env)).any (·.1) = false)
    (h : wpAny (model prog w) A (eval (.Name x npos) env) (fun f s1 => f = .ref C ∧ wpAny (model prog w) A (evalArgs (.ref C) true (backTo cpos (starEach args env)) [])
      (fun a s2 => a.kw = [] ∧ a.pos.length ≤ sizeLine ∧ K.In s2.heap ∧ wpAny (model prog w) (A.under (.builtin "type.__call__" ⟨.ref C :: a.pos, []⟩)) (call (.ref fI) (.ref (s2.heap.objs.size + 1) :: a.pos))
        (fun r s3 => r = .none ∧ K.In s3.heap ∧ (∃ d t, s3.heap.get? (s2.heap.objs.size + 1) = some (rawExc C d t)) ∧ E (.ref (s2.heap.objs.size + 1)) s3) E { s2 with heap := madeHp s2.heap C a.pos }) E s1) E s) :
    wpAny (model prog w) A (exec (.Raise (some (.Call (.Name x npos) args [] cpos)) none pos) env) Q E s := by
  rw [arm_exec_Raise]
  refine wpAny_bind (wpAny_standAt (exc_raiseStmt (env := env) (K := K) (C := C) q hno ?_))
  refine wpAny_bind (wpAny_mono (wpAny_Call_ofName (wpAny_mono h (fun f s1 z => ?_) fun _ _ z => z)) (fun v s3 z => wpAny_bind (wpAny_standAt (wpAny_pure z))) fun _ _ z => z)
  obtain ⟨rfl, z⟩ := z
  unfold callWith
  refine wpAny_bind (wpAny_holding (wpAny_mono z (fun a s2 y => wpAny_bind (wpAny_standAt ?_)) fun _ _ z => z))
  obtain ⟨us, kw⟩ := a
  obtain ⟨hk, hl, X, y⟩ := y
  obtain rfl : kw = [] := hk
  obtain ⟨bm, N, nm, qq, bs, hdct, sn, sub, ab, col, dd, k0, k1, k2, k3, k5, hCl, T⟩ := (excI_of X q).obj
  obtain ⟨hp, gs, dr, tk, os⟩ := s2
  simp only [hpl]
  refine wpAny_bind (wpAny_keeperOf_exc hCl ?_)
  refine wpAny_bind (exc_call X q hi hf hl (wpAny_mono y (fun r s3 ⟨y1, y2, ⟨d, t, y3⟩, y4⟩ => ⟨y1, wpAny_bind (wpAny_holding (wpAny_point (wpAny_pure ⟨_, d, t, rfl, y2, y3, y4⟩)))⟩) fun _ _ z => z))
end
end L2

namespace L2
open PySem PySem.Spec PyProof.Rows
/-! ### raise C(..), C with an __init__ of its own -/
/-- what is no longer tracked -/
def cut (H : Hp) (x : Addr) : Hp := fun b => if b = x then none else H b
theorem cut_same {H : Hp} {x : Addr} : cut H x x = none := by unfold cut; rw [if_pos rfl]
theorem cut_ne {H : Hp} {x b : Addr} (h : b ≠ x) : cut H x b = H b := by unfold cut; rw [if_neg h]
def excRaw (e C : Addr) (d : Option Addr) (h : Heap) : Prop := ∃ t, h.get? e = some (rawExc C d t)
theorem excRaw_ok {P : Program} {w : World} {H : Hp} {h : Heap} {e C : Addr} {d : Option Addr} (p : excRaw e C d h) : ObjOk P w H h e (.ext (excRaw e C d)) := ⟨p, let ⟨_, q⟩ := p; ⟨_, q⟩, fun _ _ ⟨t, q⟩ k => ⟨t, k _ q⟩⟩
section
variable {X : Cx} {pins : List (Addr × Obj)} {σ : St} {H : Hp} {s : Shared} {x : Addr}
theorem Inv.cut {φ : Heap → Prop} (I : Inv X pins σ H s) (hx : H x = some (.ext φ)) : Inv X pins σ (L2.cut H x) s := by
  have ne : ∀ b u, (∀ ψ, u ≠ .ext ψ) → H b = some u → b ≠ x := fun b u hu e z => by rw [z, hx] at e; exact hu _ (Option.some.inj e).symm
  have le : ∀ b, H b = none → L2.cut H x b = none := fun b e => by unfold L2.cut; split <;> first | rfl | exact e
  refine ⟨I.ok, I.os, I.bare, ⟨I.base.keep, I.base.slot, fun b ob e n hb => le b (I.base.free b ob e n hb), I.base.there, fun b xs e => ?_, fun b ob u e => ?_, fun b ps e => ?_⟩, I.loc, I.cell, le _ I.free, fun y c e => le c (I.freeC y c e), fun p hp => ?_, fun b u e => ?_, I.len⟩
  · have z := I.base.tups b xs e
    rw [cut_ne (ne _ _ (fun _ q => by cases q) z)]
    exact z
  · have z := I.base.frzs b ob u e
    rw [cut_ne (ne _ _ (fun _ q => by cases q) z)]
    exact z
  · obtain ⟨m, z⟩ := I.base.tbls b ps e
    exact ⟨m, by rw [cut_ne (ne _ _ (fun _ q => by cases q) z)]; exact z⟩
  · obtain ⟨a1, a2, a3⟩ := I.pin p hp
    exact ⟨a1, le _ a2, a3⟩
  · by_cases eb : b = x
    · subst eb
      rw [cut_same] at e
      cases e
    · rw [cut_ne eb] at e
      refine (I.hok b u e).stay (fun _ _ _ q => q) (fun c q => ?_) fun c xs q => ?_
      · rw [cut_ne (ne _ _ (fun _ q => by cases q) q)]; exact q
      · rw [cut_ne (ne _ _ (fun _ q => by cases q) q)]; exact q
end
section
variable {P : Program} {w : World} {K : PySem.W.Frag} {mg : Str → Option Value} {base : Heap}
/-- the class of an exception with an __init__ -/
structure MkX (K : PySem.W.Frag) (C fI : Addr) : Prop where
  ex : excInI K C bmVE "ValueError.__new__" = true
  init : PySem.W.findIn K (.ref C) "__init__" = some (some (.ref fI))
  fn : PySem.W.typeIn K (.ref fI) = some (.type "function")
theorem ps_raiseI {N : List Str} {qual : Str} {scope : Scope} {f : Addr} {cd : Value} {A : Around} {outer : List Env} {s : Shared} {H : Hp} {E : XK} {c : Str} {C fI : Addr} {k : Nat} {fd : FuncData} {ps : List Str} {sp : Sp} {e₀ : Expr} {es : List Expr} {np cpos pos : Pos} {ta : TA}
    (M : MkX K C fI) (F : FnOk P w K mg base CX0 k fI fd ps sp) (hr : Room (k + 1) (A.deeper (envOfC qual scope s.heap.objs.size f cd))) (hb : Binds K fd ps [])
    (hg : Gl (cxOf (CX1 P w) P w K mg base N qual scope f cd A outer s H E) c) (hm : mg c = some (.ref C)) (ha : PA (cxOf (CX1 P w) P w K mg base N qual scope f cd A outer s H E) (e₀ :: es) ta)
    (hd : (c == ("__debug__" : Str)) = false := by decide) (he : starEach (e₀ :: es) (envOfC qual scope s.heap.objs.size f cd) = (false, eval e₀ (envOfC qual scope s.heap.objs.size f cd)) :: starEach es (envOfC qual scope s.heap.objs.size f cd) := by rfl)
    (hpl : (backTo cpos (starEach es (envOfC qual scope s.heap.objs.size f cd))).any (·.1) = false := by rfl) :
    PS (cxOf (CX1 P w) P w K mg base N qual scope f cd A outer s H E) (.Raise (some (.Call (.Name c np) (e₀ :: es) [] cpos)) none pos)
      (fun _ σ H => ta σ H fun vs H1 => vs.length ≤ sizeLine ∧ ∀ e, H1 e = none → sp (.ref e :: vs) (upd H1 e (.ext (excRaw e C none))) (fun v H2 => v = .non ∧ ∃ d, H2 e = some (.ext (excRaw e C d)) ∧ E (.ref C) d (cut H2 e)) E0) := by
  intro pins s1 σ H1 D I h
  refine exc_Raise (K := K) M.ex M.init M.fn (I.ok.hd rfl) ?_ (ld_glob I hg hm ⟨rfl, ?_⟩ hd)
  · show (backTo cpos (starEach (e₀ :: es) (envOfC qual scope s.heap.objs.size f cd))).any (·.1) = false
    rw [he]
    show (false || (backTo cpos (starEach es (envOfC qual scope s.heap.objs.size f cd))).any (·.1)) = false
    rw [hpl]
    rfl
  · have h2 := ha cpos pins s1 σ H1 _ I h
    show wpAny _ _ (evalArgs (.ref C) true (backTo cpos (starEach (e₀ :: es) (envOfC qual scope s.heap.objs.size f cd))) []) _ _ _
    rw [show starEach (e₀ :: es) (cxOf (CX1 P w) P w K mg base N qual scope f cd A outer s H E).env = _ from he] at h2
    rw [he]
    refine Calls.evalArgs_plain (wpAny_mono h2 (fun us s2 ⟨vs, H2, I2, rv, hl, hw⟩ => ⟨rfl, ?_, I2.kIn, ?_⟩) fun _ _ z => z)
    · show us.length ≤ sizeLine
      rw [← rv.length]
      exact hl
    have hn : H2 (s2.heap.objs.size + 1) = none := I2.hok.fresh (Nat.le_succ _)
    have hq := hw _ hn
    have I3 := I2.laid (a := s2.heap.objs.size + 1) (o := .ext (excRaw (s2.heap.objs.size + 1) C none)) (h' := madeHp s2.heap C us) (t' := s2.toks) made_keeps (Nat.le_succ _) (excRaw_ok ⟨_, made_at⟩)
    have r2 : Vals (V.ref (s2.heap.objs.size + 1) :: vs) (Value.ref (s2.heap.objs.size + 1) :: us) := .cons rfl rv
    have hlen : (Value.ref (s2.heap.objs.size + 1) :: us ++ []).length = ps.length := by
      rw [List.append_nil, ← r2.length]
      exact F.len _ _ _ _ hq
    have bd := hb { s2 with heap := madeHp s2.heap C us, toks := s2.toks } (Value.ref (s2.heap.objs.size + 1) :: us) I3.kIn hlen
    rw [List.append_nil] at bd
    refine wpAny_call (codeAny_mono (F.run _ _ _ _ ⟨Value.ref (s2.heap.objs.size + 1) :: us, []⟩ _ _ _ _ (hr.make C us []) (I3.env0.make C us []) bd r2 hq) fun r s' hq' => ?_)
    cases r with
    | error e => exact False.elim hq'
    | ok fl =>
      cases fl with
      | ret u =>
        obtain ⟨v, H3, I4, rv4, ev, dd, hx4, hE⟩ := I3.after hq'
        subst ev
        obtain ⟨⟨tt, p4⟩, _, _⟩ := (show ObjOk P w H3 s'.heap _ (.ext (excRaw _ C dd)) from I4.hok _ _ hx4)
        refine ⟨rv4, I4.kIn, ⟨dd, tt, p4⟩, ?_⟩
        exact Fly.first (I4.cut hx4) rfl rfl rfl p4 rfl rfl rfl rfl (Heap.get?_none_of_le (Nat.le_trans I2.sz (Nat.le_succ _))) cut_same fun s'' g gd => ⟨_, .ref C, dd, _, rfl, g, gd, hE⟩
      | next => exact False.elim hq'
      | brk => exact False.elim hq'
      | cont => exact False.elim hq'
end
end L2

namespace L2
open PySem PySem.Spec PyProof.Rows Builtin Builtin.ObjectAttr
/-! ### attributes of an exception: stored by its own __init__, read behind a handler -/
def refPass (l : List Value) : Bool := l.dropWhile (fun | .ref _ => true | _ => false) == bmVE
theorem refuse_exc (self : Value) : ∀ {l : List Value}, refPass l = true → refuseLoop self "__setattr__" l = pure ()
  | [], e => by cases e
  | v :: r, e => by
    cases v with
    | ref c => rw [refuseLoop_ref]; exact refuse_exc self e
    | type n => rw [beq_iff_eq.mp (show (Value.type n :: r == bmVE) = true from e)]; exact PySem.F.store_ValueError.passes self
    | _ => cases e
/-- what the class of an exception with attributes must have -/
structure ExcSet (K : PySem.W.Frag) (C : Addr) : Prop where
  sa : PySem.W.findIn K (.ref C) "__setattr__" = some (some (.builtin "object.__setattr__"))
  po : (PySem.W.clsIn K C).any (fun cd => refPass cd.mro) = true
  hd : PySem.W.hasDictIn K C = true
  ob : PySem.W.mroIn K C (.type "object") = some true
section
variable {prog : Program} {w : World} {A : Around} {E : Value → Shared → Prop} {s : Shared} {K : PySem.W.Frag} {x C : Addr} {name : Str} {v : Value}
theorem osa_exc {ox : Obj} {od : Option Obj} {tk0 : Tok} {R : Result → Shared → Prop} (X : K.In s.heap) (I : PySem.W.InstAt s.heap x ox C od) (c : ExcSet K C) (ht : PySem.W.takerIn K C name = some none)
    (h : ∀ b, wpAny (model prog w) A.in1 (storeInOwnDict (.ref x) (.ref C) (.str name tk0) name v b)
      (fun fx s' => match fx with | .done f => R (.ok f) s' | .again c' => c'.quiet = true ∧ codeAny (model prog w) A c' R s') (fun e s' => R (.error e) s') s) :
    codeAny (model prog w) A (.call (.builtin "object.__setattr__") ⟨[.ref x, .str name tk0, v], []⟩) R s := by
  have S := PySem.F.store_object
  obtain ⟨cd, hc, ho⟩ := PySem.W.any_some c.po
  have isO : PySem.W.Looks (model prog w) s.heap (isInstance (.ref x) (.type "object")) true := I.type.andThen (PySem.W.looks_mroIn X c.ob)
  have mr : PySem.W.Looks (model prog w) s.heap (mroOf (.ref C)) cd.mro := (PySem.W.looks_clsIn X hc).andThen .now
  refine codeAny_call_builtin S.slot.plain S.entry (@PySem.W.check_slot (model prog w) _ _ s "object.__setattr__" "object" "__setattr__" (.ref x) [.str name tk0, v] [] _ S.kind S.split isO (S.args (.ref x) (.str name tk0) v) ?_)
  obtain ⟨at0, ha, hr⟩ := Option.bind_eq_some_iff.mp ht
  have tk3 : PySem.W.Looks (model prog w) s.heap (storeTaker? at0) none := by
    cases at0 with
    | none => exact .now
    | some a =>
      obtain ⟨b, hb, hn⟩ := Option.map_eq_some_iff.mp hr
      refine (PySem.W.looks_takesIn X hb).andThen ?_
      cases b with
      | true => cases hn
      | false => exact .now
  rw [PySem.W.osa_eq, refuse_eq]
  refine wpAny_bind (wpAny_bind (I.type.here (wpAny_bind (mr.here ?_))))
  rw [refuse_exc _ ho]
  exact wpAny_pure (wpAny_bind (I.type.here (wpAny_bind ((PySem.W.looks_findIn X ha).here (wpAny_bind (tk3.here (h _)))))))
/-- the dict of an exception, its attributes -/
def xdAt (dx : Addr) (fs : List (Str × V)) (h : Heap) : Prop := ∃ mA, h.Ns1 dx mA ∧ (∀ f, RelO (fs.lookup f) (mA f)) ∧ PySem.Within mA (fs.map (·.1))
theorem set_exc0 {t : Addr} {Q : Unit → Shared → Prop} (X : K.In s.heap) (c : ExcSet K C) (ht : PySem.W.takerIn K C name = some none) (hx : s.heap.get? x = some (rawExc C none t))
    (h : ∀ h', h'.get? x = some (rawExc C (some s.heap.objs.size) t) → h'.Ns1 s.heap.objs.size (fun y => if y = name then some v else none) → (∀ b o, b ≠ x → s.heap.get? b = some o → h'.get? b = some o) → Q () { s with heap := h', toks := s.toks + 2 }) :
    wpAny (model prog w) A (setAttr (.ref x) name v) Q E s := by
  have J : PySem.W.InstAt s.heap x (rawExc C none t) C none := ⟨hx, rfl, rfl, True.intro⟩
  obtain ⟨cd, hc, hd⟩ := PySem.W.any_some c.hd
  refine PySem.W.set_plain X J c.sa (osa_exc (s := { s with toks := s.toks + 1 }) X J c ht fun b => ?_)
  obtain ⟨hh, gs, dr, tt, oss⟩ := s
  dsimp only at hx X h ⊢
  refine wpAny_bind (wpAny_pure (wpAny_bind (wpAny_bind (wpAny_loadPart hx (wpAny_bind ((PySem.W.looks_clsIn X hc).at ?_))))))
  rw [hd]
  have hx1 : (hh.push { cls := .type "dict", data := .dict #[] }).get? x = some (rawExc C none t) := Heap.get?_push_of_some _ hx
  have nx : x ≠ hh.objs.size := Nat.ne_of_lt (Heap.lt_size hx)
  refine wpAny_bind (wpAny_alloc' (wpAny_bind (wpAny_update' hx1 (wpAny_pure ?_))))
  have e1 : ((hh.push { cls := .type "dict", data := .dict #[] }).update x fun o => { cls := o.cls, dict := some hh.objs.size, data := o.data, slots := o.slots }).get? hh.objs.size = some { cls := .type "dict", data := .dict #[] } :=
    (Heap.get?_update_ne _ _ _ _ nx.symm).trans (Heap.get?_push_at rfl rfl)
  have e2 : ((hh.push { cls := .type "dict", data := .dict #[] }).update x fun o => { cls := o.cls, dict := some hh.objs.size, data := o.data, slots := o.slots }).Ns hh.objs.size (fun _ => none) :=
    ⟨_, #[], _, e1, rfl, fun e he => absurd he (by simp), fun _ => rfl⟩
  refine wpAny_bind (wpAny_pure (wpAny_bind (wpAny_nsSet1 (Heap.Ns1.of_empty e2) fun h' hn' hs => ?_)))
  obtain ⟨oD, esD, epD, hoD, hdD, hcD⟩ := hn'.count (PySem.Within.cons name v PySem.Within.nil)
  refine wpAny_bind (wpAny_lookBehind hoD (by rw [hdD]; exact pastItsLine_dict (Nat.le_trans hcD (by rw [List.length_cons, List.length_nil, sizeLine_eq]; omega))) (wpAny_pure ?_))
  exact h h' ((hs.2 x nx).trans (Heap.get?_update_self _ hx1 rfl)) hn' fun b o hb e => (hs.2 b (Nat.ne_of_lt (Heap.lt_size e))).trans ((Heap.get?_update_ne _ _ _ _ hb).trans (Heap.get?_push_of_some _ e))
theorem set_exc1 {t dx : Addr} {mA : Str → Option Value} {ns : List Str} {Q : Unit → Shared → Prop} (X : K.In s.heap) (c : ExcSet K C) (ht : PySem.W.takerIn K C name = some none) (hx : s.heap.get? x = some (rawExc C (some dx) t)) (hn : s.heap.Ns1 dx mA)
    (hw : PySem.Within mA ns) (hsz : ns.length ≤ sizeLine) (h : ∀ h', h'.Ns1 dx (fun y => if y = name then some v else mA y) → Heap.SameBut dx s.heap h' → Q () { s with heap := h', toks := s.toks + 2 }) :
    wpAny (model prog w) A (setAttr (.ref x) name v) Q E s := by
  have hdx : ∃ od, s.heap.get? dx = some od := let ⟨o, _, _, e, _⟩ := hn; ⟨o, e⟩
  obtain ⟨od, hod⟩ := hdx
  have J : PySem.W.InstAt s.heap x (rawExc C (some dx) t) C (some od) := ⟨hx, rfl, rfl, hod⟩
  obtain ⟨cd, hc, hd⟩ := PySem.W.any_some c.hd
  refine PySem.W.set_plain X J c.sa (osa_exc (s := { s with toks := s.toks + 1 }) X J c ht fun b => ?_)
  obtain ⟨hh, gs, dr, tt, oss⟩ := s
  dsimp only at hx X h hn ⊢
  refine wpAny_bind (wpAny_pure (wpAny_bind (wpAny_bind (wpAny_loadPart hx (wpAny_bind ((PySem.W.looks_clsIn X hc).at ?_))))))
  rw [hd]
  refine wpAny_pure (a := some dx) (wpAny_bind (wpAny_pure (wpAny_bind (wpAny_nsSet1 hn fun h' hn' hs => ?_))))
  obtain ⟨oD, esD, epD, hoD, hdD, hcD⟩ := hn'.count (PySem.Within.cons name v hw)
  exact wpAny_bind (wpAny_lookBehind hoD (by rw [hdD]; exact pastItsLine_dict (Nat.le_trans hcD (by rw [List.length_cons]; omega))) (wpAny_pure (h h' hn' hs)))
end
theorem xdAt_ok {P : Program} {w : World} {H : Hp} {h : Heap} {dx : Addr} {fs : List (Str × V)} (p : xdAt dx fs h) : ObjOk P w H h dx (.ext (xdAt dx fs)) := by
  refine ⟨p, ?_, fun h1 h2 q k => ?_⟩
  · obtain ⟨_, ⟨o, _, _, e, _⟩, _⟩ := p
    exact ⟨o, e⟩
  · obtain ⟨mA, ⟨o, es, ep, e, r⟩, z⟩ := q
    exact ⟨mA, ⟨o, es, ep, k o e, r⟩, z⟩
section
variable {X : Cx} {pins : List (Addr × Obj)} {σ : St} {H H0 : Hp} {s s0 : Shared} {dx : Addr}
/-- what was made since an earlier state is tracked from here on -/
theorem Inv.trackNew {o : HO} (I0 : Inv X pins σ H0 s0) (I : Inv X pins σ H s) (hd : s0.heap.objs.size ≤ dx) (hx : H dx = none) (ho : ObjOk X.prog X.w (upd H dx o) s.heap dx o) : Inv X pins σ (upd H dx o) s := by
  have ne : ∀ b ob, s0.heap.get? b = some ob → b ≠ dx := fun b ob e => Nat.ne_of_lt (Nat.lt_of_lt_of_le (Heap.lt_size e) hd)
  refine I.track (Heap.get?_none_of_le (Nat.le_trans I0.sz hd)) (Nat.ne_of_lt (Nat.lt_of_lt_of_le I0.lt hd)).symm (fun y c e => ?_) (fun p hp => ne _ _ (I0.pin p hp).1) hx ho
  obtain ⟨v, ob, h1, _⟩ := I0.cell y c e
  exact ne _ _ h1
end
section
variable {X : Cx} {o value : Expr} {f : Str} {pos pos' : Pos} {ta tv : TE}
/-- the first attribute of an exception that is being made -/
theorem ps_xfld0 (ha : PE X o ta) (hv : PE X value tv) (hs : swapsWith value (some (.Attribute o f pos')) pos.line X.env = pure false) : PS X (.Assign [.Attribute o f pos'] value pos)
    (fun D σ H => tv σ H fun y H1 => ta σ H1 fun x H2 => ∃ e C, x = .ref e ∧ ExcSet X.K C ∧ PySem.W.takerIn X.K C f = some none ∧ H2 e = some (.ext (excRaw e C none)) ∧ ∀ dx, H2 dx = none → D.nx σ (upd (upd H2 e (.ext (excRaw e C (some dx)))) dx (.ext (xdAt dx [(f, y)])))) := by
  intro pins s σ H D I h
  refine plainObj_wpAny_Assign_Attribute (thn (hv pins s σ H _ I h) fun u s1 ⟨y, H1, I1, ry, q⟩ => thn (ha pins s1 σ H1 _ I1 q) fun ov s2 ⟨x, H2, I2, rx, e, C, ex, c, ht, he, q2⟩ => ?_) hs
  subst ex
  obtain rfl : ov = Value.ref e := rx
  obtain ⟨⟨t, p⟩, _, _⟩ := (show ObjOk X.prog X.w H2 s2.heap e (.ext (excRaw e C none)) from I2.hok e _ he)
  refine set_exc0 I2.kIn c ht p fun h' p' n' k' => ?_
  have hn : H2 s2.heap.objs.size = none := I2.hok.fresh (Nat.le_refl _)
  have ne : s2.heap.objs.size ≠ e := (ne_of_none he hn).symm
  have I3 := I2.write (x := e) (e := e) (o := .ext (excRaw e C (some s2.heap.objs.size))) (h' := h') (t' := s2.toks + 2) (by rw [he]; exact True.intro) (.inl rfl) (fun b ob hb z => k' b ob hb z) ⟨_, p'⟩ (excRaw_ok ⟨t, p'⟩)
  refine ⟨σ, _, I2.trackNew I3 (Nat.le_refl _) (by rw [upd_ne ne]; exact hn) (xdAt_ok ⟨_, n', fun g => ?_, fun g hg => ?_⟩), q2 _ hn⟩
  · show RelO (List.lookup g [(f, y)]) (if g = f then some u else none)
    by_cases z : g = f
    · subst z
      rw [if_pos rfl]
      show RelO (match g == g with | true => some y | false => none) (some u)
      rw [beq_self_eq_true]
      exact ry
    · rw [if_neg z]
      show RelO (match g == f with | true => some y | false => none) none
      rw [beq_false_of_ne z]
      exact True.intro
  · by_cases z : g = f
    · subst z
      exact .head _
    · exact absurd (show (if g = f then some u else none) = none by rw [if_neg z]) hg
/-- a further one -/
theorem ps_xfld1 (ha : PE X o ta) (hv : PE X value tv) (hs : swapsWith value (some (.Attribute o f pos')) pos.line X.env = pure false) : PS X (.Assign [.Attribute o f pos'] value pos)
    (fun D σ H => tv σ H fun y H1 => ta σ H1 fun x H2 => ∃ e C dx fs, x = .ref e ∧ ExcSet X.K C ∧ PySem.W.takerIn X.K C f = some none ∧ H2 e = some (.ext (excRaw e C (some dx))) ∧ H2 dx = some (.ext (xdAt dx fs)) ∧ fs.length < 1000 ∧ D.nx σ (upd H2 dx (.ext (xdAt dx (putF f y fs))))) := by
  intro pins s σ H D I h
  refine plainObj_wpAny_Assign_Attribute (thn (hv pins s σ H _ I h) fun u s1 ⟨y, H1, I1, ry, q⟩ => thn (ha pins s1 σ H1 _ I1 q) fun ov s2 ⟨x, H2, I2, rx, e, C, dx, fs, ex, c, ht, he, hdx, hl, q2⟩ => ?_) hs
  subst ex
  obtain rfl : ov = Value.ref e := rx
  obtain ⟨⟨t, p⟩, _, _⟩ := (show ObjOk X.prog X.w H2 s2.heap e (.ext (excRaw e C (some dx))) from I2.hok e _ he)
  obtain ⟨⟨mA, n, r, wi⟩, _, _⟩ := (show ObjOk X.prog X.w H2 s2.heap dx (.ext (xdAt dx fs)) from I2.hok dx _ hdx)
  have hz : (fs.map (·.1)).length ≤ sizeLine := by rw [List.length_map, sizeLine_eq]; omega
  refine set_exc1 I2.kIn c ht p n wi hz fun h' n' sb => ?_
  refine ⟨σ, _, I2.write (x := dx) (e := dx) (o := .ext (xdAt dx (putF f y fs))) (h' := h') (t' := s2.toks + 2) (by rw [hdx]; exact True.intro) (.inl rfl) (fun b ob hb z => (sb.2 b hb).trans z) (let ⟨o, _, _, e, _⟩ := n'; ⟨o, e⟩) (xdAt_ok ⟨_, n', fun g => ?_, fun g hg => ?_⟩), q2⟩
  · show RelO ((putF f y fs).lookup g) (if g = f then some u else mA g)
    rw [lookup_putF]
    by_cases z : g = f
    · rw [if_pos z, if_pos z]; exact ry
    · rw [if_neg z, if_neg z]; exact r g
  · by_cases z : g = f
    · rw [z]; exact (keys_putF f y fs).1
    · refine (keys_putF f y fs).2 g (wi g fun zz => hg ?_)
      show (if g = f then some u else mA g) = none
      rw [if_neg z]
      exact zz
end
end L2

namespace L2
open PySem PySem.Spec PyProof.Rows Builtin Builtin.ObjectAttr
/-! ### C.__init__(self, ..) of a built-in base; an attribute of an exception read -/
/-- the own class R, whose __init__ is ValueError's, as it is asked by its name -/
structure BaseI (K : PySem.W.Frag) (R : Addr) : Prop where
  ga : PySem.W.specialIn K (.ref R) "__getattribute__" = some (some (.builtin "type.__getattribute__"))
  rd : PySem.W.readsIn K R (.type "type") = true
  fi : PySem.W.findCls K (.ref R) (.type "type") "__init__" = some (.val (.builtin "ValueError.__init__"))
theorem upd_id {H : Hp} {a : Addr} {o : HO} (h : H a = some o) : upd H a o = H := by
  funext b
  unfold upd
  split
  · next e => rw [e, h]
  · rfl
section
variable {X : Cx}
theorem init_run {pins : List (Addr × Obj)} {σ : St} {H : Hp} {s : Shared} {e C : Addr} {d : Option Addr} {us : List Value} {Q : Value → Shared → Prop} (I : Inv X pins σ H s) (hx : excInI X.K C bmVE "ValueError.__new__" = true) (he : H e = some (.ext (excRaw e C d))) (hl : us.length ≤ sizeLine)
    (h : ∀ s', Inv X pins σ H s' → Q .none s') : wpAny (model X.prog X.w) X.A (call (.builtin "ValueError.__init__") (.ref e :: us)) Q X.xe s := by
  have F := PySem.F.excBase_ValueError
  obtain ⟨⟨t, p⟩, _, _⟩ := (show ObjOk X.prog X.w H s.heap e (.ext (excRaw e C d)) from I.hok e _ he)
  obtain ⟨bm, N, nm, qq, bs, hdct, sn, sub, ab, col, dd, k0, k1, k2, k3, k5, hCl, T⟩ := (excI_of I.kIn hx).obj
  have fin : ∀ h' tk, h'.get? e = some (rawExc C d s.heap.objs.size) → (∀ b o, b ≠ e → s.heap.get? b = some o → h'.get? b = some o) → Q .none { s with heap := h', toks := tk } := fun h' tk p' k' => by
    have I3 := I.write (x := e) (e := e) (o := .ext (excRaw e C d)) (h' := h') (t' := tk) (by rw [he]; exact True.intro) (.inl rfl) (fun b ob hb z => k' b ob hb z) ⟨_, p'⟩ (excRaw_ok ⟨_, p'⟩)
    rw [upd_id he] at I3
    exact h _ I3
  obtain ⟨hh, g, dr, tt, os⟩ := s
  dsimp only at p hCl fin
  refine wpAny_call (codeAny_call_builtin F.init.plain F.initEntry (wpAny_check_init_subU F T hCl p rfl ?_))
  have p1 : (hh.push { cls := .type "tuple", data := .seq us.toArray }).get? e = some (rawExc C d t) := Heap.get?_push_of_some _ p
  wp_walk
  refine fin _ _ ?_ fun b o hb z => ?_
  · rw [Heap.get?_update_self _ p1 rfl]
    rfl
  · rw [Heap.get?_update_other _ _ (Ne.symm hb)]
    exact Heap.get?_push_of_some _ z
theorem pe_baseInit {c : Str} {R : Addr} {p apos pos : Pos} {e₀ : Expr} {es : List Expr} {t : TA} {pl : Sem Bool} (b : BaseI X.K R) (hg : Gl X c) (hm : X.mg c = some (.ref R)) (ha : PA X (e₀ :: es) t)
    (ht : eval (.Call (.Attribute (.Name c p) "__init__" apos) (e₀ :: es) [] pos) X.env = (do
      let ov ← eval (.Name c p) X.env
      standAt apos.atName
      let (f, first) ← holding [ov] (getMethod ov "__init__" pl)
      callWith pos f first (backTo pos (starEach (e₀ :: es) X.env)) (backToKw pos (keywordEach [] X.env))))
    (hd : (c == ("__debug__" : Str)) = false := by decide) (he : starEach (e₀ :: es) X.env = (false, eval e₀ X.env) :: starEach es X.env := by rfl) (hpl : (backTo pos (starEach es X.env)).any (·.1) = false := by rfl) :
    PE X (.Call (.Attribute (.Name c p) "__init__" apos) (e₀ :: es) [] pos) (fun σ H Q => t σ H fun vs H1 => ∃ e C d rest, vs = .ref e :: rest ∧ excInI X.K C bmVE "ValueError.__new__" = true ∧ H1 e = some (.ext (excRaw e C d)) ∧ rest.length ≤ sizeLine ∧ Q .non H1) := by
  intro pins s σ H Q I h
  refine PySem.W.methodCall_KW (pl := pl) (ld_glob I hg hm (PySem.W.method_cls I.kIn b.ga (PySem.W.cls_value I.kIn b.rd b.fi rfl ?_)) hd) ht
  have hA := ha pos pins { s with toks := s.toks + 1 } σ H _ (I.tok _) h
  rw [he] at hA ⊢
  refine Calls.callWith_builtin (by show (false || (backTo pos (starEach es X.env)).any (·.1)) = false; rw [hpl] <;> rfl) (Calls.evalArgs_plain ?_)
  refine thn hA fun us s2 ⟨vs, H2, I2, r2, e, C, d, rest, ev, hx, hq, hl, q2⟩ => ?_
  subst ev
  cases r2 with
  | cons r1 rr =>
    obtain rfl : _ = Value.ref e := r1
    exact init_run I2 hx hq (by rw [← rr.length]; exact hl) fun s' I3 => ⟨.non, H2, I3, rfl, q2⟩
end
section
variable {prog : Program} {w : World} {A : Around} {E : Value → Shared → Prop} {s : Shared} {K : PySem.W.Frag} {x D : Addr} {name : Str} {v : Value}
theorem exc_gaVal {tk : Tok} {R : Result → Shared → Prop} (be : PySem.W.mroIn K D (.type "BaseException") = some true) (X : K.In s.heap) (LT : PySem.W.Looks (model prog w) s.heap (typeOf (.ref x)) (.ref D)) (LF : PySem.W.Looks (model prog w) s.heap (find (.ref x) (.ref D) name) (.value v))
    (h : R (.ok (.ret v)) s) : codeAny (model prog w) A (.call (.builtin "BaseException.__getattribute__") ⟨[.ref x, .str name tk], []⟩) R s := by
  obtain ⟨hh, gs, dr, tt, oss⟩ := s
  have LI : PySem.W.Looks (model prog w) hh (isInstance (.ref x) (.type "BaseException")) true := LT.andThen (PySem.W.looks_mroIn (M := model prog w) X be)
  have hk : builtinKind "BaseException.__getattribute__" = some Manifest.AttrKind.slot := by decide +kernel
  have hsp : splitId "BaseException.__getattribute__" = some ("BaseException", "__getattribute__") := by decide +kernel
  refine codeAny_call_builtin PySem.F.attr_ValueError.ga.plain PySem.F.entry_bexc_ga ?_
  simp only [checkBuiltinCall, hk, hsp]
  have hargs := PySem.F.args_bexc_ga (.ref x) (.str name tk)
  refine wpAny_bind (LI.at ?_)
  first
    | (rw [if_neg (by decide)]; refine wpAny_of_eq hargs ?_)
    | refine wpAny_of_eq hargs ?_
  show wpAny _ _ (Builtin.«object.__getattribute__» _) _ _ _
  exact wpAny_bind (wpAny_pure (wpAny_bind (wpAny_pure (wpAny_bind (LT.at (wpAny_bind (LF.at (wpAny_pure h))))))))
theorem exc_getAttr {b : Bool} {Q : Value → Shared → Prop} (c : ExcCls K D) (X : K.In s.heap) (LT : PySem.W.Looks (model prog w) s.heap (typeOf (.ref x)) (.ref D)) (LF : PySem.W.Looks (model prog w) s.heap (find (.ref x) (.ref D) name) (.value v)) (hv : PySem.W.handedIn v = true)
    (h : Q v { s with toks := s.toks + 1 }) : wpAny (model prog w) A (getAttr (.ref x) name b) Q E s := by
  obtain ⟨hh, gs, dr, tt, oss⟩ := s
  have LG := PySem.W.looks_findIn (M := model prog w) X c.ga
  have LH := PySem.W.looks_findIn (M := model prog w) X c.gh
  have hb := PySem.F.attr_ValueError.ga.bind (.ref x)
  refine wpAny_bind (wpAny_mkText (wpAny_holding (wpAny_bind (LT.at (wpAny_bind (LG.at ?_))))))
  show wpAny _ _ (getAttrByItsOwn (.ref x) (.str name tt) (.ref D) _ true b) _ _ _
  unfold getAttrByItsOwn hookBefore
  refine wpAny_bind (LH.at (wpAny_bind (wpAny_attempt (wpAny_holding ?_))))
  unfold callGetattribute
  rw [show (b && onTheHeap (Value.builtin "BaseException.__getattribute__")) = false from Bool.and_false b, if_neg (by decide)]
  unfold boundAndCalled
  refine wpAny_bind (wpAny_of_eq hb ?_)
  show wpAny _ _ (call (.builtin "BaseException.__getattribute__") [.ref x, .str name tt]) _ _ _
  exact wpAny_call (exc_gaVal (s := ⟨hh, gs, dr, tt + 1, oss⟩) c.be X LT LF (PySem.W.handed_on hv h))
theorem find_own {M : Model} {h : Heap} {ox od : Obj} (X : K.In h) (I : PySem.W.InstAt h x ox D (some od)) (hh : PySem.W.hasDictIn K D = true) (ha : PySem.W.findIn K (.ref D) name = some none) (hl : PySem.W.lookIn name od = some (some v)) :
    PySem.W.Looks M h (find (.ref x) (.ref D) name) (.value v) := by
  obtain ⟨cd, hc, hd⟩ := PySem.W.any_some hh
  have z1 := PySem.W.looks_findIn (M := M) X ha
  have z2 : PySem.W.Looks M h (inOwnDict name (.ref x)) (some v) := PySem.W.looks_own X I hc (by unfold PySem.W.ownOf; rw [hd]; exact hl)
  have z3 : PySem.W.Looks M h (ownThenClass (.ref x) name none none) (.value v) := z2.andThen (PySem.W.Looks.tag .now)
  have z4 : PySem.W.Looks M h (dataDescriptor? none none) none := .now
  have z5 : PySem.W.Looks M h (getOf none) none := .now
  exact z1.andThen (z5.andThen (z4.andThen z3))
end
section
variable {X : Cx} {e : Expr} {f : Str} {pos : Pos} {ta : TE}
/-- e.f of an exception that was caught -/
theorem pe_xget (he : PE X e ta) (hb : attributeBase e f X.env (eval e X.env) = eval e X.env) : PE X (.Attribute e f pos)
    (fun σ H Q => ta σ H fun x H1 => ∃ a D dx fs v, x = .ref a ∧ ExcCls X.K D ∧ PySem.W.hasDictIn X.K D = true ∧ PySem.W.findIn X.K (.ref D) f = some none ∧ H1 a = some (.ext (excAt a (.ref D) (some dx))) ∧ H1 dx = some (.ext (xdAt dx fs)) ∧ fs.lookup f = some v ∧ Q v H1) := by
  intro pins s σ H Q I h
  refine attr_of hb (thn (he pins s σ H _ I h) fun u s1 ⟨x, H1, I1, rx, a, D, dx, fs, v, ex, c, hh, hf, ha, hx, l, q⟩ => ?_)
  subst ex
  obtain rfl : u = Value.ref a := rx
  obtain ⟨p, _, _⟩ := (show ObjOk X.prog X.w H1 s1.heap a (.ext (excAt a (.ref D) (some dx))) from I1.hok a _ ha)
  obtain ⟨⟨mA, n, r, wi⟩, _, _⟩ := (show ObjOk X.prog X.w H1 s1.heap dx (.ext (xdAt dx fs)) from I1.hok dx _ hx)
  obtain ⟨od, hod, hl⟩ := lookIn_ns n
  obtain ⟨u, hu, ru⟩ := RelO.some_of (v := v) (o := mA f) (by rw [← l]; exact r f)
  have LT := excAt_ty (model X.prog X.w) s1.heap p
  obtain ⟨o, vs, h1, h2, h3, h4⟩ := p
  have J : PySem.W.InstAt s1.heap a o D (some od) := ⟨h1, h2, by unfold PySem.W.notCls; rw [h4], by rw [h3]; exact hod⟩
  exact exc_getAttr c I1.kIn LT (find_own I1.kIn J hh hf (by rw [hl, hu])) (handed_of ru) ⟨v, H1, I1.tok _, ru, q⟩
end
end L2

namespace L2
open PySem PySem.Spec PyProof.Rows
/-! ### {e!r} of data: texts, numbers, None, tuples and lists of these -/
structure Shw (d : PyData) (n m : Nat) : Prop where
  sh : d.showable = true
  nd : d.hasDict = false
  dp : d.depth ≤ m
  ln : d.shown.length ≤ n
structure Shws (ds : List PyData) (n m : Nat) : Prop where
  sh : PyData.showableAll ds = true
  nd : PyData.hasDictAll ds = false
  dp : PyData.depthAll ds ≤ m
  ln : piled (PyData.shownAll ds) ≤ n
theorem Shw.le {d : PyData} {n m n' m' : Nat} (h : Shw d n m) (hn : n ≤ n') (hm : m ≤ m') : Shw d n' m' := ⟨h.sh, h.nd, Nat.le_trans h.dp hm, Nat.le_trans h.ln hn⟩
theorem shw_non (m : Nat) : Shw .none 4 m := ⟨by simp only [PyData.showable], by simp only [PyData.hasDict], by simp only [PyData.depth]; omega, by simp only [PyData.shown]; exact Nat.le_refl 4⟩
theorem shw_str {y : Str} (h : PyData.strOk y = true) (m : Nat) : Shw (.str y) (10 * y.length + 2) m := by
  refine ⟨by simp only [PyData.showable], by simp only [PyData.hasDict], by simp only [PyData.depth]; omega, ?_⟩
  simp only [PyData.shown]
  refine StrLaws.reprText_len y fun c hc => ?_
  have h1 : y.cps.all (· < 0x110000) = true := h
  rw [Array.all_eq_true_iff_forall_mem] at h1
  have h3 : c < 0x110000 := by simpa using h1 c (by simpa using hc)
  exact Nat.lt_trans h3 (by decide)
theorem shw_int {i : Int} (h0 : 0 ≤ i) (h1 : i ≤ 10 ^ 18) (m : Nat) : Shw (.int i) 64 m := by
  have hb : i.natAbs < 10 ^ 19 := by omega
  have hb2 : i.natAbs < 2 ^ 64 := Nat.lt_of_le_of_lt (show i.natAbs ≤ 10 ^ 18 by omega) (by decide)
  refine ⟨?_, by simp only [PyData.hasDict], by simp only [PyData.depth]; omega, ?_⟩
  · simp only [PyData.showable, decide_eq_true_eq]
    rcases Nat.eq_zero_or_pos i.natAbs with z | z
    · rw [z]; decide
    · exact Nat.lt_trans ((Nat.log2_lt (by omega)).mpr hb2) (by decide)
  · simp only [PyData.shown]
    have e := int_text_length_le10 (k := 19) (by decide) hb
    show (Str.ofString (toString i)).length ≤ 64
    rw [PySem.ofString_length]
    omega
theorem shws_nil (m : Nat) : Shws [] 0 m := ⟨by simp only [PyData.showableAll], by simp only [PyData.hasDictAll], by simp only [PyData.depthAll]; omega, by simp only [PyData.shownAll]; exact Nat.le_refl 0⟩
theorem shws_cons {d : PyData} {ds : List PyData} {n n' m : Nat} (h : Shw d n m) (r : Shws ds n' m) : Shws (d :: ds) (n + 2 + n') m := by
  refine ⟨?_, ?_, ?_, ?_⟩
  · simp only [PyData.showableAll, h.sh, r.sh, Bool.and_self]
  · simp only [PyData.hasDictAll, h.nd, r.nd, Bool.or_self]
  · simp only [PyData.depthAll]
    exact Nat.max_le.mpr ⟨h.dp, r.dp⟩
  · simp only [PyData.shownAll]
    rw [piled_cons]
    have := h.ln
    have := r.ln
    omega
theorem shw_tup {ds : List PyData} {n m : Nat} (h : Shws ds n m) : Shw (.tuple ds) (n + 3) (m + 1) := by
  refine ⟨by simp only [PyData.showable]; exact h.sh, by simp only [PyData.hasDict]; exact h.nd, by simp only [PyData.depth]; exact Nat.succ_le_succ h.dp, ?_⟩
  simp only [PyData.shown]
  have hl := h.ln
  generalize PyData.shownAll ds = ts at hl
  unfold tupleText
  rw [strLen_append, strLen_append]
  have e1 : (("(" : Str)).length = 1 := rfl
  have e3 : ((if ts.length == 1 then ",)" else ")" : String) : Str).length ≤ 2 := by split <;> decide
  have e2 : (Str.join ", " ts).length ≤ piled ts := by
    by_cases z : ts = []
    · subst z; exact Nat.zero_le _
    · have := join_length_add ts z; omega
  omega
section
variable {X : Cx} {k : Nat} {pos : Pos} {e : Expr} {te : TE}
theorem pe_frD (hr : Room k X.A) (he : PE X e te) : PE X (.FormattedValue e 114 none pos) (fun σ H Q => te σ H fun v H1 => ∃ d n, Dat X.K H1 v d ∧ Shw d n 60 ∧ n ≤ 100000 ∧ ∀ z : Str, z.length ≤ 100000 → Q (.str z) H1) := by
  intro pins s σ H Q I h
  refine wpAny_FormattedValue_repr (thn (he pins s σ H _ I h) fun u s1 ⟨v, H1, I1, r, d, n, hd, sh, hn, q⟩ => ?_)
  have hl : d.shown.length ≤ 100000 := Nat.le_trans sh.ln hn
  have hz : d.shown.length ≤ sizeLine := Nat.le_trans hl (by rw [sizeLine_eq]; omega)
  have fin : ∀ h' t tk, (∀ b o, s1.heap.get? b = some o → h'.get? b = some o) → wpAny (model X.prog X.w) X.A (formatField (.str d.shown t) Str.empty) (EP X pins σ Q) X.xe { s1 with heap := h', toks := tk } := fun h' t tk hk =>
    formatField_str (fun t' tk' => ⟨.str _, H1, (I1.kept (h' := h') (t' := tk) hk).tok _, ⟨_, rfl⟩, q _ hl⟩) hz
  obtain ⟨as, ra⟩ := Dat.reads I1 hd r
  have hu := hr.units
  have ref : ∀ a, u = .ref a → wpAny (model X.prog X.w) X.A (pyReprObj u) (fun r s2 => wpAny (model X.prog X.w) X.A (formatField r Str.empty) (EP X pins σ Q) X.xe s2) X.xe s1 := fun a e => by
    subst e
    exact pyReprObj_of_reads ra sh.sh (PyData.noDict_hsm sh.nd) hr.gd (by have := sh.dp; omega) (fun _ _ z => z) (fun h' u tk hk => fin h' u tk hk) hz
  cases hd with
  | non =>
    cases r
    simp only [PyData.shown] at fin
    exact pyReprObj_none (fin s1.heap _ _ fun _ _ z => z)
  | bl b =>
    cases r
    simp only [PyData.shown] at fin
    exact pyReprObj_bool (fin s1.heap _ _ fun _ _ z => z)
  | int i =>
    obtain ⟨t, rfl⟩ := r
    have hs := sh.sh
    simp only [PyData.showable, decide_eq_true_eq] at hs
    simp only [PyData.shown] at fin
    exact pyReprObj_int hs (fin s1.heap _ _ fun _ _ z => z)
  | str x =>
    obtain ⟨t, rfl⟩ := r
    simp only [PyData.shown] at fin hz
    exact pyReprObj_str (fin s1.heap _ _ fun _ _ z => z) hz
  | tup _ _ => cases r; exact ref _ rfl
  | lst _ _ => cases r; exact ref _ rfl
end
end L2

namespace K10
open PySem L2
def top (i : Nat) : Stmt := PySem.Challenge.pw_sealhouse_k10_refusals.main.body.getD i (.Pass ⟨0, 0, 0, 0⟩)
abbrev sInit : Stmt := inClass (top 16) 0
abbrev sCell : Stmt := top 18
abbrev sWord : Stmt := top 19
abbrev sMore : Stmt := top 20
abbrev sRaise : Stmt := top 21
abbrev sClasses : Stmt := top 22
abbrev sLaw : Stmt := top 23
theorem len_app (a b : Str) : (a ++ b).length = a.length + b.length := by
  show (a.cps ++ b.cps).size = _
  rw [Array.size_append] <;> rfl
theorem small {n : Nat} (h : n ≤ 1000) : n ≤ sizeLine := Nat.le_of_lt (small1000 h)
theorem at_ex {α : Type} {xs : List α} {i : Int} (h0 : 0 ≤ i) (h1 : i < xs.length) : ∃ v, atI xs i = some v := by
  have hk : i.toNat < xs.length := by omega
  have e : i = ((i.toNat : Nat) : Int) := by omega
  have q : atI xs ((i.toNat : Nat) : Int) = some xs[i.toNat] := atI_nat (by simp)
  rw [← e] at q
  exact ⟨_, q⟩
theorem at_int {ns : List Int} {i : Int} (h0 : 0 ≤ i) (h1 : i < ns.length) : ∃ v : Int, atI (ns.map V.int) i = some (.int v) := by
  have hk : i.toNat < ns.length := by omega
  have e : i = ((i.toNat : Nat) : Int) := by omega
  have q : atI (ns.map V.int) ((i.toNat : Nat) : Int) = some (.int ns[i.toNat]) := atI_nat (by simp [hk])
  rw [← e] at q
  exact ⟨_, q⟩
theorem sok_iff (z : Str) : PyData.strOk z = true ↔ ∀ c ∈ z.cps.toList, c < 0x110000 := by
  unfold PyData.strOk
  rw [Array.all_eq_true_iff_forall_mem]
  simp
theorem sok_app {a b : Str} (ha : PyData.strOk a = true) (hb : PyData.strOk b = true) : PyData.strOk (a ++ b) = true := by
  rw [sok_iff] at ha hb ⊢
  intro c hc
  have e : (a ++ b).cps.toList = a.cps.toList ++ b.cps.toList := by
    show (a.cps ++ b.cps).toList = _
    rw [Array.toList_append]
  rw [e] at hc
  exact (List.mem_append.mp hc).elim (ha c) (hb c)
theorem mem_at {α : Type} {xs : List α} {i : Int} {g : α} (hm : atI xs i = some g) : g ∈ xs := by
  obtain ⟨j, _, h⟩ := Option.bind_eq_some_iff.mp (show ((ixN xs.length i).bind fun j => xs[j]?) = some g from hm)
  exact List.mem_of_getElem? h
theorem sok_at {z : Str} {i : Int} {g : Nat} (h : PyData.strOk z = true) (hm : atI z.cps.toList i = some g) : PyData.strOk ⟨#[g]⟩ = true := by
  rw [sok_iff] at h ⊢
  intro c hc
  have e : c = g := by simpa using hc
  rw [e]
  exact h g (mem_at hm)
theorem same_new {H : Hp} {p : Addr} (h : H p = none) (o : HO) : Same H (upd H p o) := fun b u q => by rw [upd_ne (ne_of_none q h)]; exact q
theorem same_trans {A B C : Hp} (x : Same A B) (y : Same B C) : Same A C := fun b u q => y b u (x b u q)
theorem sql_same {K : PySem.W.Frag} {H H' : Hp} {a : Addr} {xs : List V} (e : Same H H') (h : SqL K H a xs) : SqL K H' a xs := e.seq h
def spCell (K : PySem.W.Frag) : Sp := fun vs H Q _ => ∃ (a : Addr) (ns : List Int) (k : Int), vs = [.ref a, .int k] ∧ SqL K H a (ns.map V.int) ∧ ns.length ≤ 63 ∧ 0 ≤ k ∧ k ≤ 1000 ∧ ∀ c : Int, Q (.int c) H
def spWord : Sp := fun vs H Q _ => ∃ c : Int, vs = [.int c] ∧ ∀ z : Str, z.length ≤ 12 → PyData.strOk z = true → Q (.str z) H
section
variable {P : Program} {w : World} {K : PySem.W.Frag} {mg : Str → Option Value} {base : Heap}
theorem scCell : FnScope ["_law_script", "_law_k", "_law_number"] ["_law_script", "_law_k"] (defScope sCell) := ⟨rfl, rfl, rfl, by decide +kernel, rfl, by decide +kernel, by decide +kernel⟩
theorem ok_cell {f : Addr} {fd : FuncData} (F : Fun K "_law_cell" "_law_cell" sCell f fd) (ml : mg "len" = none) : FnOk P w K mg base CX0 1 f fd ["_law_script", "_law_k"] (spCell K) := by
  refine F.ok scCell (fun vs H Q E h => ?_) (fun cdv A outer s H vs Q E hr h => ?_)
  · obtain ⟨a, ns, k, rfl, _⟩ := h
    rfl
  obtain ⟨a, ns, k, rfl, hS, h63, h0, h1, q⟩ := h
  refine ⟨_, pss_cons (ps_if (pt_cmpR op_lt (pv 1) (pe_callB call_len_seq rfl ml PySem.boot_len (pa_cons (pv 0) pa_nil)) (nomark _))
      (pss_one (ps_ret (pe_op op_add (pe_op op_mul (pe_ix ix_list (pv 0) (pv 1) (fun _ _ => rfl)) pe_int) (pe_op op_mul pe_int (pv 1))))) pss_nil)
    (pss_cons (ps_set (i := 2) scCell.nd rfl (Or.inl rfl) (pe_op op_add (pe_op op_mul pe_int (pv 1)) pe_int))
    (pss_cons (ps_if (pt_cmpR op_gt (pe_callB call_len_seq rfl ml PySem.boot_len (pa_cons (pv 0) pa_nil)) pe_int (nomark _))
      (pss_one (ps_set (i := 2) scCell.nd rfl (Or.inl rfl) (pe_op op_add (pe_op op_mul (pe_op op_mod (pe_ix ix_list (pv 0) (pe_op op_mod (pv 1) (pe_callB call_len_seq rfl ml PySem.boot_len (pa_cons (pv 0) pa_nil))) (fun _ _ => rfl)) pe_int) pe_int)
        (pe_op op_mul (pe_op op_mul pe_int (pv 1)) (pv 1))))) pss_nil)
    (pss_one (ps_ret (pe_op op_mod (pv 2) pe_int))))), ?_⟩
  have hl : (ns.map V.int).length = ns.length := List.length_map _
  refine ⟨_, rfl, _, rfl, a, _, rfl, .inl hS, _, _, rfl, rfl, _, rfl, ?_⟩
  refine ite2 (fun c => ?_) (fun c => ?_)
  · have c' : k < (((ns.map V.int).length : Nat) : Int) := of_decide_eq_true c
    rw [hl] at c'
    obtain ⟨v, hv⟩ := at_int (ns := ns) h0 c'
    exact ⟨_, rfl, _, rfl, a, _, _, _, rfl, rfl, hS, hv, _, _, rfl, rfl, .inr ⟨by omega, by omega⟩, _, rfl, _, _, rfl, rfl, .inl ⟨by omega, by omega⟩, _, _, rfl, rfl, q _⟩
  · refine ⟨_, rfl, _, _, rfl, rfl, .inl ⟨by omega, by omega⟩, _, _, rfl, rfl, ?_⟩
    refine ⟨_, rfl, a, _, rfl, .inl hS, _, _, rfl, rfl, _, rfl, ?_⟩
    refine ite2 (fun d => ?_) (fun d => ?_)
    · have d' : 0 < (((ns.map V.int).length : Nat) : Int) := of_decide_eq_true d
      rw [hl] at d'
      obtain ⟨v, hv⟩ := at_int (ns := ns) (i := k % (((ns.map V.int).length : Nat) : Int)) (by rw [hl]; exact Int.emod_nonneg _ (by omega)) (by rw [hl]; exact Int.emod_lt_of_pos _ d')
      refine ⟨_, rfl, _, rfl, _, rfl, a, _, rfl, .inl hS, _, _, rfl, rfl, (by rw [hl]; exact d'), a, _, _, _, rfl, rfl, hS, hv, _, _, rfl, rfl, (by show (0 : Int) < 1000003; decide), _, _, rfl, rfl, .inr ⟨by omega, by omega⟩, ?_⟩
      refine ⟨_, rfl, _, _, rfl, rfl, .inl ⟨by omega, by omega⟩, _, rfl, _, _, rfl, rfl, .inr ⟨by omega, by omega⟩, _, _, rfl, rfl, ?_⟩
      exact ⟨_, rfl, _, _, rfl, rfl, (by show (0 : Int) < 2147483647; decide), q _⟩
    · exact ⟨_, rfl, _, _, rfl, rfl, (by show (0 : Int) < 2147483647; decide), q _⟩
theorem scWord : FnScope ["_law_cell_here", "_law_word_here", "_law_k"] ["_law_cell_here"] (defScope sWord) := ⟨rfl, rfl, rfl, by decide +kernel, rfl, by decide +kernel, by decide +kernel⟩
theorem ok_word {f : Addr} {fd : FuncData} (F : Fun K "_law_word" "_law_word" sWord f fd) (mr : mg "range" = none) : FnOk P w K mg base CX0 1 f fd ["_law_cell_here"] spWord := by
  refine F.ok scWord (fun vs H Q E h => ?_) (fun cdv A outer s H vs Q E hr h => ?_)
  · obtain ⟨c, rfl, _⟩ := h
    rfl
  obtain ⟨c, rfl, q⟩ := h
  refine ⟨_, pss_cons (ps_set (i := 1) scWord.nd rfl (Or.inl rfl) pe_str)
    (pss_cons (ps_for PassesOwn.never rfl (pi_range1 rfl mr (pa_cons (pe_op op_mod (pv 0) pe_int) pa_nil)) (pg_name (i := 2) scWord.nd rfl (Or.inl rfl))
      (pss_one (ps_set (i := 1) scWord.nd rfl (Or.inl rfl) (pe_op op_add_str (pv 1) (pe_ix ix_str pe_str (pe_op op_mod (pe_op op_add (pe_op op_fdiv (pv 0) pe_int) (pe_op op_mul pe_int (pv 2))) pe_int) (fun _ _ => rfl))))))
    (pss_one (ps_ret (pv 1)))), ?_⟩
  have b0 : 0 ≤ c % 13 := Int.emod_nonneg _ (by decide)
  have b1 : c % 13 < 13 := Int.emod_lt_of_pos _ (by decide)
  have oL : PyData.strOk (Str.ofString "abcdefghijklmnopqrstuvwxyz") = true := by decide +kernel
  refine ⟨_, rfl, _, _, rfl, rfl, (by show (0 : Int) < 13; decide), _, rfl, by omega, by omega, for_range (fun i σ H2 => ∃ (z : Str) (v : Option V), σ = [some (.int c), some (.str z), v] ∧ H2 = H ∧ z.length = i ∧ PyData.strOk z = true) ⟨_, _, rfl, rfl, rfl, by decide +kernel⟩ ?_ ?_⟩
  · rintro i σ H2 hi ⟨z, v, rfl, rfl, hz, oz⟩
    refine ⟨_, rfl, _, rfl, _, _, rfl, rfl, ⟨by decide, by decide⟩, _, rfl, _, _, rfl, rfl, .inl ⟨by decide, by decide⟩, _, _, rfl, rfl, _, _, rfl, rfl, (by show (0 : Int) < 26; decide), ?_⟩
    obtain ⟨g, hg⟩ := at_ex (xs := (Str.ofString "abcdefghijklmnopqrstuvwxyz").cps.toList) (i := (c / 13 + 3 * (0 + (i : Int))) % 26) (Int.emod_nonneg _ (by decide)) (Int.lt_of_lt_of_le (Int.emod_lt_of_pos _ (by decide)) (by decide +kernel))
    refine ⟨_, _, _, rfl, rfl, (by decide +kernel), hg, _, _, rfl, rfl, ?_, z ++ ⟨#[g]⟩, _, rfl, rfl, ?_, sok_app oz (sok_at oL hg)⟩
    · exact small (show z.length + 1 ≤ 1000 by omega)
    · rw [len_app]; show z.length + 1 = i + 1; omega
  · rintro σ H2 ⟨z, v, rfl, rfl, hz, oz⟩
    exact ⟨_, rfl, q z (by omega) oz⟩
end
end K10

namespace K10
open PySem L2
/-! NoFit's own __init__ -/
def Fits (K : PySem.W.Frag) (H : Hp) (x : V) : Prop := ∃ d n, Dat K H x d ∧ Shw d n 60 ∧ n ≤ 90000
theorem Fits.same {K : PySem.W.Frag} {H H' : Hp} {x : V} (s : Same H H') (h : Fits K H x) : Fits K H' x := let ⟨d, n, a, b⟩ := h; ⟨d, n, a.same s, b⟩
def nfs (p n u f : V) : List (Str × V) := putF "found" f (putF "due" u (putF "name" n [("part", p)]))
theorem nfs_part (p n u f : V) : (nfs p n u f).lookup (Str.ofString "part") = some p := by
  unfold nfs
  rw [lookup_putF, if_neg (by decide +kernel), lookup_putF, if_neg (by decide +kernel), lookup_putF, if_neg (by decide +kernel)]
  rfl
theorem nfs_name (p n u f : V) : (nfs p n u f).lookup (Str.ofString "name") = some n := by
  unfold nfs
  rw [lookup_putF, if_neg (by decide +kernel), lookup_putF, if_neg (by decide +kernel), lookup_putF, if_pos rfl]
theorem nfs_due (p n u f : V) : (nfs p n u f).lookup (Str.ofString "due") = some u := by
  unfold nfs
  rw [lookup_putF, if_neg (by decide +kernel), lookup_putF, if_pos rfl]
theorem nfs_found (p n u f : V) : (nfs p n u f).lookup (Str.ofString "found") = some f := by
  unfold nfs
  rw [lookup_putF, if_pos rfl]
def spInit (K : PySem.W.Frag) (C : Addr) : Sp := fun vs H Q _ => ∃ (e : Addr) (p n u f : V), vs = [.ref e, p, n, u, f] ∧ H e = some (.ext (excRaw e C none)) ∧ Fits K H p ∧ Fits K H n ∧ Fits K H u ∧ Fits K H f ∧
  ∀ dx H', dx ≠ e → (∀ b o, b ≠ e → H b = some o → H' b = some o) → H' e = some (.ext (excRaw e C (some dx))) → H' dx = some (.ext (xdAt dx (nfs p n u f))) → Q .non H'
section
variable {P : Program} {w : World} {K : PySem.W.Frag} {mg : Str → Option Value} {base : Heap}
theorem scInit : FnScope ["self", "part", "name", "due", "found"] ["self", "part", "name", "due", "found"] (defScope sInit) := ⟨rfl, rfl, rfl, by decide +kernel, rfl, by decide +kernel, by decide +kernel⟩
set_option maxHeartbeats 0 in
theorem ok_init {f C R : Addr} {fd : FuncData} (F : Fun K "__init__" "NoFit.__init__" sInit f fd) (mR : mg "Refused" = some (.ref R)) (bR : BaseI K R) (ex : excInI K C bmVE "ValueError.__new__" = true) (st : ExcSet K C)
    (t1 : PySem.W.takerIn K C "part" = some none) (t2 : PySem.W.takerIn K C "name" = some none) (t3 : PySem.W.takerIn K C "due" = some none) (t4 : PySem.W.takerIn K C "found" = some none) :
    FnOk P w K mg base CX0 1 f fd ["self", "part", "name", "due", "found"] (spInit K C) := by
  refine F.ok scInit (fun vs H Q E h => ?_) (fun cdv A outer s H vs Q E hr h => ?_)
  · obtain ⟨e, p, n, u, f, rfl, _⟩ := h
    rfl
  obtain ⟨e, p, n, u, f, rfl, he, ⟨dp, np, hp, sp, lp⟩, ⟨dn, nn, hn, sn, ln⟩, ⟨du, nu, hu, su, lu⟩, ⟨df, nf, hf, sf, lf⟩, q⟩ := h
  refine ⟨_, pss_cons (ps_expr (pe_baseInit bR rfl mR (pa_cons (pv 0) (pa_cons (pe_fstr (pj_cons pe_str (pj_cons (pe_frD hr (pv 1)) (pj_cons pe_str (pj_cons (pe_frD hr (pv 2)) (pj_cons pe_str (pj_cons (pe_frD hr (pv 3)) (pj_cons pe_str (pj_cons (pe_frD hr (pv 4)) pj_nil)))))))) (by decide)) pa_nil)) rfl))
    (pss_cons (ps_xfld0 (pv 0) (pv 1) rfl) (pss_cons (ps_xfld1 (pv 0) (pv 2) rfl) (pss_cons (ps_xfld1 (pv 0) (pv 3) rfl) (pss_one (ps_xfld1 (pv 0) (pv 4) rfl))))), ?_⟩
  refine ⟨_, rfl, _, rfl, by decide +kernel, _, rfl, dp, np, hp, sp, by omega, fun z1 l1 => ⟨z1, rfl, l1, ?_⟩⟩
  refine ⟨_, rfl, by decide +kernel, _, rfl, dn, nn, hn, sn, by omega, fun z2 l2 => ⟨z2, rfl, l2, ?_⟩⟩
  refine ⟨_, rfl, by decide +kernel, _, rfl, du, nu, hu, su, by omega, fun z3 l3 => ⟨z3, rfl, l3, ?_⟩⟩
  refine ⟨_, rfl, by decide +kernel, _, rfl, df, nf, hf, sf, by omega, fun z4 l4 => ⟨z4, rfl, l4, fun z lz => ?_⟩⟩
  refine ⟨e, C, none, _, rfl, ex, he, (by show 1 ≤ sizeLine; decide), ?_⟩
  refine ⟨_, rfl, _, rfl, e, C, rfl, st, t1, he, fun dx hdx => ?_⟩
  have ne : e ≠ dx := ne_of_none he hdx
  have e1 : ∀ o, upd (upd H e (.ext (excRaw e C (some dx)))) dx o e = some (.ext (excRaw e C (some dx))) := fun o => by rw [upd_ne ne, upd_same]
  refine ⟨_, rfl, _, rfl, e, C, dx, _, rfl, st, t2, e1 _, upd_same, (by show 1 < 1000; decide), ?_⟩
  rw [upd_upd]
  refine ⟨_, rfl, _, rfl, e, C, dx, _, rfl, st, t3, e1 _, upd_same, ?_, ?_⟩
  · have := length_putF "name" n [(("part" : Str), p)]
    simp only [List.length_cons, List.length_nil] at this
    omega
  rw [upd_upd]
  refine ⟨_, rfl, _, rfl, e, C, dx, _, rfl, st, t4, e1 _, upd_same, ?_, ?_⟩
  · have h1 := length_putF "name" n [(("part" : Str), p)]
    have h2 := length_putF "due" u (putF "name" n [(("part" : Str), p)])
    simp only [List.length_cons, List.length_nil] at h1
    omega
  rw [upd_upd]
  refine q dx _ ne.symm (fun b o hb hbo => ?_) (e1 _) upd_same
  rw [upd_ne (ne_of_none hbo hdx), upd_ne hb]
  exact hbo
end
/-! what is raised -/
/-- the classes' addresses, by number: 0 to 14, 15 is the base -/
def spRaise (K : PySem.W.Frag) (C : Nat → Addr) (lo : Nat) : Sp := fun vs H _ E => ∃ (k : Nat) (fl : Addr) (p n u f : V), vs = [.int k, .ref fl] ∧ lo ≤ k ∧ k ≤ 15 ∧ H fl = some (.lst [p, n, u, f]) ∧ Fits K H p ∧ Fits K H n ∧ Fits K H u ∧ Fits K H f ∧
  (k ≠ 14 → E (.ref (C k)) none H) ∧ (k = 14 → ∀ dx H', Same H H' → H' dx = some (.ext (xdAt dx (nfs p n u f))) → E (.ref (C 14)) (some dx) H')
section
variable {P : Program} {w : World} {K : PySem.W.Frag} {mg : Str → Option Value} {base : Heap}
theorem scMore : FnScope ["_law_k", "_law_fields"] ["_law_k", "_law_fields"] (defScope sMore) := ⟨rfl, rfl, rfl, by decide +kernel, rfl, by decide +kernel, by decide +kernel⟩
theorem scRaise : FnScope ["_law_k", "_law_fields"] ["_law_k", "_law_fields"] (defScope sRaise) := ⟨rfl, rfl, rfl, by decide +kernel, rfl, by decide +kernel, by decide +kernel⟩
theorem kne {k j : Nat} (c : ¬ decide (V.int (k : Int) = V.int (j : Int)) = true) : k ≠ j := fun z => c (decide_eq_true (by rw [z]))
theorem keq {k j : Nat} (c : decide (V.int (k : Int) = V.int (j : Int)) = true) : k = j := by
  have z : (k : Int) = (j : Int) := V.int.inj (of_decide_eq_true c)
  omega
set_option maxHeartbeats 0 in
theorem ok_more {f fi : Addr} {fd fdi : FuncData} {C : Nat → Addr} (F : Fun K "_law_raise_more" "_law_raise_more" sMore f fd) (M : MkX K (C 14) fi) (GI : FnOk P w K mg base CX0 1 fi fdi ["self", "part", "name", "due", "found"] (spInit K (C 14))) (bI : Binds K fdi ["self", "part", "name", "due", "found"] [])
    (m8 : mg "NoCount" = some (.ref (C 8))) (m9 : mg "BadOrder" = some (.ref (C 9))) (m10 : mg "TooHeavy" = some (.ref (C 10))) (m11 : mg "NotPlain" = some (.ref (C 11))) (m12 : mg "NoMark" = some (.ref (C 12))) (m13 : mg "TooWide" = some (.ref (C 13))) (m14 : mg "NoFit" = some (.ref (C 14))) (m15 : mg "Refused" = some (.ref (C 15)))
    (x : ∀ k, k ≠ 14 → k ≤ 15 → PySem.W.excIn K (C k) bmVE "ValueError.__new__" = true) : FnOk P w K mg base (CX1 P w) 3 f fd ["_law_k", "_law_fields"] (spRaise K C 8) := by
  refine F.okX scMore (fun vs H Q E h => ?_) (fun cdv A outer s H vs Q E hr h => ?_)
  · obtain ⟨k, fl, p, n, u, f, rfl, _⟩ := h
    rfl
  obtain ⟨k, fl, p, n, u, f, rfl, lo, hi, hfl, fp, fn, fu, ff, q1, q2⟩ := h
  refine ⟨_, pss_cons (ps_if (pt_cmpR op_eq (pv 0) pe_int (nomark _)) (pss_one (ps_raise1 rfl m8 (x 8 (by decide) (by decide)) (pa_cons pe_str pa_nil))) pss_nil)
    (pss_cons (ps_if (pt_cmpR op_eq (pv 0) pe_int (nomark _)) (pss_one (ps_raise1 rfl m9 (x 9 (by decide) (by decide)) (pa_cons pe_str pa_nil))) pss_nil)
    (pss_cons (ps_if (pt_cmpR op_eq (pv 0) pe_int (nomark _)) (pss_one (ps_raise1 rfl m10 (x 10 (by decide) (by decide)) (pa_cons pe_str pa_nil))) pss_nil)
    (pss_cons (ps_if (pt_cmpR op_eq (pv 0) pe_int (nomark _)) (pss_one (ps_raise1 rfl m11 (x 11 (by decide) (by decide)) (pa_cons pe_str pa_nil))) pss_nil)
    (pss_cons (ps_if (pt_cmpR op_eq (pv 0) pe_int (nomark _)) (pss_one (ps_raise1 rfl m12 (x 12 (by decide) (by decide)) (pa_cons pe_str pa_nil))) pss_nil)
    (pss_cons (ps_if (pt_cmpR op_eq (pv 0) pe_int (nomark _)) (pss_one (ps_raise1 rfl m13 (x 13 (by decide) (by decide)) (pa_cons pe_str pa_nil))) pss_nil)
    (pss_cons (ps_if (pt_cmpR op_eq (pv 0) pe_int (nomark _)) (pss_one (ps_raiseI M GI hr bI rfl m14 (pa_cons (pe_ix ix_list (pv 1) pe_int (fun _ _ => rfl)) (pa_cons (pe_ix ix_list (pv 1) pe_int (fun _ _ => rfl)) (pa_cons (pe_ix ix_list (pv 1) pe_int (fun _ _ => rfl)) (pa_cons (pe_ix ix_list (pv 1) pe_int (fun _ _ => rfl)) pa_nil)))))) pss_nil)
    (pss_one (ps_raise1 rfl m15 (x 15 (by decide) (by decide)) (pa_cons pe_str pa_nil))))))))), ?_⟩
  have r1 : ([V.str "a word"] : List V).length ≤ sizeLine := by show 1 ≤ sizeLine; decide
  refine ⟨_, rfl, rfl, _, rfl, ite2 (fun c => ?_) (fun c8 => ?_)⟩
  · obtain rfl := keq (j := 8) c
    exact ⟨r1, q1 (by decide)⟩
  refine ⟨_, rfl, rfl, _, rfl, ite2 (fun c => ?_) (fun c9 => ?_)⟩
  · obtain rfl := keq (j := 9) c
    exact ⟨r1, q1 (by decide)⟩
  refine ⟨_, rfl, rfl, _, rfl, ite2 (fun c => ?_) (fun c10 => ?_)⟩
  · obtain rfl := keq (j := 10) c
    exact ⟨r1, q1 (by decide)⟩
  refine ⟨_, rfl, rfl, _, rfl, ite2 (fun c => ?_) (fun c11 => ?_)⟩
  · obtain rfl := keq (j := 11) c
    exact ⟨r1, q1 (by decide)⟩
  refine ⟨_, rfl, rfl, _, rfl, ite2 (fun c => ?_) (fun c12 => ?_)⟩
  · obtain rfl := keq (j := 12) c
    exact ⟨r1, q1 (by decide)⟩
  refine ⟨_, rfl, rfl, _, rfl, ite2 (fun c => ?_) (fun c13 => ?_)⟩
  · obtain rfl := keq (j := 13) c
    exact ⟨r1, q1 (by decide)⟩
  refine ⟨_, rfl, rfl, _, rfl, ite2 (fun c => ?_) (fun c14 => ?_)⟩
  · have e14 := keq (j := 14) c
    have sq : SqL K H fl [p, n, u, f] := SqL.of hfl
    refine ⟨_, rfl, fl, _, _, _, rfl, rfl, sq, atI_nat (j := 0) rfl, _, rfl, fl, _, _, _, rfl, rfl, sq, atI_nat (j := 1) rfl, _, rfl, fl, _, _, _, rfl, rfl, sq, atI_nat (j := 2) rfl, _, rfl, fl, _, _, _, rfl, rfl, sq, atI_nat (j := 3) rfl, (by show 4 ≤ sizeLine; decide), fun e he => ?_⟩
    have sm := same_new he (.ext (excRaw e (C 14) none))
    refine ⟨e, p, n, u, f, rfl, upd_same, fp.same sm, fn.same sm, fu.same sm, ff.same sm, fun dx H' nd k' he' hx' => ⟨rfl, some dx, he', q2 e14 dx _ (fun b o hbo => ?_) (by rw [cut_ne nd]; exact hx')⟩⟩
    have hbe : b ≠ e := ne_of_none hbo he
    rw [cut_ne hbe]
    exact k' b o hbe (sm b o hbo)
  have n8 := kne (j := 8) c8
  have n9 := kne (j := 9) c9
  have n10 := kne (j := 10) c10
  have n11 := kne (j := 11) c11
  have n12 := kne (j := 12) c12
  have n13 := kne (j := 13) c13
  have n14 := kne (j := 14) c14
  obtain rfl : k = 15 := by omega
  exact ⟨r1, q1 (by decide)⟩
set_option maxHeartbeats 0 in
theorem ok_raise {f g : Addr} {fd gd : FuncData} {C : Nat → Addr} (F : Fun K "_law_raise" "_law_raise" sRaise f fd) (GM : FnOk P w K mg base (CX1 P w) 3 g gd ["_law_k", "_law_fields"] (spRaise K C 8)) (bM : Binds K gd ["_law_k", "_law_fields"] []) (kM : PySem.W.keepIn K (.ref g) = true) (mM : mg "_law_raise_more" = some (.ref g))
    (m0 : mg "NoTree" = some (.ref (C 0))) (m1 : mg "NoForm" = some (.ref (C 1))) (m2 : mg "NoKind" = some (.ref (C 2))) (m3 : mg "NoName" = some (.ref (C 3))) (m4 : mg "Twice" = some (.ref (C 4))) (m5 : mg "TooBig" = some (.ref (C 5))) (m6 : mg "Clash" = some (.ref (C 6))) (m7 : mg "WrongKind" = some (.ref (C 7)))
    (x : ∀ k, k ≠ 14 → k ≤ 15 → PySem.W.excIn K (C k) bmVE "ValueError.__new__" = true) : FnOk P w K mg base (CX1 P w) 4 f fd ["_law_k", "_law_fields"] (spRaise K C 0) := by
  refine F.okX scRaise (fun vs H Q E h => ?_) (fun cdv A outer s H vs Q E hr h => ?_)
  · obtain ⟨k, fl, p, n, u, f, rfl, _⟩ := h
    rfl
  obtain ⟨k, fl, p, n, u, f, rfl, lo, hi, hfl, fp, fn, fu, ff, q1, q2⟩ := h
  refine ⟨_, (pss_cons (ps_if (pt_cmpR op_eq (pv 0) pe_int (nomark _)) (pss_one (ps_raise1 rfl m0 (x 0 (by decide) (by decide)) (pa_cons pe_str pa_nil))) pss_nil)
    (pss_cons (ps_if (pt_cmpR op_eq (pv 0) pe_int (nomark _)) (pss_one (ps_raise1 rfl m1 (x 1 (by decide) (by decide)) (pa_cons pe_str pa_nil))) pss_nil)
    (pss_cons (ps_if (pt_cmpR op_eq (pv 0) pe_int (nomark _)) (pss_one (ps_raise1 rfl m2 (x 2 (by decide) (by decide)) (pa_cons pe_str pa_nil))) pss_nil)
    (pss_cons (ps_if (pt_cmpR op_eq (pv 0) pe_int (nomark _)) (pss_one (ps_raise1 rfl m3 (x 3 (by decide) (by decide)) (pa_cons pe_str pa_nil))) pss_nil)
    (pss_cons (ps_if (pt_cmpR op_eq (pv 0) pe_int (nomark _)) (pss_one (ps_raise1 rfl m4 (x 4 (by decide) (by decide)) (pa_cons pe_str pa_nil))) pss_nil)
    (pss_cons (ps_if (pt_cmpR op_eq (pv 0) pe_int (nomark _)) (pss_one (ps_raise1 rfl m5 (x 5 (by decide) (by decide)) (pa_cons pe_str pa_nil))) pss_nil)
    (pss_cons (ps_if (pt_cmpR op_eq (pv 0) pe_int (nomark _)) (pss_one (ps_raise1 rfl m6 (x 6 (by decide) (by decide)) (pa_cons pe_str pa_nil))) pss_nil)
    (pss_cons (ps_if (pt_cmpR op_eq (pv 0) pe_int (nomark _)) (pss_one (ps_raise1 rfl m7 (x 7 (by decide) (by decide)) (pa_cons pe_str pa_nil))) pss_nil)
    (pss_one (ps_expr (pe_call GM hr rfl mM kM bM .nil pass1 (pa_cons (pv 0) (pa_cons (pv 1) pa_nil))))))))))))), ?_⟩
  have r1 : ([V.str "a word"] : List V).length ≤ sizeLine := by show 1 ≤ sizeLine; decide
  refine ⟨_, rfl, rfl, _, rfl, ite2 (fun c => ?_) (fun c0 => ?_)⟩
  · obtain rfl := keq (j := 0) c
    exact ⟨r1, q1 (by decide)⟩
  refine ⟨_, rfl, rfl, _, rfl, ite2 (fun c => ?_) (fun c1 => ?_)⟩
  · obtain rfl := keq (j := 1) c
    exact ⟨r1, q1 (by decide)⟩
  refine ⟨_, rfl, rfl, _, rfl, ite2 (fun c => ?_) (fun c2 => ?_)⟩
  · obtain rfl := keq (j := 2) c
    exact ⟨r1, q1 (by decide)⟩
  refine ⟨_, rfl, rfl, _, rfl, ite2 (fun c => ?_) (fun c3 => ?_)⟩
  · obtain rfl := keq (j := 3) c
    exact ⟨r1, q1 (by decide)⟩
  refine ⟨_, rfl, rfl, _, rfl, ite2 (fun c => ?_) (fun c4 => ?_)⟩
  · obtain rfl := keq (j := 4) c
    exact ⟨r1, q1 (by decide)⟩
  refine ⟨_, rfl, rfl, _, rfl, ite2 (fun c => ?_) (fun c5 => ?_)⟩
  · obtain rfl := keq (j := 5) c
    exact ⟨r1, q1 (by decide)⟩
  refine ⟨_, rfl, rfl, _, rfl, ite2 (fun c => ?_) (fun c6 => ?_)⟩
  · obtain rfl := keq (j := 6) c
    exact ⟨r1, q1 (by decide)⟩
  refine ⟨_, rfl, rfl, _, rfl, ite2 (fun c => ?_) (fun c7 => ?_)⟩
  · obtain rfl := keq (j := 7) c
    exact ⟨r1, q1 (by decide)⟩
  have n0 := kne (j := 0) c0
  have n1 := kne (j := 1) c1
  have n2 := kne (j := 2) c2
  have n3 := kne (j := 3) c3
  have n4 := kne (j := 4) c4
  have n5 := kne (j := 5) c5
  have n6 := kne (j := 6) c6
  have n7 := kne (j := 7) c7
  exact ⟨_, rfl, _, rfl, k, fl, p, n, u, f, rfl, by omega, hi, hfl, fp, fn, fu, ff, q1, q2⟩
end
end K10

namespace K10
open PySem L2
/-! of which classes a caught one is -/
def isAt (k : Nat) : List V := (List.range 15).map fun j => V.bl (decide (k = j))
def spClasses (C : Nat → Addr) : Sp := fun vs H Q _ => ∃ (e : Addr) (d : Option Addr) (k : Nat), vs = [.ref e] ∧ k ≤ 15 ∧ H e = some (.ext (excAt e (.ref (C k)) d)) ∧ ∀ H' l, Same H H' → H' l = some (.lst (isAt k)) → Q (.ref l) H'
section
variable {P : Program} {w : World} {K : PySem.W.Frag} {mg : Str → Option Value} {base : Heap}
theorem bootIsi : bootBuiltins "isinstance" = some (.builtin "isinstance") := by decide +kernel
theorem bootVE : bootBuiltins "ValueError" = some (.type "ValueError") := by decide +kernel
theorem isiK {X : Cx} (h : X.K = K) : CallR X (.builtin "isinstance") (fun xs H Q => ∃ e d D y u b, xs = [.ref e, y] ∧ ExcCls K D ∧ RelV y u ∧ (∀ u', RelV y u' → u' = u) ∧ H e = some (.ext (excAt e (.ref D) d)) ∧ PySem.W.kitOne K (.ref D) u = some b ∧ Q (.bl b) H) := by
  subst h
  intro pins s σ H xs us Q I rv h
  obtain ⟨e, d, D, y, u, b, h1, c, h2⟩ := h
  exact call_isiX c pins s σ H xs us Q I rv ⟨e, d, y, u, b, h1, h2⟩
theorem scClasses : FnScope ["_law_e", "_law_found"] ["_law_e"] (defScope sClasses) := ⟨rfl, rfl, rfl, by decide +kernel, rfl, by decide +kernel, by decide +kernel⟩
set_option maxHeartbeats 0 in
theorem ok_classes {f : Addr} {fd : FuncData} {C : Nat → Addr} (F : Fun K "_law_classes" "_law_classes" sClasses f fd) (mi : mg "isinstance" = none) (ec : ∀ k, k ≤ 15 → ExcCls K (C k)) (kt : ∀ k j, k ≤ 15 → j ≤ 14 → PySem.W.kitOne K (.ref (C k)) (.ref (C j)) = some (decide (k = j)))
    (m0 : mg "NoTree" = some (.ref (C 0))) (m1 : mg "NoForm" = some (.ref (C 1))) (m2 : mg "NoKind" = some (.ref (C 2))) (m3 : mg "NoName" = some (.ref (C 3))) (m4 : mg "Twice" = some (.ref (C 4))) (m5 : mg "TooBig" = some (.ref (C 5))) (m6 : mg "Clash" = some (.ref (C 6))) (m7 : mg "WrongKind" = some (.ref (C 7))) (m8 : mg "NoCount" = some (.ref (C 8))) (m9 : mg "BadOrder" = some (.ref (C 9))) (m10 : mg "TooHeavy" = some (.ref (C 10))) (m11 : mg "NotPlain" = some (.ref (C 11))) (m12 : mg "NoMark" = some (.ref (C 12))) (m13 : mg "TooWide" = some (.ref (C 13))) (m14 : mg "NoFit" = some (.ref (C 14))) : FnOk P w K mg base CX0 1 f fd ["_law_e"] (spClasses C) := by
  refine F.ok scClasses (fun vs H Q E h => ?_) (fun cdv A outer s H vs Q E hr h => ?_)
  · obtain ⟨e, d, k, rfl, _⟩ := h
    rfl
  obtain ⟨e, d, k, rfl, hk, he, q⟩ := h
  have c := ec k hk
  refine ⟨_, pss_cons (ps_set (i := 1) scClasses.nd rfl (Or.inl rfl) (pe_lst (pa_cons (pe_callB (isiK (K := K) rfl) rfl mi bootIsi (pa_cons (pv 0) (pa_cons (pe_glob rfl m0 (v := .ref (C 0)) rfl) pa_nil))) (pa_cons (pe_callB (isiK (K := K) rfl) rfl mi bootIsi (pa_cons (pv 0) (pa_cons (pe_glob rfl m1 (v := .ref (C 1)) rfl) pa_nil))) (pa_cons (pe_callB (isiK (K := K) rfl) rfl mi bootIsi (pa_cons (pv 0) (pa_cons (pe_glob rfl m2 (v := .ref (C 2)) rfl) pa_nil))) (pa_cons (pe_callB (isiK (K := K) rfl) rfl mi bootIsi (pa_cons (pv 0) (pa_cons (pe_glob rfl m3 (v := .ref (C 3)) rfl) pa_nil))) pa_nil))))))
    (pss_cons (ps_set (i := 1) scClasses.nd rfl (Or.inl rfl) (pe_op op_cat (pv 1) (pe_lst (pa_cons (pe_callB (isiK (K := K) rfl) rfl mi bootIsi (pa_cons (pv 0) (pa_cons (pe_glob rfl m4 (v := .ref (C 4)) rfl) pa_nil))) (pa_cons (pe_callB (isiK (K := K) rfl) rfl mi bootIsi (pa_cons (pv 0) (pa_cons (pe_glob rfl m5 (v := .ref (C 5)) rfl) pa_nil))) (pa_cons (pe_callB (isiK (K := K) rfl) rfl mi bootIsi (pa_cons (pv 0) (pa_cons (pe_glob rfl m6 (v := .ref (C 6)) rfl) pa_nil))) (pa_cons (pe_callB (isiK (K := K) rfl) rfl mi bootIsi (pa_cons (pv 0) (pa_cons (pe_glob rfl m7 (v := .ref (C 7)) rfl) pa_nil))) pa_nil)))))))
    (pss_cons (ps_set (i := 1) scClasses.nd rfl (Or.inl rfl) (pe_op op_cat (pv 1) (pe_lst (pa_cons (pe_callB (isiK (K := K) rfl) rfl mi bootIsi (pa_cons (pv 0) (pa_cons (pe_glob rfl m8 (v := .ref (C 8)) rfl) pa_nil))) (pa_cons (pe_callB (isiK (K := K) rfl) rfl mi bootIsi (pa_cons (pv 0) (pa_cons (pe_glob rfl m9 (v := .ref (C 9)) rfl) pa_nil))) (pa_cons (pe_callB (isiK (K := K) rfl) rfl mi bootIsi (pa_cons (pv 0) (pa_cons (pe_glob rfl m10 (v := .ref (C 10)) rfl) pa_nil))) pa_nil))))))
    (pss_cons (ps_set (i := 1) scClasses.nd rfl (Or.inl rfl) (pe_op op_cat (pv 1) (pe_lst (pa_cons (pe_callB (isiK (K := K) rfl) rfl mi bootIsi (pa_cons (pv 0) (pa_cons (pe_glob rfl m11 (v := .ref (C 11)) rfl) pa_nil))) (pa_cons (pe_callB (isiK (K := K) rfl) rfl mi bootIsi (pa_cons (pv 0) (pa_cons (pe_glob rfl m12 (v := .ref (C 12)) rfl) pa_nil))) (pa_cons (pe_callB (isiK (K := K) rfl) rfl mi bootIsi (pa_cons (pv 0) (pa_cons (pe_glob rfl m13 (v := .ref (C 13)) rfl) pa_nil))) pa_nil))))))
    (pss_one (ps_ret (pe_op op_cat (pv 1) (pe_lst (pa_cons (pe_callB (isiK (K := K) rfl) rfl mi bootIsi (pa_cons (pv 0) (pa_cons (pe_glob rfl m14 (v := .ref (C 14)) rfl) pa_nil))) pa_nil)))))))), ?_⟩
  have cat : ∀ {H0 : Hp} {a b : Addr} {xs ys : List V} {Q' : VK}, Same H H0 → H0 a = some (.lst xs) → H0 b = some (.lst ys) → xs.length + ys.length ≤ 1000 → (∀ p, Same H (upd H0 p (.lst (xs ++ ys))) → Q' (.ref p) (upd H0 p (.lst (xs ++ ys)))) → rCat (.ref a) (.ref b) H0 Q' := fun {H0 a b xs ys Q'} s0 ha hb hl hq =>
    ⟨a, b, xs, ys, rfl, rfl, ha, hb, small hl, fun p hp => hq p (same_trans s0 (same_new hp _))⟩
  refine ⟨_, rfl, e, d, _, _, _, _, rfl, c, rfl, (fun _ z => z), he, kt k 0 hk (by decide), _, rfl, e, d, _, _, _, _, rfl, c, rfl, (fun _ z => z), he, kt k 1 hk (by decide), _, rfl, e, d, _, _, _, _, rfl, c, rfl, (fun _ z => z), he, kt k 2 hk (by decide), _, rfl, e, d, _, _, _, _, rfl, c, rfl, (fun _ z => z), he, kt k 3 hk (by decide), ?_⟩
  refine ⟨(by show 4 ≤ sizeLine; decide), fun l0 h0 => ?_⟩
  have s0 := same_new h0 (.lst [V.bl (decide (k = 0)), V.bl (decide (k = 1)), V.bl (decide (k = 2)), V.bl (decide (k = 3))])
  refine ⟨_, rfl, ?_⟩
  have he0 := s0 _ _ he
  refine ⟨_, rfl, e, d, _, _, _, _, rfl, c, rfl, (fun _ z => z), he0, kt k 4 hk (by decide), _, rfl, e, d, _, _, _, _, rfl, c, rfl, (fun _ z => z), he0, kt k 5 hk (by decide), _, rfl, e, d, _, _, _, _, rfl, c, rfl, (fun _ z => z), he0, kt k 6 hk (by decide), _, rfl, e, d, _, _, _, _, rfl, c, rfl, (fun _ z => z), he0, kt k 7 hk (by decide), ?_⟩
  refine ⟨(by show 4 ≤ sizeLine; decide), fun l1 h1 => ?_⟩
  have s1 := same_new h1 (.lst [V.bl (decide (k = 4)), V.bl (decide (k = 5)), V.bl (decide (k = 6)), V.bl (decide (k = 7))])
  refine cat (same_trans s0 s1) (s1 _ _ upd_same) upd_same (Nat.le_of_ble_eq_true rfl) fun p1 t1 => ?_
  refine ⟨_, rfl, ?_⟩
  have he1 := t1 _ _ he
  refine ⟨_, rfl, e, d, _, _, _, _, rfl, c, rfl, (fun _ z => z), he1, kt k 8 hk (by decide), _, rfl, e, d, _, _, _, _, rfl, c, rfl, (fun _ z => z), he1, kt k 9 hk (by decide), _, rfl, e, d, _, _, _, _, rfl, c, rfl, (fun _ z => z), he1, kt k 10 hk (by decide), ?_⟩
  refine ⟨(by show 3 ≤ sizeLine; decide), fun l2 h2 => ?_⟩
  have s2 := same_new h2 (.lst [V.bl (decide (k = 8)), V.bl (decide (k = 9)), V.bl (decide (k = 10))])
  refine cat (same_trans t1 s2) (s2 _ _ upd_same) upd_same (Nat.le_of_ble_eq_true rfl) fun p2 t2 => ?_
  refine ⟨_, rfl, ?_⟩
  have he2 := t2 _ _ he
  refine ⟨_, rfl, e, d, _, _, _, _, rfl, c, rfl, (fun _ z => z), he2, kt k 11 hk (by decide), _, rfl, e, d, _, _, _, _, rfl, c, rfl, (fun _ z => z), he2, kt k 12 hk (by decide), _, rfl, e, d, _, _, _, _, rfl, c, rfl, (fun _ z => z), he2, kt k 13 hk (by decide), ?_⟩
  refine ⟨(by show 3 ≤ sizeLine; decide), fun l3 h3 => ?_⟩
  have s3 := same_new h3 (.lst [V.bl (decide (k = 11)), V.bl (decide (k = 12)), V.bl (decide (k = 13))])
  refine cat (same_trans t2 s3) (s3 _ _ upd_same) upd_same (Nat.le_of_ble_eq_true rfl) fun p3 t3 => ?_
  refine ⟨_, rfl, ?_⟩
  have he3 := t3 _ _ he
  refine ⟨_, rfl, e, d, _, _, _, _, rfl, c, rfl, (fun _ z => z), he3, kt k 14 hk (by decide), ?_⟩
  refine ⟨(by show 1 ≤ sizeLine; decide), fun l4 h4 => ?_⟩
  have s4 := same_new h4 (.lst [V.bl (decide (k = 14))])
  exact cat (same_trans t3 s4) (s4 _ _ upd_same) upd_same (Nat.le_of_ble_eq_true rfl) fun p4 t4 => q _ p4 t4 upd_same
end
end K10

namespace K10
open PySem L2
/-! the law -/
structure Good (d : PyData) : Prop where
  lay : d.canLay0 = true
  dp : d.depth ≤ 10
  eqv : PyData.eqv d d = true
  sh : ∃ n, Shw d n 60 ∧ n ≤ 90000
theorem good_str {y : Str} (h : PyData.strOk y = true) (hl : y.length ≤ 100) : Good (.str y) :=
  ⟨by simp [PyData.canLay0, h], by simp [PyData.depth], by simp [PyData.eqv], _, shw_str h 60, by omega⟩
theorem good_non : Good .none := ⟨by simp [PyData.canLay0], by simp [PyData.depth], by simp [PyData.eqv], _, shw_non 60, by omega⟩
def numD (m : Int) : PyData := .tuple [.str "num", .int m]
def pairD (m : Int) (z : Str) : PyData := .tuple [.str "pair", numD m, .tuple [.str "name", .str z, .str "t"]]
theorem okNum : PyData.strOk "num" = true := by decide +kernel
theorem okPair : PyData.strOk "pair" = true := by decide +kernel
theorem okName : PyData.strOk "name" = true := by decide +kernel
theorem okT : PyData.strOk "t" = true := by decide +kernel
theorem shw_num {m : Int} (h0 : 0 ≤ m) (h1 : m ≤ 10 ^ 18) : Shw (numD m) 200 10 :=
  (shw_tup (m := 1) (shws_cons (shw_str okNum 1) (shws_cons (shw_int h0 h1 1) (shws_nil 1)))).le (by decide +kernel) (by decide)
theorem good_num {m : Int} (h0 : 0 ≤ m) (h1 : m ≤ 10 ^ 18) : Good (numD m) :=
  ⟨by simp [numD, PyData.canLay0, PyData.canLayAll0, okNum], by simp [numD, PyData.depth, PyData.depthAll], by simp [numD, PyData.eqv, PyData.eqvAll], 200, (shw_num h0 h1).le (Nat.le_refl _) (by decide), by decide⟩
theorem good_pair {m : Int} {z : Str} (h0 : 0 ≤ m) (h1 : m ≤ 10 ^ 18) (hz : PyData.strOk z = true) (hl : z.length ≤ 12) : Good (pairD m z) := by
  refine ⟨by simp [pairD, numD, PyData.canLay0, PyData.canLayAll0, okNum, okPair, okName, okT, hz], by simp [pairD, numD, PyData.depth, PyData.depthAll], by simp [pairD, numD, PyData.eqv, PyData.eqvAll], _, (shw_tup (m := 10) (shws_cons (shw_str okPair 10) (shws_cons (shw_num h0 h1) (shws_cons ((shw_tup (m := 1) (shws_cons (shw_str okName 1) (shws_cons (shw_str hz 1) (shws_cons (shw_str okT 1) (shws_nil 1))))).le (Nat.le_refl _) (by decide)) (shws_nil 10))))).le (Nat.le_refl _) (by decide), ?_⟩
  have e1 : (Str.ofString "name").length = 4 := by decide +kernel
  have e2 : (Str.ofString "pair").length = 4 := by decide +kernel
  have e3 : (Str.ofString "t").length = 1 := by decide +kernel
  rw [e1, e2, e3]
  omega
theorem good_four {a b c d : PyData} (ha : Good a) (hb : Good b) (hc : Good c) (hd : Good d) : SeqAt.shaped (.list [a, b, c, d]) = true ∧ PyData.eqv (.list [a, b, c, d]) (.list [a, b, c, d]) = true := by
  constructor
  · unfold SeqAt.shaped
    have h1 := ha.dp
    have h2 := hb.dp
    have h3 := hc.dp
    have h4 := hd.dp
    rw [show PyData.canLay0 (.list [a, b, c, d]) = true from by simp [PyData.canLay0, PyData.canLayAll0, ha.lay, hb.lay, hc.lay, hd.lay], decide_eq_true (show PyData.depth (.list [a, b, c, d]) ≤ 64 by simp only [PyData.depth, PyData.depthAll]; omega)]
    rfl
  · simp [PyData.eqv, PyData.eqvAll, ha.eqv, hb.eqv, hc.eqv, hd.eqv]
theorem fits_of {K : PySem.W.Frag} {H : Hp} {x : V} {d : PyData} (h : Dat K H x d) (g : Good d) : Fits K H x := let ⟨n, a, b⟩ := g.sh; ⟨d, n, h, a, b⟩
def boolsD (k : Nat) : PyData := .list ((List.range 15).map fun j => .bool (decide (k = j)))
theorem dats_bools {K : PySem.W.Frag} {H : Hp} (k : Nat) : ∀ l : List Nat, Dats K H (l.map fun j => V.bl (decide (k = j))) (l.map fun j => PyData.bool (decide (k = j)))
  | [] => .nil
  | _ :: r => .cons (.bl _) (dats_bools k r)
theorem bools_ok (k : Nat) : SeqAt.shaped (boolsD k) = true ∧ PyData.eqv (boolsD k) (boolsD k) = true := by
  have h : ∀ l : List Nat, PyData.canLayAll0 (l.map fun j => PyData.bool (decide (k = j))) = true ∧ PyData.depthAll (l.map fun j => PyData.bool (decide (k = j))) = 0 ∧ PyData.eqvAll (l.map fun j => PyData.bool (decide (k = j))) (l.map fun j => PyData.bool (decide (k = j))) = true := by
    intro l
    induction l with
    | nil => simp [PyData.canLayAll0, PyData.depthAll, PyData.eqvAll]
    | cons a r ih => simp [PyData.canLayAll0, PyData.canLay0, PyData.depthAll, PyData.depth, PyData.eqvAll, PyData.eqv, ih.1, ih.2.1, ih.2.2]
  obtain ⟨h1, h2, h3⟩ := h (List.range 15)
  constructor
  · unfold SeqAt.shaped boolsD
    rw [show PyData.canLay0 (.list ((List.range 15).map fun j => PyData.bool (decide (k = j)))) = true from by simp only [PyData.canLay0]; exact h1, decide_eq_true (by simp only [PyData.depth]; rw [h2]; decide)]
    rfl
  · unfold boolsD
    simp only [PyData.eqv]
    exact h3
def spLaw (K : PySem.W.Frag) : Sp := fun vs H Q _ => ∃ (a : Addr) (ns : List Int), vs = [.ref a] ∧ SqL K H a (ns.map V.int) ∧ ns.length ≤ 63 ∧ ∀ H', Q (.bl true) H'
section
variable {P : Program} {w : World} {K : PySem.W.Frag} {mg : Str → Option Value} {base : Heap}
abbrev lawN : List Str := ["_law_script", "_law_k", "_law_due", "_law_found", "_law_fields", "_law_caught", "_law_e"]
theorem scLaw : FnScope lawN ["_law_script"] (defScope sLaw) := ⟨rfl, rfl, rfl, by decide +kernel, rfl, by decide +kernel, by decide +kernel⟩
abbrev cxL (P : Program) (w : World) (K : PySem.W.Frag) (mg : Str → Option Value) (base : Heap) (f : Addr) (cdv : Value) (A : Around) (outer : List Env) (s : Shared) (H : Hp) (E : XK) : Cx := cxOf CX0 P w K mg base lawN "law" (defScope sLaw) f cdv A outer s H E
/-- what is known behind the try -/
structure Got (K : PySem.W.Frag) (C : Nat → Addr) (k : Nat) (e fl : Addr) (H : Hp) : Prop where
  le : k ≤ 15
  ex : ∃ (d : Option Addr) (p n u f : V) (dp dn du df : PyData), H e = some (.ext (excAt e (.ref (C k)) d)) ∧ H fl = some (.lst [p, n, u, f]) ∧ Dat K H p dp ∧ Dat K H n dn ∧ Dat K H u du ∧ Dat K H f df ∧ Good dp ∧ Good dn ∧ Good du ∧ Good df ∧
    (k = 14 → ∃ dx, d = some dx ∧ H dx = some (.ext (xdAt dx (nfs p n u f))))
set_option maxHeartbeats 0 in
theorem law_7 {f g : Addr} {gd : FuncData} {C : Nat → Addr} {cdv : Value} {A : Around} {outer : List Env} {s : Shared} {H0 : Hp} {E : XK} (hr : Room 5 (A.deeper (PyProof.Rows.envOfC "law" (defScope sLaw) s.heap.objs.size f cdv)))
    (GC : FnOk P w K mg base CX0 1 g gd ["_law_e"] (spClasses C)) (bC : Binds K gd ["_law_e"] []) (kC : PySem.W.keepIn K (.ref g) = true) (mC : mg "_law_classes" = some (.ref g)) (mi : mg "isinstance" = none) (mv : mg "ValueError" = none) (mr : mg "range" = none)
    (ec : ∀ k, k ≤ 15 → ExcCls K (C k)) (kv : ∀ k, k ≤ 15 → PySem.W.kitOne K (.ref (C k)) (.type "ValueError") = some true) (hd : PySem.W.hasDictIn K (C 14) = true)
    (f1 : PySem.W.findIn K (.ref (C 14)) "part" = some none) (f2 : PySem.W.findIn K (.ref (C 14)) "name" = some none) (f3 : PySem.W.findIn K (.ref (C 14)) "due" = some none) (f4 : PySem.W.findIn K (.ref (C 14)) "found" = some none) :
    ∃ t', PSs (cxL P w K mg base f cdv A outer s H0 E).nox (List.drop 7 (defBody sLaw)) t' ∧ ∀ (k : Nat) (D : Ends) (a u fo : Option V) (e fl : Addr) (H : Hp), k ≤ 15 → Got K C k e fl H → (∀ H', D.rt (.bl true) H') → t' D [a, some (.int k), u, fo, some (.ref fl), some (.ref e), none] H := by
  have hr1 : Room 1 _ := hr.mono (by decide)
  have hu : (A.deeper (PyProof.Rows.envOfC "law" (defScope sLaw) s.heap.objs.size f cdv)).units + 64 < cLine := hr.units
  refine ⟨_, pss_cons (ps_if (PW.pt (pw_or (pt_cmpR op_isN (pv 5) pe_non (nomark _)) (pw_or1 (pt_not (pt_val (pe_callB (isiK (K := K) rfl) rfl mi bootIsi (pa_cons (pv 5) (pa_cons (pe_bltn rfl mv bootVE (v := .ty "ValueError") rfl) pa_nil)))))))) (pss_one (ps_ret pe_bl)) pss_nil)
    (pss_cons (ps_if (pt_cmpR (op_neD hu) (pe_call GC hr1 rfl mC kC bC .nil pass0 (pa_cons (pv 5) pa_nil)) (pe_comp (own := ["_law_j"]) (caps := ["_law_k"]) (κ := [1]) rfl ⟨rfl, by decide +kernel, by decide +kernel, rfl, rfl, (fun y hy => by obtain rfl := List.mem_singleton.mp hy; rfl), (fun y hy => by obtain rfl := List.mem_singleton.mp hy; exact ⟨.inl rfl, rfl, .inl rfl⟩)⟩ rfl
        (pi_range1 rfl mr (pa_cons pe_int pa_nil)) (fun _ _ _ _ => pg_name (i := 0) (show (["_law_j", "_law_k"] : List Str).Nodup from by decide +kernel) rfl (Or.inl rfl)) (fun _ _ _ _ => pe_cmpR op_eq (pv 0) (pv 1) (nomark _))) (nomark _)) (pss_one (ps_ret pe_bl)) pss_nil)
    (pss_cons (ps_if (pt_cmpR op_eq (pv 1) pe_int (nomark _)) (pss_one (ps_ret (pe_cmpR (op_eqD hu) (pe_lst (pa_cons (pe_xget (pv 5) rfl) (pa_cons (pe_xget (pv 5) rfl) (pa_cons (pe_xget (pv 5) rfl) (pa_cons (pe_xget (pv 5) rfl) pa_nil))))) (pv 4) (nomark _)))) pss_nil)
    (pss_one (ps_ret pe_bl)))), ?_⟩
  intro k D a u0 fo0 e fl H hk G qR
  obtain ⟨d, p, n, u, fo, dp, dn, du, df, he, hfl, hp, hn, hu', hf, gp, gn, gu, gf, hx⟩ := G.ex
  refine ⟨_, rfl, rfl, _, rfl, ?_⟩
  refine ite2 (fun c => absurd (of_decide_eq_true c) (by intro z; cases z)) (fun _ => ?_)
  refine ⟨_, rfl, e, d, _, _, _, _, rfl, ec k hk, rfl, (fun _ z => z), he, kv k hk, _, rfl, ?_⟩
  refine iteF ?_
  refine ⟨_, rfl, e, d, k, rfl, hk, he, fun H1 l s1 hl => ?_⟩
  refine ⟨15, rfl, by decide, by decide, ?_⟩
  refine comp_by (J := Itr 0 15) (xs := rangeV 0 15) (fun m ys H3 => m ≤ 15 ∧ H3 = H1 ∧ ys = (List.range m).map fun j => V.bl (decide (k = j))) ⟨Nat.zero_le _, rfl, rfl⟩ (by rw [rangeV_len]; decide) ?_ ?_ ?_ ?_ ?_ ?_
  · rintro m ys H3 ⟨hm, rfl, rfl⟩
    rw [List.length_map, List.length_range]
    exact Nat.le_refl _
  · rintro m x ys H3 hx _
    exact itr_go hx
  · rintro m ys x H3 H' hm _ hy
    rw [rangeV_len] at hm
    exact itr_yld' hm hy
  · rintro ys H3 _
    rw [rangeV_len]
    exact Nat.le_refl _
  · rintro m x ys H3 N hN hx ⟨hm, rfl, rfl⟩
    obtain ⟨hm9, rfl⟩ := rangeV_get.mp hx
    refine ⟨rfl, tYes_go ⟨_, rfl, _, rfl, rfl, hN _ _ ⟨by omega, rfl, ?_⟩⟩⟩
    rw [List.range_succ, List.map_append]
    have e1 : decide (V.int (0 + (m : Int)) = V.int (k : Int)) = decide (k = m) := by
      rw [decide_eq_decide]
      constructor
      · intro z
        have z' := V.int.inj z
        omega
      · intro z
        rw [z, Int.zero_add]
    rw [e1]
    rfl
  · rintro ys H3 l2 ⟨hm, rfl, rfl⟩ hl2
    rw [rangeV_len]
    have s2 := same_new hl2 (.lst (isAt k))
    have sA := same_trans s1 s2
    refine ⟨boolsD k, boolsD k, .lst (SqL.of (s2 _ _ hl)) (dats_bools k _), .lst (SqL.of upd_same) (dats_bools k _), (bools_ok k).1, (bools_ok k).1, _, rfl, ?_⟩
    have z : (if true = true then !PyData.eqv (boolsD k) (boolsD k) else PyData.eqv (boolsD k) (boolsD k)) = false := by rw [(bools_ok k).2]; rfl
    show if (if true = true then !PyData.eqv (boolsD k) (boolsD k) else PyData.eqv (boolsD k) (boolsD k)) = true then _ else _
    rw [z]
    refine iteF ?_
    refine ⟨_, rfl, rfl, _, rfl, ite2 (fun c => ?_) (fun c => qR _)⟩
    obtain rfl := keq (j := 14) c
    obtain ⟨dx, rfl, hdx⟩ := hx rfl
    have xe := sA _ _ he
    have xd := sA _ _ hdx
    refine ⟨_, rfl, e, _, dx, _, _, rfl, ec 14 hk, hd, f1, xe, xd, nfs_part p n u fo, _, rfl, e, _, dx, _, _, rfl, ec 14 hk, hd, f2, xe, xd, nfs_name p n u fo, _, rfl, e, _, dx, _, _, rfl, ec 14 hk, hd, f3, xe, xd, nfs_due p n u fo, _, rfl, e, _, dx, _, _, rfl, ec 14 hk, hd, f4, xe, xd, nfs_found p n u fo, (by show 4 ≤ sizeLine; decide), fun l3 hl3 => ?_⟩
    have s3 := same_trans sA (same_new hl3 (.lst [p, n, u, fo]))
    have gg := good_four gp gn gu gf
    have dd : Dats K (upd (upd H3 l2 (.lst (isAt 14))) l3 (.lst [p, n, u, fo])) [p, n, u, fo] [dp, dn, du, df] := .cons (hp.same s3) (.cons (hn.same s3) (.cons (hu'.same s3) (.cons (hf.same s3) .nil)))
    refine ⟨_, rfl, .list [dp, dn, du, df], .list [dp, dn, du, df], .lst (SqL.of upd_same) dd, .lst (SqL.of (s3 _ _ hfl)) dd, gg.1, gg.1, ?_⟩
    show D.rt (.bl (PyData.eqv _ _)) _
    rw [gg.2]
    exact qR _
def tryHs : List Stmt → List ExceptHandler
  | .Try _ hs _ _ _ :: _ => hs
  | _ => []
set_option maxHeartbeats 0 in
theorem law_4 {f g fr fc fw : Addr} {gd fdr fdc fdw : FuncData} {C : Nat → Addr} {cdv : Value} {A : Around} {outer : List Env} {s : Shared} {H0 : Hp} {E : XK} (hr : Room 5 (A.deeper (PyProof.Rows.envOfC "law" (defScope sLaw) s.heap.objs.size f cdv)))
    (GC : FnOk P w K mg base CX0 1 g gd ["_law_e"] (spClasses C)) (bC : Binds K gd ["_law_e"] []) (kC : PySem.W.keepIn K (.ref g) = true) (mC : mg "_law_classes" = some (.ref g))
    (GR : FnOk P w K mg base (CX1 P w) 4 fr fdr ["_law_k", "_law_fields"] (spRaise K C 0)) (bR : Binds K fdr ["_law_k", "_law_fields"] []) (kR : PySem.W.keepIn K (.ref fr) = true) (mR : mg "_law_raise" = some (.ref fr))
    (GE : FnOk P w K mg base CX0 1 fc fdc ["_law_script", "_law_k"] (spCell K)) (bE : Binds K fdc ["_law_script", "_law_k"] []) (kE : PySem.W.keepIn K (.ref fc) = true) (mE : mg "_law_cell" = some (.ref fc))
    (GW : FnOk P w K mg base CX0 1 fw fdw ["_law_cell_here"] spWord) (bW : Binds K fdw ["_law_cell_here"] []) (kW : PySem.W.keepIn K (.ref fw) = true) (mW : mg "_law_word" = some (.ref fw))
    (mf : mg "Refused" = some (.ref (C 15))) (mi : mg "isinstance" = none) (mv : mg "ValueError" = none) (mr : mg "range" = none)
    (ec : ∀ k, k ≤ 15 → ExcCls K (C k)) (kv : ∀ k, k ≤ 15 → PySem.W.kitOne K (.ref (C k)) (.type "ValueError") = some true) (xm : ∀ k, k ≤ 15 → PySem.W.exmOne K (.ref (C k)) (.ref (C 15)) = some true) (hd : PySem.W.hasDictIn K (C 14) = true)
    (f1 : PySem.W.findIn K (.ref (C 14)) "part" = some none) (f2 : PySem.W.findIn K (.ref (C 14)) "name" = some none) (f3 : PySem.W.findIn K (.ref (C 14)) "due" = some none) (f4 : PySem.W.findIn K (.ref (C 14)) "found" = some none) :
    ∃ t', PSs (cxL P w K mg base f cdv A outer s H0 E).nox (List.drop 4 (defBody sLaw)) t' ∧ ∀ (k : Nat) (D : Ends) (a u : Addr) (ns : List Int) (fo : V) (m : Int) (df : PyData) (H : Hp), k ≤ 15 → SqL K H a (ns.map V.int) → ns.length ≤ 63 → 0 ≤ m → m ≤ 10 ^ 18 → Dat K H (.ref u) (numD m) → Dat K H fo df → Good df → (∀ H', D.rt (.bl true) H') →
      t' D [some (.ref a), some (.int k), some (.ref u), some fo, none, none, none] H := by
  have hr1 : Room 1 _ := hr.mono (by decide)
  have hr4 : Room 4 _ := hr.mono (by decide)
  obtain ⟨t7, d7, k7⟩ := law_7 (P := P) (w := w) (base := base) (outer := outer) (H0 := H0) (E := E) hr GC bC kC mC mi mv mr ec kv hd f1 f2 f3 f4
  obtain ⟨th, hh, hT⟩ : ∃ th, PH (cxL P w K mg base f cdv A outer s H0 E).nox (tryHs (List.drop 6 (defBody sLaw))) th ∧
      ∀ (D : Ends) (k : Nat) (d : Option Addr) (a e fl : Addr) (x2 x3 : Option V) (H' : Hp), k ≤ 15 → H' e = none → D.nx [some (.ref a), some (.int k), x2, x3, some (.ref fl), some (.ref e), none] (upd H' e (.ext (excAt e (.ref (C k)) d))) →
        th D (.ref (C k)) d e [some (.ref a), some (.int k), x2, x3, some (.ref fl), some .non, none] H' := by
    refine ⟨_, ph_as (i := 6) rfl scLaw.nd rfl rfl rfl mf (fun e => pss_one (ps_set (i := 5) scLaw.nd rfl (Or.inl rfl) (pv 6))) ph_nil, ?_⟩
    intro D k d a e fl x2 x3 H' hk he z
    exact ⟨true, xm k hk, iteT ⟨_, rfl, z⟩⟩
  refine ⟨_, pss_cons (ps_set (i := 4) scLaw.nd rfl (Or.inl rfl) (pe_lst (pa_cons (pe_call GW hr1 rfl mW kW bW .nil pass0 (pa_cons (pe_call GE hr1 rfl mE kE bE .nil pass0 (pa_cons (pv 0) (pa_cons pe_int pa_nil))) pa_nil)) (pa_cons (pe_call GW hr1 rfl mW kW bW .nil pass0 (pa_cons (pe_call GE hr1 rfl mE kE bE .nil pass0 (pa_cons (pv 0) (pa_cons pe_int pa_nil))) pa_nil)) (pa_cons (pv 2) (pa_cons (pv 3) pa_nil))))))
    (pss_cons (ps_set (i := 5) scLaw.nd rfl (Or.inl rfl) pe_non)
    (pss_cons (ps_try fun pins D => pss_one (ps_expr (pe_callE GR hr4 rfl mR kR bR .nil (passT rfl rfl hh) (pa_cons (pv 1) (pa_cons (pv 4) pa_nil))))) d7)), ?_⟩
  intro k D a u ns fo m df H2 hk hS h63 m2 m3 du hfo gfo q
  refine ⟨_, rfl, a, ns, 1, rfl, hS, h63, by omega, by omega, fun c1 => ⟨c1, rfl, fun p lp op => ?_⟩⟩
  refine ⟨_, rfl, a, ns, 2, rfl, hS, h63, by omega, by omega, fun c2 => ⟨c2, rfl, fun n ln on => ?_⟩⟩
  refine ⟨_, rfl, _, rfl, (by show 4 ≤ sizeLine; decide), fun fl hfl => ?_⟩
  have sF := same_new hfl (.lst [.str p, .str n, .ref u, fo])
  have hp : Dat K (upd H2 fl (.lst [.str p, .str n, .ref u, fo])) (.str p) (.str p) := .str p
  have hn : Dat K (upd H2 fl (.lst [.str p, .str n, .ref u, fo])) (.str n) (.str n) := .str n
  have hu2 := du.same sF
  have hf2 := hfo.same sF
  have gp := good_str op (by omega)
  have gn := good_str on (by omega)
  have gu := good_num m2 m3
  refine ⟨_, rfl, _, rfl, k, fl, _, _, _, _, rfl, Nat.zero_le _, hk, upd_same, fits_of hp gp, fits_of hn gn, fits_of hu2 gu, fits_of hf2 gfo, fun hne e he => ?_, fun h14 dx H' sX hx e he => ?_⟩
  · refine hT _ k none a e fl _ _ _ hk he (k7 k _ _ _ _ e fl _ hk ⟨hk, none, _, _, _, _, _, _, _, _, upd_same, ?_, hp.same (same_new he _), hn.same (same_new he _), hu2.same (same_new he _), hf2.same (same_new he _), gp, gn, gu, gfo, fun z => absurd z hne⟩ q)
    exact same_new he _ _ _ upd_same
  · subst h14
    have sE := same_trans sX (same_new he (.ext (excAt e (.ref (C 14)) (some dx))))
    refine hT _ 14 (some dx) a e fl _ _ _ hk he (k7 14 _ _ _ _ e fl _ hk ⟨hk, some dx, _, _, _, _, _, _, _, _, upd_same, sE _ _ upd_same, hp.same sE, hn.same sE, hu2.same sE, hf2.same sE, gp, gn, gu, gfo, fun _ => ⟨dx, rfl, ?_⟩⟩ q)
    exact same_new he _ _ _ hx
set_option maxHeartbeats 0 in
theorem ok_law {f g fr fc fw : Addr} {fd gd fdr fdc fdw : FuncData} {C : Nat → Addr} (F : Fun K "law" "law" sLaw f fd)
    (GC : FnOk P w K mg base CX0 1 g gd ["_law_e"] (spClasses C)) (bC : Binds K gd ["_law_e"] []) (kC : PySem.W.keepIn K (.ref g) = true) (mC : mg "_law_classes" = some (.ref g))
    (GR : FnOk P w K mg base (CX1 P w) 4 fr fdr ["_law_k", "_law_fields"] (spRaise K C 0)) (bR : Binds K fdr ["_law_k", "_law_fields"] []) (kR : PySem.W.keepIn K (.ref fr) = true) (mR : mg "_law_raise" = some (.ref fr))
    (GE : FnOk P w K mg base CX0 1 fc fdc ["_law_script", "_law_k"] (spCell K)) (bE : Binds K fdc ["_law_script", "_law_k"] []) (kE : PySem.W.keepIn K (.ref fc) = true) (mE : mg "_law_cell" = some (.ref fc))
    (GW : FnOk P w K mg base CX0 1 fw fdw ["_law_cell_here"] spWord) (bW : Binds K fdw ["_law_cell_here"] []) (kW : PySem.W.keepIn K (.ref fw) = true) (mW : mg "_law_word" = some (.ref fw))
    (mf : mg "Refused" = some (.ref (C 15))) (mi : mg "isinstance" = none) (mv : mg "ValueError" = none) (mr : mg "range" = none)
    (ec : ∀ k, k ≤ 15 → ExcCls K (C k)) (kv : ∀ k, k ≤ 15 → PySem.W.kitOne K (.ref (C k)) (.type "ValueError") = some true) (xm : ∀ k, k ≤ 15 → PySem.W.exmOne K (.ref (C k)) (.ref (C 15)) = some true) (hd : PySem.W.hasDictIn K (C 14) = true)
    (f1 : PySem.W.findIn K (.ref (C 14)) "part" = some none) (f2 : PySem.W.findIn K (.ref (C 14)) "name" = some none) (f3 : PySem.W.findIn K (.ref (C 14)) "due" = some none) (f4 : PySem.W.findIn K (.ref (C 14)) "found" = some none) :
    FnOk P w K mg base CX0 6 f fd ["_law_script"] (spLaw K) := by
  refine F.ok scLaw (fun vs H Q E h => ?_) (fun cdv A outer s H vs Q E hr h => ?_)
  · obtain ⟨a, ns, rfl, _⟩ := h
    rfl
  obtain ⟨a, ns, rfl, hS, h63, q⟩ := h
  have hr1 : Room 1 _ := hr.mono (by decide)
  obtain ⟨t4, d4, k4⟩ := law_4 (P := P) (w := w) (base := base) (outer := outer) (H0 := H) (E := E) hr GC bC kC mC GR bR kR mR GE bE kE mE GW bW kW mW mf mi mv mr ec kv xm hd f1 f2 f3 f4
  refine ⟨_, pss_cons (ps_set (i := 1) scLaw.nd rfl (Or.inr rfl) (pe_op op_mod (pe_call GE hr1 rfl mE kE bE .nil pass0 (pa_cons (pv 0) (pa_cons pe_int pa_nil))) pe_int))
    (pss_cons (ps_set (i := 2) scLaw.nd rfl (Or.inl rfl) (pe_tup (pa_cons pe_str (pa_cons (pe_op op_add pe_int (pe_op op_mod (pe_call GE hr1 rfl mE kE bE .nil pass0 (pa_cons (pv 0) (pa_cons pe_int pa_nil))) (pe_op op_pow pe_int pe_int))) pa_nil))))
    (pss_cons (ps_set (i := 3) scLaw.nd rfl (Or.inl rfl) pe_non)
    (pss_cons (ps_if (pt_cmpR op_eq (pe_op op_mod (pe_call GE hr1 rfl mE kE bE .nil pass0 (pa_cons (pv 0) (pa_cons pe_int pa_nil))) pe_int) pe_int (nomark _))
      (pss_one (ps_set (i := 3) scLaw.nd rfl (Or.inl rfl) (pe_tup (pa_cons pe_str (pa_cons (pv 2) (pa_cons (pe_tup (pa_cons pe_str (pa_cons (pe_call GW hr1 rfl mW kW bW .nil pass0 (pa_cons (pe_op op_fdiv (pe_call GE hr1 rfl mE kE bE .nil pass0 (pa_cons (pv 0) (pa_cons pe_int pa_nil))) pe_int) pa_nil)) (pa_cons pe_str pa_nil)))) pa_nil)))))) pss_nil)
    d4))), ?_⟩
  refine ⟨_, rfl, a, ns, 0, rfl, hS, h63, by omega, by omega, fun c0 => ?_⟩
  refine ⟨_, _, rfl, rfl, (by show (0 : Int) < 16; decide), ?_⟩
  obtain ⟨k, ek, hk⟩ : ∃ k : Nat, c0 % 16 = (k : Int) ∧ k ≤ 15 := ⟨(c0 % 16).toNat, by omega, by omega⟩
  have k4' := k4 k
  rw [← ek] at k4'
  have e9 : (0 : Int) < ((10 : Int) ^ (18 : Int).toNat) := by decide
  refine ⟨_, rfl, a, ns, 3, rfl, hS, h63, by omega, by omega, fun c3 => ?_⟩
  refine ⟨_, _, rfl, rfl, ⟨by decide, by decide, by decide⟩, _, _, rfl, rfl, e9, _, _, rfl, rfl, (by show 2 ≤ sizeLine; decide), fun u hu => ?_⟩
  have m0 := Int.emod_nonneg c3 (show ((10 : Int) ^ (18 : Int).toNat) ≠ 0 by decide)
  have m1 := Int.emod_lt_of_pos c3 e9
  have m2 : 0 ≤ 1 + c3 % ((10 : Int) ^ (18 : Int).toNat) := by omega
  have m3 : 1 + c3 % ((10 : Int) ^ (18 : Int).toNat) ≤ 10 ^ 18 := by
    have e18 : ((10 : Int) ^ (18 : Int).toNat) = 10 ^ 18 := rfl
    rw [e18] at m1 ⊢
    omega
  have su := same_new hu (.tup [.str "num", .int (1 + c3 % ((10 : Int) ^ (18 : Int).toNat))])
  have du : Dat K (upd H u (.tup [.str "num", .int (1 + c3 % ((10 : Int) ^ (18 : Int).toNat))])) (.ref u) (numD (1 + c3 % ((10 : Int) ^ (18 : Int).toNat))) := .tup (SqT.of upd_same) (.cons (.str _) (.cons (.int _) .nil))
  refine ⟨_, rfl, a, ns, 4, rfl, sql_same su hS, h63, by omega, by omega, fun c4 => ?_⟩
  refine ⟨_, _, rfl, rfl, (by show (0 : Int) < 2; decide), rfl, _, rfl, ite2 (fun _ => ?_) (fun _ => k4' _ a u ns .non _ .none _ hk (sql_same su hS) h63 m2 m3 du .non good_non q)⟩
  refine ⟨_, rfl, _, rfl, a, ns, 4, rfl, sql_same su hS, h63, by omega, by omega, fun c5 => ⟨_, _, rfl, rfl, ⟨by decide, by decide⟩, _, rfl, fun z lz oz => ?_⟩⟩
  refine ⟨(by show 3 ≤ sizeLine; decide), fun p1 h1 => ⟨(by show 3 ≤ sizeLine; decide), fun p2 h2 => ?_⟩⟩
  have s1 := same_new h1 (.tup [.str "name", .str z, .str "t"])
  have s2 := same_new h2 (.tup [.str "pair", .ref u, .ref p1])
  have sA := same_trans s1 s2
  exact k4' _ a u ns (.ref p2) _ (pairD _ z) _ hk (sql_same (same_trans su sA) hS) h63 m2 m3 (du.same sA) (.tup (SqT.of upd_same) (.cons (.str _) (.cons (du.same sA) (.cons (.tup (SqT.of (s2 _ _ upd_same)) (.cons (.str _) (.cons (.str _) (.cons (.str _) .nil)))) .nil)))) (good_pair m2 m3 oz lz) q
end
end K10

namespace K10
open PySem L2
/-! the classes' facts, by one reckoning -/
def clsOk (K : PySem.W.Frag) (D : Addr) : Bool :=
  (match K.lookup D with | some ⟨_, _, .cls _, _⟩ => true | _ => false) && (PySem.W.findIn K (.ref D) "__getattribute__" == some (some (.builtin "BaseException.__getattribute__")) && (PySem.W.findIn K (.ref D) "__getattr__" == some none && (PySem.W.findIn K (.ref D) "__class__" == some (some (.builtin "object.__class__")) &&
  (PySem.W.specialIn K (.builtin "object.__class__") "__get__" == some (some (.builtin "getset_descriptor.__get__")) && (PySem.W.takesIn K (.builtin "object.__class__") == some true && (PySem.W.mroIn K D (.type "object") == some true && PySem.W.mroIn K D (.type "BaseException") == some true))))))
theorem cls_of {K : PySem.W.Frag} {D : Addr} (h : clsOk K D = true) : ExcCls K D := by
  unfold clsOk at h
  simp only [Bool.and_eq_true, beq_iff_eq] at h
  obtain ⟨h1, h2, h3, h4, h5, h6, h7, h8⟩ := h
  exact ⟨h1, h2, h3, h4, h5, h6, h7, h8⟩
def at16 (K : PySem.W.Frag) (C : Nat → Addr) (k : Nat) : Bool :=
  clsOk K (C k) && (PySem.W.kitOne K (.ref (C k)) (.type "ValueError") == some true && (PySem.W.exmOne K (.ref (C k)) (.ref (C 15)) == some true && ((k == 14 || PySem.W.excIn K (C k) bmVE "ValueError.__new__") && (List.range 15).all fun j => PySem.W.kitOne K (.ref (C k)) (.ref (C j)) == some (decide (k = j)))))
def all16 (K : PySem.W.Frag) (C : Nat → Addr) : Bool := (List.range 16).all (at16 K C)
theorem all_at {K : PySem.W.Frag} {C : Nat → Addr} (h : all16 K C = true) {k : Nat} (hk : k ≤ 15) : ExcCls K (C k) ∧ PySem.W.kitOne K (.ref (C k)) (.type "ValueError") = some true ∧ PySem.W.exmOne K (.ref (C k)) (.ref (C 15)) = some true ∧ (k ≠ 14 → PySem.W.excIn K (C k) bmVE "ValueError.__new__" = true) ∧ ∀ j, j ≤ 14 → PySem.W.kitOne K (.ref (C k)) (.ref (C j)) = some (decide (k = j)) := by
  have h1 := List.all_eq_true.mp h k (List.mem_range.mpr (by omega))
  unfold at16 at h1
  simp only [Bool.and_eq_true, beq_iff_eq, Bool.or_eq_true] at h1
  obtain ⟨a, b, c, d, e⟩ := h1
  refine ⟨cls_of a, b, c, fun z => d.resolve_left z, fun j hj => ?_⟩
  have := List.all_eq_true.mp e j (List.mem_range.mpr (by omega))
  exact beq_iff_eq.mp this
def byNr (l : List Addr) : Nat → Addr := fun n => l.getD n 0
end K10

namespace K10
open PySem L2
set_option maxHeartbeats 0 in
theorem all_mk {l : PySem.W.OpenLaw} {w : World} {K : PySem.W.Frag} {h : Heap} {mg : Str → Option Value} {fa f1 f2 f3 f4 f5 f6 : Addr} (X : K.In h) (G : h.Ns mainGlobals mg) (hfa : mg "law" = some (.ref fa))
    {od1 an1 od2 an2 od3 an3 od4 an4 od5 an5 od6 an6 : Option Addr} {sl1 sl2 sl3 sl4 sl5 sl6 : Array (Option Value)} {oc1 kV1 dc1 pm1 cd1 ct1 oc2 kV2 dc2 pm2 cd2 ct2 oc3 kV3 dc3 pm3 cd3 ct3 oc4 kV4 dc4 pm4 cd4 ct4 oc5 kV5 dc5 pm5 cd5 ct5 oc6 kV6 dc6 pm6 cd6 ct6 : Value}
    {C0 C1 C2 C3 C4 C5 C6 C7 C8 C9 C10 C11 C12 C13 C14 C15 fi : Addr} {odi ani : Option Addr} {sli : Array (Option Value)} {oci kVi dci pmi cdi cti : Value}
    (a1 : PySem.W.nsIn K mainGlobals "_law_cell" = some (some (.ref f1))) (l1 : K.lookup f1 = some ⟨oc1, od1, .func (PySem.W.fnOf "_law_cell" "_law_cell" (defArgs sCell) (defBody sCell) (defScope sCell) .none kV1 dc1 pm1 an1 cd1 ct1), sl1⟩) (c1 : PySem.W.codeIn K cd1 "_law_cell" = true) (k1 : PySem.W.keepIn K (.ref f1) = true)
    (a2 : PySem.W.nsIn K mainGlobals "_law_word" = some (some (.ref f2))) (l2 : K.lookup f2 = some ⟨oc2, od2, .func (PySem.W.fnOf "_law_word" "_law_word" (defArgs sWord) (defBody sWord) (defScope sWord) .none kV2 dc2 pm2 an2 cd2 ct2), sl2⟩) (c2 : PySem.W.codeIn K cd2 "_law_word" = true) (k2 : PySem.W.keepIn K (.ref f2) = true)
    (a3 : PySem.W.nsIn K mainGlobals "_law_raise_more" = some (some (.ref f3))) (l3 : K.lookup f3 = some ⟨oc3, od3, .func (PySem.W.fnOf "_law_raise_more" "_law_raise_more" (defArgs sMore) (defBody sMore) (defScope sMore) .none kV3 dc3 pm3 an3 cd3 ct3), sl3⟩) (c3 : PySem.W.codeIn K cd3 "_law_raise_more" = true) (k3 : PySem.W.keepIn K (.ref f3) = true)
    (a4 : PySem.W.nsIn K mainGlobals "_law_raise" = some (some (.ref f4))) (l4 : K.lookup f4 = some ⟨oc4, od4, .func (PySem.W.fnOf "_law_raise" "_law_raise" (defArgs sRaise) (defBody sRaise) (defScope sRaise) .none kV4 dc4 pm4 an4 cd4 ct4), sl4⟩) (c4 : PySem.W.codeIn K cd4 "_law_raise" = true) (k4 : PySem.W.keepIn K (.ref f4) = true)
    (a5 : PySem.W.nsIn K mainGlobals "_law_classes" = some (some (.ref f5))) (l5 : K.lookup f5 = some ⟨oc5, od5, .func (PySem.W.fnOf "_law_classes" "_law_classes" (defArgs sClasses) (defBody sClasses) (defScope sClasses) .none kV5 dc5 pm5 an5 cd5 ct5), sl5⟩) (c5 : PySem.W.codeIn K cd5 "_law_classes" = true) (k5 : PySem.W.keepIn K (.ref f5) = true)
    (a6 : PySem.W.nsIn K mainGlobals "law" = some (some (.ref f6))) (l6 : K.lookup f6 = some ⟨oc6, od6, .func (PySem.W.fnOf "law" "law" (defArgs sLaw) (defBody sLaw) (defScope sLaw) .none kV6 dc6 pm6 an6 cd6 ct6), sl6⟩) (c6 : PySem.W.codeIn K cd6 "law" = true) (k6 : PySem.W.keepIn K (.ref f6) = true)
    (e0 : PySem.W.nsIn K mainGlobals "NoTree" = some (some (.ref C0)))
    (e1 : PySem.W.nsIn K mainGlobals "NoForm" = some (some (.ref C1)))
    (e2 : PySem.W.nsIn K mainGlobals "NoKind" = some (some (.ref C2)))
    (e3 : PySem.W.nsIn K mainGlobals "NoName" = some (some (.ref C3)))
    (e4 : PySem.W.nsIn K mainGlobals "Twice" = some (some (.ref C4)))
    (e5 : PySem.W.nsIn K mainGlobals "TooBig" = some (some (.ref C5)))
    (e6 : PySem.W.nsIn K mainGlobals "Clash" = some (some (.ref C6)))
    (e7 : PySem.W.nsIn K mainGlobals "WrongKind" = some (some (.ref C7)))
    (e8 : PySem.W.nsIn K mainGlobals "NoCount" = some (some (.ref C8)))
    (e9 : PySem.W.nsIn K mainGlobals "BadOrder" = some (some (.ref C9)))
    (e10 : PySem.W.nsIn K mainGlobals "TooHeavy" = some (some (.ref C10)))
    (e11 : PySem.W.nsIn K mainGlobals "NotPlain" = some (some (.ref C11)))
    (e12 : PySem.W.nsIn K mainGlobals "NoMark" = some (some (.ref C12)))
    (e13 : PySem.W.nsIn K mainGlobals "TooWide" = some (some (.ref C13)))
    (e14 : PySem.W.nsIn K mainGlobals "NoFit" = some (some (.ref C14)))
    (e15 : PySem.W.nsIn K mainGlobals "Refused" = some (some (.ref C15)))
    (iF : PySem.W.findIn K (.ref C14) "__init__" = some (some (.ref fi)))
    (li : K.lookup fi = some ⟨oci, odi, .func (PySem.W.fnOf "__init__" "NoFit.__init__" (defArgs sInit) (defBody sInit) (defScope sInit) .none kVi dci pmi ani cdi cti), sli⟩)
    (ci : PySem.W.codeIn K cdi "NoFit.__init__" = true)
    (ki : PySem.W.keepIn K (.ref fi) = true)
    (tF : PySem.W.typeIn K (.ref fi) = some (.type "function"))
    (xI : excInI K C14 bmVE "ValueError.__new__" = true)
    (bg : PySem.W.specialIn K (.ref C15) "__getattribute__" = some (some (.builtin "type.__getattribute__")))
    (br : PySem.W.readsIn K C15 (.type "type") = true)
    (bf : PySem.W.findCls K (.ref C15) (.type "type") "__init__" = some (.val (.builtin "ValueError.__init__")))
    (sa : PySem.W.findIn K (.ref C14) "__setattr__" = some (some (.builtin "object.__setattr__")))
    (po : (PySem.W.clsIn K C14).any (fun cd => refPass cd.mro) = true)
    (hd : PySem.W.hasDictIn K C14 = true)
    (ob : PySem.W.mroIn K C14 (.type "object") = some true)
    (t_part : PySem.W.takerIn K C14 "part" = some none)
    (f_part : PySem.W.findIn K (.ref C14) "part" = some none)
    (t_name : PySem.W.takerIn K C14 "name" = some none)
    (f_name : PySem.W.findIn K (.ref C14) "name" = some none)
    (t_due : PySem.W.takerIn K C14 "due" = some none)
    (f_due : PySem.W.findIn K (.ref C14) "due" = some none)
    (t_found : PySem.W.takerIn K C14 "found" = some none)
    (f_found : PySem.W.findIn K (.ref C14) "found" = some none)
    (AO : all16 K (byNr [C0, C1, C2, C3, C4, C5, C6, C7, C8, C9, C10, C11, C12, C13, C14, C15]) = true)
    (z1 : PySem.W.nsIn K mainGlobals "len" = some none)
    (z2 : PySem.W.nsIn K mainGlobals "range" = some none)
    (z3 : PySem.W.nsIn K mainGlobals "isinstance" = some none)
    (z4 : PySem.W.nsIn K mainGlobals "ValueError" = some none) :
    ∃ fd : FuncData, (∀ (s : Shared) (v : Value), BindsTo s fd ⟨[v], []⟩ [("_law_script", v)]) ∧ ∀ base : Heap, K.In base → base.Ns mainGlobals mg → FnOk l.prog w K mg base CX0 6 fa fd ["_law_script"] (spLaw K) := by
  have e := hfa.symm.trans (PySem.W.mg_of X G a6)
  cases e
  have F1 := fun_mk (st := sCell) l1 c1 k1
  have F2 := fun_mk (st := sWord) l2 c2 k2
  have F3 := fun_mk (st := sMore) l3 c3 k3
  have F4 := fun_mk (st := sRaise) l4 c4 k4
  have F5 := fun_mk (st := sClasses) l5 c5 k5
  have F6 := fun_mk (st := sLaw) l6 c6 k6
  have b1 := F1.binds (ps := ["_law_script", "_law_k"]) fun _ _ _ _ _ _ us hl => match us, hl with | [_, _], _ => rfl
  have b2 := F2.binds (ps := ["_law_cell_here"]) fun _ _ _ _ _ _ us hl => match us, hl with | [_], _ => rfl
  have b3 := F3.binds (ps := ["_law_k", "_law_fields"]) fun _ _ _ _ _ _ us hl => match us, hl with | [_, _], _ => rfl
  have b4 := F4.binds (ps := ["_law_k", "_law_fields"]) fun _ _ _ _ _ _ us hl => match us, hl with | [_, _], _ => rfl
  have b5 := F5.binds (ps := ["_law_e"]) fun _ _ _ _ _ _ us hl => match us, hl with | [_], _ => rfl
  refine ⟨PySem.W.fnOf "law" "law" (defArgs sLaw) (defBody sLaw) (defScope sLaw) .none kV6 dc6 pm6 an6 cd6 ct6, fun s v => .of_eq rfl, fun base _ _ => ?_⟩
  have Fi := fun_mk (st := sInit) li ci ki
  have bI := Fi.binds (ps := ["self", "part", "name", "due", "found"]) fun _ _ _ _ _ _ us hl => match us, hl with | [_, _, _, _, _], _ => rfl
  have MX : MkX K C14 fi := ⟨xI, iF, tF⟩
  have BR : BaseI K C15 := ⟨bg, br, bf⟩
  have XS : ExcSet K C14 := ⟨sa, po, hd, ob⟩
  have GI := ok_init (P := l.prog) (w := w) (base := base) (mg := mg) Fi (PySem.W.mg_of X G e15) BR xI XS t_part t_name t_due t_found
  have ex := fun k (z : k ≠ 14) (hk : k ≤ 15) => (all_at AO hk).2.2.2.1 z
  have GC := ok_cell (P := l.prog) (w := w) (base := base) (mg := mg) F1 (PySem.W.mg_none_of X G z1)
  have GW := ok_word (P := l.prog) (w := w) (base := base) (mg := mg) F2 (PySem.W.mg_none_of X G z2)
  have GM := ok_more (P := l.prog) (w := w) (base := base) (mg := mg) (C := (byNr [C0, C1, C2, C3, C4, C5, C6, C7, C8, C9, C10, C11, C12, C13, C14, C15])) F3 MX GI bI (PySem.W.mg_of X G e8) (PySem.W.mg_of X G e9) (PySem.W.mg_of X G e10) (PySem.W.mg_of X G e11) (PySem.W.mg_of X G e12) (PySem.W.mg_of X G e13) (PySem.W.mg_of X G e14) (PySem.W.mg_of X G e15) ex
  have GR := ok_raise (P := l.prog) (w := w) (base := base) (mg := mg) (C := (byNr [C0, C1, C2, C3, C4, C5, C6, C7, C8, C9, C10, C11, C12, C13, C14, C15])) F4 GM b3 k3 (PySem.W.mg_of X G a3) (PySem.W.mg_of X G e0) (PySem.W.mg_of X G e1) (PySem.W.mg_of X G e2) (PySem.W.mg_of X G e3) (PySem.W.mg_of X G e4) (PySem.W.mg_of X G e5) (PySem.W.mg_of X G e6) (PySem.W.mg_of X G e7) ex
  have GS := ok_classes (P := l.prog) (w := w) (base := base) (mg := mg) (C := (byNr [C0, C1, C2, C3, C4, C5, C6, C7, C8, C9, C10, C11, C12, C13, C14, C15])) F5 (PySem.W.mg_none_of X G z3) (fun k hk => (all_at AO hk).1) (fun k j hk hj => (all_at AO hk).2.2.2.2 j hj) (PySem.W.mg_of X G e0) (PySem.W.mg_of X G e1) (PySem.W.mg_of X G e2) (PySem.W.mg_of X G e3) (PySem.W.mg_of X G e4) (PySem.W.mg_of X G e5) (PySem.W.mg_of X G e6) (PySem.W.mg_of X G e7) (PySem.W.mg_of X G e8) (PySem.W.mg_of X G e9) (PySem.W.mg_of X G e10) (PySem.W.mg_of X G e11) (PySem.W.mg_of X G e12) (PySem.W.mg_of X G e13) (PySem.W.mg_of X G e14)
  exact ok_law (C := (byNr [C0, C1, C2, C3, C4, C5, C6, C7, C8, C9, C10, C11, C12, C13, C14, C15])) F6 GS b5 k5 (PySem.W.mg_of X G a5) GR b4 k4 (PySem.W.mg_of X G a4) GC b1 k1 (PySem.W.mg_of X G a1) GW b2 k2 (PySem.W.mg_of X G a2) (PySem.W.mg_of X G e15) (PySem.W.mg_none_of X G z3) (PySem.W.mg_none_of X G z4) (PySem.W.mg_none_of X G z2) (fun k hk => (all_at AO hk).1) (fun k hk => (all_at AO hk).2.1) (fun k hk => (all_at AO hk).2.2.1) hd f_part f_name f_due f_found
theorem walk {l : PySem.W.OpenLaw} {q : Program} {loose : List Str} {XP : (Str → Option Value) → Heap → Prop} {YP : World → Heap → Prop} {d : DefRec} {K : Params → PySem.W.Frag} (hn : l.most = some 63) (hdf : d.params.defaults = [])
    (hY : ∀ (w : World) (h : Heap), YP w h → (K w.params).In h)
    (F : ∀ (w : World) (mg : Str → Option Value) (fa : Addr) (h : Heap), (K w.params).In h → h.Ns mainGlobals mg → mg d.name = some (.ref fa) →
      ∃ fd : FuncData, (∀ (s : Shared) (u : Value), BindsTo s fd ⟨[u], []⟩ [("_law_script", u)]) ∧ ∀ base : Heap, (K w.params).In base → base.Ns mainGlobals mg → FnOk l.prog w (K w.params) mg base CX0 6 fa fd ["_law_script"] (spLaw (K w.params))) :
    PySem.W.WalkO q loose XP YP l.row.toRowW d [] (fun f vs => PySem.call f vs) :=
  L2.walk_of (n := 63) (k := 6) (x := "_law_script") (CX := fun _ => CX0) (sp := fun w => spLaw (K w.params)) hn (by decide) hdf ⟨rfl, by decide, by decide, rfl⟩ hY F (fun _ _ a ns hl _ hS => ⟨a, ns, rfl, hS, hl, fun _ => rfl⟩) fun _ _ _ _ _ z => z
end K10
open PySem PySem.W PyProof.Rows
set_option maxRecDepth 100000 in
set_option maxHeartbeats 0 in
theorem PySem.Challenge.cw_sealhouse_k10_refusals_holds : PySem.Challenge.rw_sealhouse_k10_refusals.Holds := by
  w_on; o_law; k_head; (case hw => w_witness2)
  k_fill
  refine K10.walk (l := PySem.Challenge.rw_sealhouse_k10_refusals) rfl rfl (fun w h Y => PySem.W.kIn_of Y) ?F
  case F =>
    intro w mg fa h KX G hmg
    refine' K10.all_mk KX G hmg ?a1 ?l1 ?c1 ?k1 ?a2 ?l2 ?c2 ?k2 ?a3 ?l3 ?c3 ?k3 ?a4 ?l4 ?c4 ?k4 ?a5 ?l5 ?c5 ?k5 ?a6 ?l6 ?c6 ?k6 ?e0 ?e1 ?e2 ?e3 ?e4 ?e5 ?e6 ?e7 ?e8 ?e9 ?e10 ?e11 ?e12 ?e13 ?e14 ?e15 ?iF ?li ?ci ?ki ?tF ?xI ?bg ?br ?bf ?sa ?po ?hd ?ob ?t_part ?f_part ?t_name ?f_name ?t_due ?f_due ?t_found ?f_found ?AO ?z1 ?z2 ?z3 ?z4
    (case a1 => k_is)
    (case l1 => k_is)
    (case c1 => k_is)
    (case k1 => k_is)
    (case a2 => k_is)
    (case l2 => k_is)
    (case c2 => k_is)
    (case k2 => k_is)
    (case a3 => k_is)
    (case l3 => k_is)
    (case c3 => k_is)
    (case k3 => k_is)
    (case a4 => k_is)
    (case l4 => k_is)
    (case c4 => k_is)
    (case k4 => k_is)
    (case a5 => k_is)
    (case l5 => k_is)
    (case c5 => k_is)
    (case k5 => k_is)
    (case a6 => k_is)
    (case l6 => k_is)
    (case c6 => k_is)
    (case k6 => k_is)
    (case e0 => k_is)
    (case e1 => k_is)
    (case e2 => k_is)
    (case e3 => k_is)
    (case e4 => k_is)
    (case e5 => k_is)
    (case e6 => k_is)
    (case e7 => k_is)
    (case e8 => k_is)
    (case e9 => k_is)
    (case e10 => k_is)
    (case e11 => k_is)
    (case e12 => k_is)
    (case e13 => k_is)
    (case e14 => k_is)
    (case e15 => k_is)
    (case iF => k_is)
    (case li => k_is)
    (case ci => k_is)
    (case ki => k_is)
    (case tF => k_is)
    (case xI => with_unfolding_all exact rfl)
    (case bg => k_is)
    (case br => k_is)
    (case bf => k_is)
    (case sa => k_is)
    (case po => exact rfl)
    (case hd => k_is)
    (case ob => k_is)
    (case t_part => k_is)
    (case f_part => k_is)
    (case t_name => k_is)
    (case f_name => k_is)
    (case t_due => k_is)
    (case f_due => k_is)
    (case t_found => k_is)
    (case f_found => k_is)
    (case AO => kernel_rfl)
    (case z1 => k_is)
    (case z2 => k_is)
    (case z3 => k_is)
    (case z4 => k_is)
#print axioms PySem.Challenge.cw_sealhouse_k10_refusals_holds
