import PyProof.Rows.All
import Wide.All
import OpenK.AllK
import Wide.FinOn
import Lean
import PyProof.EqAt
import PyProof.EqKinds
import PyProof.TupleCall
import PySem.Challenge.RW_sealhouse_k24_faces_declared
noncomputable section
set_option Elab.async false
set_option linter.all false
set_option maxRecDepth 100000
namespace L2
open PySem PySem.Spec PyProof.Rows
noncomputable abbrev Key:=Sum Int Str
noncomputable def keyIs:Key → Value → Bool
  | .inl k,v => Value.isInt k v
  | .inr x,v => Value.isStrOf x v
noncomputable def keyH (w:World):Key → Int
  | .inl k => hashInt k
  | .inr x => hashStr w x
theorem keyIs_shape:∀ {k:Key} {v:Value},keyIs k v = true → (∃ i t,k = Sum.inl i ∧ v = Value.int i t) ∨ (∃ x t,k = Sum.inr x ∧ v = Value.str x t)
  | .inl i,v,h => by
    obtain ⟨t,e⟩:=Value.isInt_shape (k:=i) (v:=v) h
    exact .inl ⟨i,t,rfl,e⟩
  | .inr x,v,h => by
    obtain ⟨t,e⟩:=Value.isStrOf_shape (x:=x) (v:=v) h
    exact .inr ⟨x,t,rfl,e⟩
theorem keyIs_int (i:Int) (t:Tok):keyIs (.inl i) (.int i t) = true:=by simp [keyIs,Value.isInt]
theorem keyIs_str (x:Str) (t:Tok):keyIs (.inr x) (.str x t) = true:=by simp [keyIs,Value.isStrOf]
theorem key_ll (a b:Int):decide ((Sum.inl a:Key) = Sum.inl b) = (a == b):=by
  by_cases e:a = b
  · subst e; simp
  · have h:¬ (Sum.inl a:Key) = Sum.inl b:=fun q => e (Sum.inl.inj q)
    rw [decide_eq_false h]
    exact (beq_eq_false_iff_ne.mpr e).symm
theorem key_rr (a b:Str):decide ((Sum.inr a:Key) = Sum.inr b) = decide (a = b):=by
  by_cases e:a = b
  · subst e; simp
  · have h:¬ (Sum.inr a:Key) = Sum.inr b:=fun q => e (Sum.inr.inj q)
    rw [decide_eq_false h,decide_eq_false e]
theorem key_lr (a:Int) (b:Str):decide ((Sum.inl a:Key) = Sum.inr b) = false:=decide_eq_false (fun q => nomatch q)
theorem key_rl (a:Str) (b:Int):decide ((Sum.inr a:Key) = Sum.inl b) = false:=decide_eq_false (fun q => nomatch q)
noncomputable def mixKind (prog:Program) (w:World):PySem.KeyKind prog w Key where
  is:=keyIs
  hash:=keyH w
  inj:=fun v a b ha hb => by
    rcases keyIs_shape ha with ⟨i,t,rfl,rfl⟩ | ⟨x,t,rfl,rfl⟩
    · rcases keyIs_shape hb with ⟨j,u,rfl,e⟩ | ⟨y,u,rfl,e⟩
      · injection e with e1 _; rw [e1]
      · exact nomatch e
    · rcases keyIs_shape hb with ⟨j,u,rfl,e⟩ | ⟨y,u,rfl,e⟩
      · exact nomatch e
      · injection e with e1 _; rw [e1]
  byValue:=fun k v h => by
    rcases keyIs_shape h with ⟨i,t,rfl,rfl⟩ | ⟨x,t,rfl,rfl⟩ <;> rfl
  pyHash:=fun hv h => by
    rcases keyIs_shape hv with ⟨i,t,rfl,rfl⟩ | ⟨x,t,rfl,rfl⟩
    · exact wpAny_pyHash_int h
    · exact wpAny_pyHash_str h
  eqBool:=fun hu hv h => by
    rcases keyIs_shape hu with ⟨i,t,rfl,rfl⟩ | ⟨x,t,rfl,rfl⟩
    · rcases keyIs_shape hv with ⟨j,u,rfl,rfl⟩ | ⟨y,u,rfl,rfl⟩
      · rw [key_ll] at h; exact wpAny_eqBool_int h
      · rw [key_lr] at h; exact SeqAt.EqAt.int_str i t y u _ _ _ _ h
    · rcases keyIs_shape hv with ⟨j,u,rfl,rfl⟩ | ⟨y,u,rfl,rfl⟩
      · rw [key_rl] at h; exact SeqAt.EqAt.str_int x t j u _ _ _ _ h
      · rw [key_rr] at h; exact wpAny_eqBool_str h
  «strs»:=fun k x t v h => by
    rcases keyIs_shape h with ⟨i,u,rfl,e⟩ | ⟨y,u,rfl,e⟩
    · exact nomatch e
    · injection e with e1 _
      subst e1
      cases v <;> rfl
theorem mixKind_is (prog:Program) (w:World) (k:Key) (v:Value):(mixKind prog w).is k v = keyIs k v:=rfl
theorem mixKind_int (prog:Program) (w:World) (i:Int) (t:Tok):(mixKind prog w).is (.inl i) (.int i t) = true:=keyIs_int i t
theorem mixKind_str (prog:Program) (w:World) (x:Str) (t:Tok):(mixKind prog w).is (.inr x) (.str x t) = true:=keyIs_str x t
end L2
namespace L2
open PySem PySem.Spec PyProof.Rows
inductive V where
  | non | bl (b:Bool) | int (i:Int) | str (x:Str) | byt (b:Array UInt8) | flt (b:UInt64) | ref (a:Addr) | ty (n:String)
  deriving DecidableEq
noncomputable def RelV:V → Value → Prop
  | .non,u => u = Value.none
  | .bl b,u => u = Value.bool b
  | .int i,u => ∃ t,u = Value.int i t
  | .str x,u => ∃ t,u = Value.str x t
  | .byt b,u => ∃ t,u = Value.bytes b t
  | .flt b,u => ∃ t,u = Value.float b t
  | .ref a,u => u = Value.ref a
  | .ty n,u => u = Value.type n
noncomputable abbrev Vals:List V → List Value → Prop:=Paired RelV
theorem Vals.length {xs:List V} {us:List Value} (r:Vals xs us):xs.length = us.length:=Paired.length r
theorem Vals.get:∀ {xs:List V} {us:List Value} {i:Nat} {x:V},Vals xs us → xs[i]? = some x → ∃ u,us[i]? = some u ∧ RelV x u
  | _,_,_,_,.nil,e => by simp at e
  | _,_,0,_,.cons r _,e => by simp at e; subst e; exact ⟨_,rfl,r⟩
  | _,_,i + 1,x,.cons _ t,e => by
    obtain ⟨u,h1,h2⟩:=Vals.get (i:=i) (x:=x) t (by simpa using e)
    exact ⟨u,by simpa using h1,h2⟩
theorem Vals.append:∀ {xs ys:List V} {us ws:List Value},Vals xs us → Vals ys ws → Vals (xs ++ ys) (us ++ ws)
  | _,_,_,_,.nil,s => s
  | _,_,_,_,.cons r t,s => .cons r (Vals.append t s)
theorem Vals.take:∀ {xs:List V} {us:List Value} (n:Nat),Vals xs us → Vals (xs.take n) (us.take n)
  | _,_,0,_ => .nil
  | _,_,_ + 1,.nil => .nil
  | _,_,n + 1,.cons r t => .cons r (Vals.take n t)
theorem Vals.drop:∀ {xs:List V} {us:List Value} (n:Nat),Vals xs us → Vals (xs.drop n) (us.drop n)
  | _,_,0,r => r
  | _,_,_ + 1,.nil => .nil
  | _,_,n + 1,.cons _ t => Vals.drop n t
noncomputable def RelO:Option V → Option Value → Prop
  | some v,some u => RelV v u
  | none,none => True
  | _,_ => False
noncomputable def KV {κ:Type}:List (κ × V) → List (κ × Value) → Prop:=Paired fun (p:κ × V) (q:κ × Value) => p.1 = q.1 ∧ RelV p.2 q.2
noncomputable def kV:Key → V
  | .inl i => .int i
  | .inr x => .str x
inductive HO where
  | lst (xs:List V)
  | tup (xs:List V)
  | dK (kvs:List (Key × V)) | dT (kvs:List (List Key × V))
  | set (S:Int → Bool) (n:Nat)
  | ins (C dx:Addr) (fs:List (Str × V))
  | own (x:Addr)
  | xd (fs:List (Str × V))
  | met (f x:Addr)
  | rng (lo hi:Int)
  | frz (o:Obj) (u:HO)
  | tbl (ps:Array Value)
  | ext (φ:Heap → Prop)
noncomputable abbrev Hp:=Addr → Option HO
noncomputable def upd (H:Hp) (a:Addr) (o:HO):Hp:=fun b => if b = a then some o else H b
theorem upd_same {H:Hp} {a:Addr} {o:HO}:upd H a o a = some o:=by unfold upd; rw [if_pos rfl]
theorem upd_ne {H:Hp} {a b:Addr} {o:HO} (h:b ≠ a):upd H a o b = H b:=by unfold upd; rw [if_neg h]
theorem upd_upd {H:Hp} {a:Addr} {o u:HO}:upd (upd H a o) a u = upd H a u:=by
  funext b; unfold upd; split <;> rfl
theorem ne_of {H:Hp} {a b:Addr} {o u:HO} (h:H a = some o) (h':H b = some u) (d:o ≠ u):a ≠ b:=by
  intro e; subst e; rw [h] at h'; exact d (Option.some.inj h')
theorem ne_of_none {H:Hp} {a b:Addr} {o:HO} (h:H a = some o) (h':H b = none):a ≠ b:=by
  intro e; subst e; rw [h] at h'; cases h'
section
variable (P:Program) (w:World)
noncomputable def ObjOk (H:Hp) (h:Heap) (a:Addr):HO → Prop
  | .lst xs => xs.length ≤ sizeLine ∧ ∃ (its:List Value) (n:Nat),Vals xs its ∧ h.get? a = some { cls:=.type "list",data:=.seq its.toArray n }
  | .tup xs => xs.length ≤ sizeLine ∧ ∃ its:List Value,Vals xs its ∧ IsTup h a its.toArray
  | .dK kvs => kvs.length ≤ sizeLine ∧ (a == sysModules) = false ∧ ∃ vs,KV kvs vs ∧ h.DictOf (mixKind P w) a vs
  | .dT kvs => kvs.length ≤ sizeLine ∧ (a == sysModules) = false ∧ ∃ xs:List (List Key × Addr × Value),
      Paired (fun (p:List Key × V) (q:List Key × Addr × Value) => p.1 = q.1 ∧ H q.2.1 = some (.tup (p.1.map kV)) ∧ RelV p.2 q.2.2) kvs xs ∧
      ∃ o es ep,h.get? a = some o ∧ o.ExactDict ∧ o.data = .dict es ep ∧ es.toList = xs.map (entryOfKey (tupleKind (mixKind P w))) ∧ (xs.map (·.1)).Nodup
  | .set S n => h.SetOf (intKind P w) a S n
  | .ins C dx fs => H dx = some (.own a) ∧ fs.length ≤ 1000 ∧ dx ≠ a ∧ h.get? a = some (PySem.W.instObj C dx) ∧
      ∃ mA,h.Ns1 dx mA ∧ (∀ f,RelO (fs.lookup f) (mA f)) ∧ PySem.Within mA (fs.map (·.1))
  | .own _ => ∃ o,h.get? a = some o
  | .xd fs => ∃ mA,h.Ns1 a mA ∧ ∀ f,RelO (fs.lookup f) (mA f)
  | .rng lo hi => ∃ t u v,h.get? a = some { cls:=.type "range",data:=.fields #[.int lo t,.int hi u,.int 1 v] }
  | .frz o u => h.get? a = some o ∧ ObjOk H h a u
  | .tbl ps => h.get? a = some { cls:=.none,data:=.fields ps }
  | .met f x => h.get? a = some (PySem.W.methodObj (.ref f) (.ref x))
  | .ext φ => φ h ∧ (∃ o,h.get? a = some o) ∧ ∀ h1 h2:Heap,φ h1 → (∀ o,h1.get? a = some o → h2.get? a = some o) → φ h2
noncomputable def HOk (H:Hp) (h:Heap):Prop:=∀ a o,H a = some o → ObjOk P w H h a o
end
section
variable {P:Program} {w:World} {H H':Hp} {h h':Heap} {a:Addr} {o:HO}
theorem ObjOk.lt (x:ObjOk P w H h a o):a < h.objs.size:=by
  cases o with
  | lst xs => obtain ⟨_,_,_,_,e⟩:=x; exact Heap.lt_size e
  | tup xs => obtain ⟨_,_,_,p⟩:=x; exact p.lt
  | dK kvs => obtain ⟨_,_,_,_,o,_,_,e,_⟩:=x; exact Heap.lt_size e
  | dT kvs => obtain ⟨_,_,_,_,o,_,_,e,_⟩:=x; exact Heap.lt_size e
  | set S n => obtain ⟨o,_,_,_,e,_⟩:=x; exact Heap.lt_size e
  | ins C dx fs => obtain ⟨_,_,_,e,_⟩:=x; exact Heap.lt_size e
  | own y => obtain ⟨_,e⟩:=x; exact Heap.lt_size e
  | xd fs => obtain ⟨_,⟨_,_,_,e,_⟩,_⟩:=x; exact Heap.lt_size e
  | rng lo hi => obtain ⟨_,_,_,e⟩:=x; exact Heap.lt_size e
  | frz ob u => obtain ⟨e,_⟩:=x; exact Heap.lt_size e
  | tbl ps => exact Heap.lt_size (show h.get? a = some _ from x)
  | met f y => exact Heap.lt_size (show h.get? a = some _ from x)
  | ext φ => obtain ⟨_,⟨_,e⟩,_⟩:=x; exact Heap.lt_size e
theorem Paired.mapP {α β:Type} {F G:α → β → Prop}:∀ {l₁:List α} {l₂:List β},Paired F l₁ l₂ → (∀ a b,F a b → G a b) → Paired G l₁ l₂
  | _,_,.nil,_ => .nil
  | _,_,.cons r t,f => .cons (f _ _ r) (Paired.mapP t f)
theorem Paired.imp' {α β:Type} {F G:α → β → Prop} (f:∀ a b,F a b → G a b) {l₁:List α} {l₂:List β} (r:Paired F l₁ l₂):Paired G l₁ l₂:=Paired.mapP r f
theorem ObjOk.stay (x:ObjOk P w H h a o) (k:∀ b u,(b = a ∨ H b = some (.own a)) → h.get? b = some u → h'.get? b = some u)
    (ho:∀ b,H b = some (.own a) → H' b = some (.own a)) (ht:∀ b xs,H b = some (.tup xs) → H' b = some (.tup xs)):ObjOk P w H' h' a o:=by
  induction o with
  | lst xs => obtain ⟨z,its,n,r,e⟩:=x; exact ⟨z,its,n,r,k _ _ (.inl rfl) e⟩
  | tup xs => obtain ⟨z,its,r,ob,e,c⟩:=x; exact ⟨z,its,r,ob,k _ _ (.inl rfl) e,c⟩
  | dK kvs => obtain ⟨z,y,vs,r,ob,es,ep,e,c⟩:=x; exact ⟨z,y,vs,r,ob,es,ep,k _ _ (.inl rfl) e,c⟩
  | dT kvs =>
    obtain ⟨z,y,xs,r,ob,es,ep,e,c⟩:=x
    exact ⟨z,y,xs,Paired.mapP r fun p q z => ⟨z.1,ht _ _ z.2.1,z.2.2⟩,ob,es,ep,k _ _ (.inl rfl) e,c⟩
  | set S n => obtain ⟨ob,es,ep,t,e,c⟩:=x; exact ⟨ob,es,ep,t,k _ _ (.inl rfl) e,c⟩
  | ins C dx fs =>
    obtain ⟨d,z,ne,e,mA,⟨od,es,ep,e2,c⟩,r⟩:=x
    exact ⟨ho _ d,z,ne,k _ _ (.inl rfl) e,mA,⟨od,es,ep,k _ _ (.inr d) e2,c⟩,r⟩
  | own y => obtain ⟨ob,e⟩:=x; exact ⟨ob,k _ _ (.inl rfl) e⟩
  | xd fs => obtain ⟨mA,⟨od,es,ep,e,c⟩,r⟩:=x; exact ⟨mA,⟨od,es,ep,k _ _ (.inl rfl) e,c⟩,r⟩
  | rng lo hi => obtain ⟨t,u,v,e⟩:=x; exact ⟨t,u,v,k _ _ (.inl rfl) e⟩
  | frz ob u ih => obtain ⟨e,q⟩:=x; exact ⟨k _ _ (.inl rfl) e,ih q⟩
  | tbl ps =>
    have e:h.get? a = some { cls:=.none,data:=.fields ps }:=x
    show h'.get? a = some { cls:=.none,data:=.fields ps }
    exact k a _ (.inl rfl) e
  | met f y =>
    have e:h.get? a = some (PySem.W.methodObj (.ref f) (.ref y)):=x
    show h'.get? a = some (PySem.W.methodObj (.ref f) (.ref y))
    exact k a _ (.inl rfl) e
  | ext φ => obtain ⟨p,⟨o,e⟩,st⟩:=x; exact ⟨st _ _ p fun o q => k _ _ (.inl rfl) q,⟨o,k _ _ (.inl rfl) e⟩,st⟩
theorem HOk.lt (x:HOk P w H h) (e:H a = some o):a < h.objs.size:=(x a o e).lt
theorem HOk.fresh (x:HOk P w H h) (e:h.objs.size ≤ a):H a = none:=by
  cases q:H a with
  | none => rfl
  | some u => exact absurd (Nat.lt_of_lt_of_le (x.lt q) e) (Nat.lt_irrefl _)
theorem HOk.kept (x:HOk P w H h) (k:∀ b u,h.get? b = some u → h'.get? b = some u):HOk P w H h':=fun a o e =>
  (x a o e).stay (fun b u _ q => k b u q) (fun _ q => q) fun _ _ q => q
theorem HOk.laid (x:HOk P w H h) (k:∀ b u,h.get? b = some u → h'.get? b = some u) (hp:h.objs.size ≤ a) (new:ObjOk P w (upd H a o) h' a o):HOk P w (upd H a o) h':=fun b u e => by
  have hn:=x.fresh hp
  by_cases hb:b = a
  · subst hb; rw [upd_same] at e; cases e; exact new
  · rw [upd_ne hb] at e
    exact (x b u e).stay (fun c v _ q => k c v q) (fun c q => by rw [upd_ne (ne_of_none q hn)]; exact q) fun c xs q => by rw [upd_ne (ne_of_none q hn)]; exact q
end
noncomputable def Rd (H:Hp) (a:Addr) (u:HO):Prop:=H a = some u ∨ ∃ o,H a = some (.frz o u)
theorem Rd.ok {P:Program} {w:World} {H:Hp} {h:Heap} {a:Addr} {u:HO} (r:Rd H a u) (x:HOk P w H h):ObjOk P w H h a u:=by
  rcases r with r | ⟨o,r⟩
  · exact x a u r
  · obtain ⟨_,q⟩:=x a _ r
    exact q
noncomputable def Mut:Option HO → Prop
  | some (.lst _) => True
  | some (.dK _) => True
  | some (.dT _) => True
  | some (.set _ _) => True
  | some (.ins _ _ _) => True
  | some (.ext _) => True
  | _ => False
section
variable {P:Program} {w:World} {H:Hp} {h h':Heap} {x e:Addr} {o':HO}
theorem HOk.write (ok:HOk P w H h) (mu:Mut (H x)) (he:e = x ∨ H e = some (.own x)) (k:∀ b u,b ≠ e → h.get? b = some u → h'.get? b = some u) (heo:∃ u,h'.get? e = some u)
    (new:ObjOk P w (upd H x o') h' x o'):HOk P w (upd H x o') h':=fun b u q => by
  have nown:∀ c y,H c = some (.own y) → c ≠ x:=fun c y r z => by subst z; rw [r] at mu; exact mu
  have ntup:∀ c xs,H c = some (.tup xs) → c ≠ x:=fun c xs r z => by subst z; rw [r] at mu; exact mu
  by_cases hb:b = x
  · subst hb; rw [upd_same] at q; cases q; exact new
  · rw [upd_ne hb] at q
    by_cases hbe:b = e
    · have q':H b = some (.own x):=by
        rcases he with z | z
        · exact absurd (hbe.trans z) hb
        · rw [hbe]; exact z
      rw [q] at q'; cases q'
      obtain ⟨v,hv⟩:=heo
      exact ⟨v,by rw [hbe]; exact hv⟩
    · refine (ok b u q).stay (fun c v hc r => k c v ?_ r) (fun c r => by rw [upd_ne (nown c b r)]; exact r) fun c xs r => by rw [upd_ne (ntup c xs r)]; exact r
      rcases hc with rfl | hc
      · exact hbe
      · rintro rfl
        rcases he with z | z
        · exact nown c b hc z
        · rw [hc] at z; cases z; exact hb rfl
end
structure Un (fs ex:List Addr) (H H':Hp) (h h':Heap):Prop where
  keep:∀ b o,h.get? b = some o → H b = none → b ∉ fs → b ∉ ex → h'.get? b = some o
  slot:∀ b o,h.get? b = some o → H b = none → b ∈ fs → b ∉ ex → ∃ sl,h'.get? b = some { o with slots:=sl }
  free:∀ b o,h.get? b = some o → H b = none → b ∉ ex → H' b = none
  there:∀ b o,h.get? b = some o → b ∉ ex → ∃ o',h'.get? b = some o'
  tups:∀ b xs,H b = some (.tup xs) → H' b = some (.tup xs)
  frzs:∀ b o u,H b = some (.frz o u) → H' b = some (.frz o u)
  tbls:∀ b ps,H b = some (.tbl ps) → ∃ more,H' b = some (.tbl (ps ++ more))
section
variable {fs fs' ex ex':List Addr} {H H1 H2:Hp} {h h1 h2 h':Heap} {a x e:Addr} {o:HO}
theorem Un.any (u:Un fs ex H H1 h h1) {b:Addr} {ob:Obj} (q:h.get? b = some ob) (n:H b = none) (hx:b ∉ ex):∃ sl,h1.get? b = some { ob with slots:=sl }:=by
  by_cases hb:b ∈ fs
  · exact u.slot b ob q n hb hx
  · exact ⟨ob.slots,u.keep b ob q n hb hx⟩
theorem Un.kept (k:∀ b u,h.get? b = some u → h'.get? b = some u):Un fs ex H H h h' :=
  ⟨fun b ob q _ _ _ => k b ob q,fun b ob q _ _ _ => ⟨ob.slots,k b ob q⟩,fun _ _ _ n _ => n,fun b ob q _ => ⟨ob,k b ob q⟩,fun _ _ q => q,fun _ _ _ q => q,fun _ ps q => ⟨#[],by rw [q]; simp⟩⟩
theorem Un.refl:Un fs ex H H h h:=Un.kept fun _ _ q => q
theorem Un.laid (k:∀ b u,h.get? b = some u → h'.get? b = some u) (hp:h.objs.size ≤ a) (hn:H a = none):Un fs ex H (upd H a o) h h' where
  keep:=fun b u q _ _ _ => k b u q
  slot:=fun b u q _ _ _ => ⟨u.slots,k b u q⟩
  free:=fun b u q n _ => by rw [upd_ne (Nat.ne_of_lt (Nat.lt_of_lt_of_le (Heap.lt_size q) hp))]; exact n
  there:=fun b u q _ => ⟨u,k b u q⟩
  tups:=fun b xs q => by rw [upd_ne (ne_of_none q hn)]; exact q
  frzs:=fun b u xs q => by rw [upd_ne (ne_of_none q hn)]; exact q
  tbls:=fun b ps q => ⟨#[],by rw [upd_ne (ne_of_none q hn),q]; simp⟩
theorem Un.write (mu:Mut (H x)) (he:e = x ∨ H e = some (.own x)) (k:∀ b u,b ≠ e → h.get? b = some u → h'.get? b = some u) (heo:∃ u,h'.get? e = some u):Un fs ex H (upd H x o) h h':=by
  have hx:∀ b,H b = none → b ≠ x:=fun b n z => by subst z; rw [n] at mu; exact mu
  have hb:∀ b,H b = none → b ≠ e:=fun b n z => by
    subst z
    rcases he with r | r
    · exact hx b n r
    · rw [n] at r; cases r
  have hm:∀ b u,H b = some u → ¬ Mut (some u) → b ≠ x:=fun b u q nm z => by subst z; rw [q] at mu; exact nm mu
  refine ⟨fun b u q n _ _ => k b u (hb b n) q,fun b u q n _ _ => ⟨u.slots,k b u (hb b n) q⟩,fun b u q n _ => by rw [upd_ne (hx b n)]; exact n,fun b u q _ => ?_,
    fun b xs q => by rw [upd_ne (hm b _ q fun z => z)]; exact q,fun b u xs q => by rw [upd_ne (hm b _ q fun z => z)]; exact q,fun b ps q => ⟨#[],by rw [upd_ne (hm b _ q fun z => z),q]; simp⟩⟩
  by_cases hbe:b = e
  · subst hbe; exact heo
  · exact ⟨u,k b u hbe q⟩
end
noncomputable def trk (h:Heap) (H:Hp):List Addr:=(List.range h.objs.size).filter fun a => (H a).isSome
noncomputable def hidT (h:Heap) (H:Hp):Heap:=PySem.W.hideAll h (trk h H)
theorem hidT_size (h:Heap) (H:Hp):(hidT h H).objs.size = h.objs.size:=PySem.W.hideAll_size _ _
theorem hidT_get {h:Heap} {H:Hp} {b:Addr} {o:Obj} (e:h.get? b = some o) (n:H b = none):(hidT h H).get? b = some o :=
  PySem.W.hideAll_get _ e fun hm => by
    have q:(H b).isSome = true:=(List.mem_filter.mp hm).2
    rw [n] at q; simp at q
theorem of_hidT {h:Heap} {H:Hp} {b:Addr} {o:Obj} (e:(hidT h H).get? b = some o):h.get? b = some o ∧ H b = none:=by
  have e':h.get? b = some o:=PySem.W.of_hideAll (trk h H) e
  refine ⟨e',?_⟩
  cases q:H b with
  | none => rfl
  | some x =>
    have hm:b ∈ trk h H:=List.mem_filter.mpr ⟨List.mem_range.mpr (Heap.lt_size e'),by simp [q]⟩
    have z:(hidT h H).get? b = none:=PySem.W.hideAll_none (trk h H) hm
    rw [z] at e; cases e
noncomputable def allNews (g h:Heap) (L:Addr):List (Addr × Obj):=(List.range h.objs.size).filterMap fun a => if a = L ∨ (g.get? a).isSome = true then none else (h.get? a).map fun o => (a,o)
noncomputable def rest (g h:Heap) (L d:Addr):List (Addr × Obj):=(allNews g h L).filter fun p => decide (p.1 ≠ d)
end L2
namespace L2
open PySem PySem.Spec PyProof.Rows
structure Mod (K:PySem.W.Frag) (mg:Str → Option Value) (base:Heap):Prop where
  kin:K.In base
  glob:base.Ns mainGlobals mg
  blt:∃ mb,base.Ns builtinsNs mb ∧ ∀ x:Str,x ≠ "__name__" → mb x = bootBuiltins x
  nolimit:base.NoLimit
structure Cx where
  prog:Program
  w:World
  K:PySem.W.Frag
  mg:Str → Option Value
  base:Heap
  A:Around
  N:List Str
  s₀:Shared
  H₀:Hp
  env:Env
  outer:List Env
  stack:List Env
  ex:List Addr
  fn:Str → Bool
  calm:Bool
  pn:List (Addr × Obj)
  xe:Value → Shared → Prop
noncomputable def frs (l:List Env):List Addr:=l.filterMap (·.frame)
noncomputable abbrev Cx.fs (X:Cx):List Addr:=frs X.outer
noncomputable def Vis (sc:Scope) (x:Str):Prop:=sc.names.lookup x = some .local ∨ sc.names.lookup x = some .cell ∨ sc.names.lookup x = some .free
noncomputable def Loc (sc:Scope) (x:Str):Prop:=sc.names.lookup x = some .local ∨ sc.names.lookup x = some .cell
noncomputable def Look (env:Env) (h:Heap) (m:Str → Option Value) (x:Str) (u:Value):Prop :=
  (env.kindOf x = some .local ∧ m x = some u) ∨ ((env.kindOf x = some .cell ∨ env.kindOf x = some .free) ∧ ∃ c,env.cells.lookup x = some c ∧ h.IsCell c (some u))
structure Cx.Ok (X:Cx):Prop where
  mod:Mod X.K X.mg X.base
  kind:X.env.scope.kind = .function
  glob:X.env.globals = mainGlobals
  blt:X.env.builtins = builtinsNs
  above:X.s₀.heap.objs.size ≤ X.env.locals
  inj:∀ x y c,X.env.cells.lookup x = some c → X.env.cells.lookup y = some c → x = y
  has:∀ x,(X.env.kindOf x = some .cell ∨ X.env.kindOf x = some .free) → ∃ c,X.env.cells.lookup x = some c
  cab:∀ x c,X.fn x = true → X.env.cells.lookup x = some c → X.s₀.heap.objs.size ≤ c
  hd:X.calm = true → X.A.handled = none
  frames:X.A.frames = some X.stack
  stk:X.stack = X.outer ∨ (X.stack = X.env :: X.outer ∧ X.env.frame = some X.env.locals)
  exf:∀ b ∈ X.ex,b ≠ X.env.locals ∧ ∀ x c,X.env.cells.lookup x = some c → c ≠ b
  bs:∀ b o,X.base.get? b = some o → X.s₀.heap.get? b = some o ∧ X.H₀ b = none
  bsz:X.base.objs.size ≤ X.s₀.heap.objs.size
  noex:∀ b o,X.base.get? b = some o → b ∉ X.ex
  exfs:∀ b ∈ X.ex,b ∉ X.fs
  funs:X.s₀.heap.FunFrames X.base X.outer
  frf:∀ b ∈ X.fs,X.H₀ b = none
structure Inv (X:Cx) (pins:List (Addr × Obj)) (σ:List (Option V)) (H:Hp) (s:Shared):Prop where
  ok:X.Ok
  os:s.os = X.s₀.os
  bare:AllBare s.gens
  base:Un X.fs X.ex X.H₀ H X.s₀.heap s.heap
  loc:∃ m,s.heap.Ns X.env.locals m ∧ ∀ (i:Nat) (x:Str) (v:V),X.N[i]? = some x → σ[i]? = some (some v) → Vis X.env.scope x → ∃ u,RelV v u ∧ Look X.env s.heap m x u
  cell:∀ x c,X.env.cells.lookup x = some c → ∃ v,s.heap.IsCell c v
  free:H X.env.locals = none
  freeC:∀ x c,X.env.cells.lookup x = some c → H c = none
  pin:∀ p ∈ X.pn ++ pins,s.heap.get? p.1 = some p.2 ∧ H p.1 = none ∧ p.1 ≠ X.env.locals ∧ p.1 ∉ X.fs ∧ ∀ v,p.2.data ≠ .cell v
  hok:HOk X.prog X.w H s.heap
  len:σ.length = X.N.length
section
variable {X:Cx} {pins:List (Addr × Obj)} {σ:List (Option V)} {H H':Hp} {s:Shared} {h':Heap}
theorem Cx.Ok.nofr (ok:X.Ok) {b:Addr} {o:Obj} (e:X.base.get? b = some o):b ∉ X.fs:=fun hb => by
  have:=(ok.funs.mem hb).1
  rw [e] at this; cases this
theorem Inv.bs (I:Inv X pins σ H s):∀ b o,X.base.get? b = some o → s.heap.get? b = some o ∧ H b = none:=fun b o e =>
  ⟨I.base.keep b o (I.ok.bs b o e).1 (I.ok.bs b o e).2 (I.ok.nofr e) (I.ok.noex b o e),I.base.free b o (I.ok.bs b o e).1 (I.ok.bs b o e).2 (I.ok.noex b o e)⟩
theorem Inv.bk (I:Inv X pins σ H s):∀ b o,X.base.get? b = some o → s.heap.get? b = some o:=fun b o e => (I.bs b o e).1
theorem Inv.mod (I:Inv X pins σ H s):Mod X.K X.mg X.base:=I.ok.mod
theorem Inv.kIn (I:Inv X pins σ H s):X.K.In s.heap:=I.ok.mod.kin.keeps I.bk
theorem Inv.lt (I:Inv X pins σ H s):X.env.locals < s.heap.objs.size:=let ⟨_,hn,_⟩:=I.loc; hn.lt
theorem Inv.sz (I:Inv X pins σ H s):X.s₀.heap.objs.size ≤ s.heap.objs.size:=Nat.le_trans I.ok.above (Nat.le_of_lt I.lt)
theorem Inv.nofs (I:Inv X pins σ H s) {a:Addr} (h:s.heap.objs.size ≤ a):a ∉ X.fs:=fun hb => by
  obtain ⟨_,o,ho,_⟩:=I.ok.funs.mem hb
  exact absurd (Nat.lt_of_lt_of_le (Heap.lt_size ho) (Nat.le_trans I.sz h)) (Nat.lt_irrefl _)
theorem Inv.cne (I:Inv X pins σ H s):∀ x c,X.env.cells.lookup x = some c → c ≠ X.env.locals:=fun x c e z => by
  obtain ⟨v,o,ho,hd⟩:=I.cell x c e
  obtain ⟨m,⟨o',es,ep,ho',hd',_⟩,_⟩:=I.loc
  rw [z,ho'] at ho; cases ho; rw [hd'] at hd; cases hd
theorem Inv.funs (I:Inv X pins σ H s):s.heap.FunFrames X.base X.outer:=by
  have all:∀ (l:List Env),(∀ b ∈ frs l,b ∈ X.fs) → X.s₀.heap.FunFrames X.base l → s.heap.FunFrames X.base l:=by
    intro l
    induction l with
    | nil => intro _ _; trivial
    | cons env r ih =>
      intro hs hl
      obtain ⟨hk,⟨L,o,hf,hn,ho,hd⟩,hr⟩:=hl
      have hL:L ∈ X.fs:=hs L (by unfold frs; rw [List.filterMap_cons,hf]; exact List.mem_cons_self)
      obtain ⟨sl,e⟩:=I.base.slot L o ho (I.ok.frf L hL) hL fun z => I.ok.exfs L z hL
      exact ⟨hk,⟨L,_,hf,hn,e,hd⟩,ih (fun b hb => hs b (by unfold frs; rw [List.filterMap_cons,hf]; exact List.mem_cons_of_mem _ hb)) hr⟩
  exact all X.outer (fun _ hb => hb) I.ok.funs
theorem Inv.stack (I:Inv X pins σ H s):s.heap.FunFrames X.base X.stack:=by
  rcases I.ok.stk with e | ⟨e,hf⟩
  · rw [e]; exact I.funs
  · rw [e]
    obtain ⟨m,hn,_⟩:=I.loc
    refine .cons (by rw [I.ok.kind]; decide) hf hn ?_ I.funs
    exact Heap.get?_none_of_le (Nat.le_trans I.ok.bsz I.ok.above)
theorem Inv.stkSub (I:Inv X pins σ H s):∀ b ∈ frs X.stack,b ∈ X.env.locals :: X.fs:=fun b hb => by
  rcases I.ok.stk with e | ⟨e,hf⟩
  · rw [e] at hb; exact List.mem_cons_of_mem _ hb
  · rw [e] at hb
    unfold frs at hb
    rw [List.filterMap_cons,hf] at hb
    exact hb
theorem Inv.stkFree (I:Inv X pins σ H s):∀ b ∈ frs X.stack,H b = none:=fun b hb => by
  rcases List.mem_cons.mp (I.stkSub b hb) with e | hb
  · rw [e]; exact I.free
  · obtain ⟨_,o,ho,_⟩:=I.ok.funs.mem hb
    exact I.base.free b o ho (I.ok.frf b hb) fun z => I.ok.exfs b z hb
theorem Inv.step {g':Array GenState} {t':Nat} {d':Drawn} {ch:List Addr} (I:Inv X pins σ H s)
    (hch:∀ b ∈ ch,(b ∈ X.ex ∨ X.s₀.heap.objs.size ≤ b) ∧ b ≠ X.env.locals ∧ (∀ x c,X.env.cells.lookup x = some c → c ≠ b) ∧ ∀ p ∈ X.pn ++ pins,p.1 ≠ b)
    (keep:∀ b o,b ≠ X.env.locals → b ∉ X.fs → b ∉ ch → s.heap.get? b = some o → H b = none → h'.get? b = some o)
    (slot:∀ b o,b ≠ X.env.locals → b ∈ X.fs → b ∉ ch → s.heap.get? b = some o → H b = none → ∃ sl,h'.get? b = some { o with slots:=sl }) (free:∀ b o,b ∉ ch → s.heap.get? b = some o → H b = none → H' b = none)
    (there:∀ b o,b ∉ ch → s.heap.get? b = some o → ∃ o',h'.get? b = some o')
    (tups:∀ b xs,H b = some (.tup xs) → H' b = some (.tup xs)) (frzs:∀ b o u,H b = some (.frz o u) → H' b = some (.frz o u)) (tbls:∀ b ps,H b = some (.tbl ps) → ∃ more,H' b = some (.tbl (ps ++ more)))
    (ns:∀ m,s.heap.Ns X.env.locals m → h'.Ns X.env.locals m) (hok:HOk X.prog X.w H' h') (hg:AllBare g') :
    Inv X pins σ H' { s with heap:=h',gens:=g',drawn:=d',toks:=t' }:=by
  have neL:∀ b o,X.s₀.heap.get? b = some o → b ≠ X.env.locals:=fun b o e => Nat.ne_of_lt (Nat.lt_of_lt_of_le (Heap.lt_size e) I.ok.above)
  have neC:∀ b o,X.s₀.heap.get? b = some o → b ∉ X.ex → b ∉ ch:=fun b o e hx hb => by
    rcases (hch b hb).1 with z | z
    · exact hx z
    · exact absurd (Nat.lt_of_lt_of_le (Heap.lt_size e) z) (Nat.lt_irrefl _)
  have cellK:∀ x c,X.env.cells.lookup x = some c → ∀ v,s.heap.IsCell c v → h'.IsCell c v:=fun x c e v ⟨o,ho,hd⟩ => by
    have nch:c ∉ ch:=fun z => (hch c z).2.2.1 x c e rfl
    by_cases hc:c ∈ X.fs
    · obtain ⟨sl,q⟩:=slot c o (I.cne x c e) hc nch ho (I.freeC x c e)
      exact ⟨_,q,hd⟩
    · exact ⟨o,keep c o (I.cne x c e) hc nch ho (I.freeC x c e),hd⟩
  refine ⟨I.ok,I.os,hg,⟨fun b o e n hb hx => ?_,fun b o e n hb hx => ?_,fun b o e n hx => ?_,fun b o e hx => ?_,fun b xs e => tups b xs (I.base.tups b xs e),fun b o xs e => frzs b o xs (I.base.frzs b o xs e),fun b ps e => ?_⟩,?_,fun x c e => ?_,?_,fun x c e => ?_,fun p hp => ?_,hok,I.len⟩
  · exact keep b o (neL b o e) hb (neC b o e hx) (I.base.keep b o e n hb hx) (I.base.free b o e n hx)
  · obtain ⟨sl,e1⟩:=I.base.slot b o e n hb hx
    obtain ⟨sl',e2⟩:=slot b _ (neL b o e) hb (neC b o e hx) e1 (I.base.free b o e n hx)
    exact ⟨sl',e2⟩
  · obtain ⟨o',e1⟩:=I.base.there b o e hx
    exact free b o' (neC b o e hx) e1 (I.base.free b o e n hx)
  · obtain ⟨o',e1⟩:=I.base.there b o e hx
    exact there b o' (neC b o e hx) e1
  · obtain ⟨m1,e1⟩:=I.base.tbls b ps e
    obtain ⟨m2,e2⟩:=tbls b _ e1
    exact ⟨m1 ++ m2,by rw [e2,Array.append_assoc]⟩
  · obtain ⟨m,hn,hl⟩:=I.loc
    refine ⟨m,ns m hn,fun i x v e1 e2 e3 => ?_⟩
    obtain ⟨u,r,l⟩:=hl i x v e1 e2 e3
    refine ⟨u,r,?_⟩
    rcases l with l | ⟨k,c,e,z⟩
    · exact .inl l
    · exact .inr ⟨k,c,e,cellK x c e _ z⟩
  · obtain ⟨v,z⟩:=I.cell x c e
    exact ⟨v,cellK x c e v z⟩
  · obtain ⟨m,⟨o,_,_,ho,_⟩,_⟩:=I.loc
    exact free _ o (fun z => (hch _ z).2.1 rfl) ho I.free
  · obtain ⟨v,o,ho,hd⟩:=I.cell x c e
    exact free c o (fun z => (hch c z).2.2.1 x c e rfl) ho (I.freeC x c e)
  · obtain ⟨e,n,ne,nf,d⟩:=I.pin p hp
    have nch:p.1 ∉ ch:=fun z => (hch p.1 z).2.2.2 p hp rfl
    exact ⟨keep p.1 p.2 ne nf nch e n,free p.1 p.2 nch e n,ne,nf,d⟩
theorem Inv.un {t':Nat} (I:Inv X pins σ H s) (u:Un X.fs [] H H' s.heap h') (hok:HOk X.prog X.w H' h'):Inv X pins σ H' { s with heap:=h',toks:=t' }:=by
  obtain ⟨m,⟨o,es,ep,ho,r⟩,_⟩:=id I.loc
  obtain ⟨sl,hL⟩:=u.any ho I.free (by simp)
  exact I.step (g':=s.gens) (d':=s.drawn) (ch:=[]) (fun _ z => nomatch z) (fun b o _ hb _ e n => u.keep b o e n hb (by simp)) (fun b o _ hb _ e n => u.slot b o e n hb (by simp)) (fun b o _ e n => u.free b o e n (by simp)) (fun b o _ e => u.there b o e (by simp)) u.tups u.frzs u.tbls (fun m' hm => by
    obtain ⟨o',es',ep',ho',r'⟩:=hm
    rw [ho] at ho'; cases ho'
    exact ⟨_,es',ep',hL,r'⟩) hok I.bare
theorem Inv.call {g':Array GenState} {t':Nat} {d':Drawn} {ch:List Addr} (I:Inv X pins σ H s) (u:Un (frs X.stack) ch H H' s.heap h') (hok:HOk X.prog X.w H' h') (hg:AllBare g')
    (hch:∀ b ∈ ch,(b ∈ X.ex ∨ X.s₀.heap.objs.size ≤ b) ∧ b ≠ X.env.locals ∧ (∀ x c,X.env.cells.lookup x = some c → c ≠ b) ∧ ∀ p ∈ X.pn ++ pins,p.1 ≠ b) :
    Inv X pins σ H' { s with heap:=h',gens:=g',drawn:=d',toks:=t' }:=by
  obtain ⟨m,⟨o,es,ep,ho,r⟩,_⟩:=id I.loc
  obtain ⟨sl,hL⟩:=u.any ho I.free fun z => (hch _ z).2.1 rfl
  exact I.step (ch:=ch) hch (fun b o hL hb hc e n => u.keep b o e n (fun z => (List.mem_cons.mp (I.stkSub b z)).elim hL hb) hc) (fun b o _ _ hc e n => u.any e n hc) (fun b o hc e n => u.free b o e n hc) (fun b o hc e => u.there b o e hc) u.tups u.frzs u.tbls (fun m' hm => by
    obtain ⟨o',es',ep',ho',r'⟩:=hm
    rw [ho] at ho'; cases ho'
    exact ⟨_,es',ep',hL,r'⟩) hok hg
theorem Inv.turned {t':Nat} {it:Addr} (I:Inv X pins σ H s) (k:∀ b o,b ≠ it → s.heap.get? b = some o → h'.get? b = some o) (hn:H it = none) (hL:it ≠ X.env.locals)
    (h1:it ∈ X.ex ∨ X.s₀.heap.objs.size ≤ it) (h2:∀ x c,X.env.cells.lookup x = some c → c ≠ it) (h3:∀ p ∈ X.pn ++ pins,p.1 ≠ it):Inv X pins σ H { s with heap:=h',toks:=t' }:=by
  have nit:∀ b u,H b = some u → b ≠ it:=fun b u e z => by rw [z,hn] at e; cases e
  refine I.step (g':=s.gens) (d':=s.drawn) (ch:=[it]) (fun b hb => ?_) (fun b o _ _ hc e _ => k b o (fun z => hc (by simp [z])) e) (fun b o _ _ hc e _ => ⟨o.slots,k b o (fun z => hc (by simp [z])) e⟩) (fun _ _ _ _ n => n)
    (fun b o hc e => ⟨o,k b o (fun z => hc (by simp [z])) e⟩) (fun _ _ e => e) (fun _ _ _ e => e) (fun b ps e => ⟨#[],by rw [e]; simp⟩) (fun m hm => ?_) (fun b u e => ?_) I.bare
  · have e:b = it:=by simpa using hb
    subst e
    exact ⟨h1,hL,h2,h3⟩
  · obtain ⟨o,es,ep,ho,r⟩:=hm
    exact ⟨o,es,ep,k _ o (Ne.symm hL) ho,r⟩
  · refine (I.hok b u e).stay (fun c v hc q => k c v ?_ q) (fun _ q => q) fun _ _ q => q
    rcases hc with z | z
    · rw [z]; exact nit b u e
    · exact nit c _ z
theorem Inv.tok (I:Inv X pins σ H s) (t:Nat):Inv X pins σ H { s with toks:=t }:=I.un (h':=s.heap) (t':=t) Un.refl I.hok
theorem Inv.kept {t':Nat} (I:Inv X pins σ H s) (k:∀ b u,s.heap.get? b = some u → h'.get? b = some u):Inv X pins σ H { s with heap:=h',toks:=t' }:=I.un (Un.kept k) (I.hok.kept k)
theorem Inv.laid {a:Addr} {o:HO} {t':Nat} (I:Inv X pins σ H s) (k:∀ b u,s.heap.get? b = some u → h'.get? b = some u) (hp:s.heap.objs.size ≤ a) (new:ObjOk X.prog X.w (upd H a o) h' a o) :
    Inv X pins σ (upd H a o) { s with heap:=h',toks:=t' }:=I.un (Un.laid k hp (I.hok.fresh hp)) (I.hok.laid k hp new)
theorem Inv.write {x e:Addr} {o:HO} {t':Nat} (I:Inv X pins σ H s) (mu:Mut (H x)) (he:e = x ∨ H e = some (.own x)) (k:∀ b u,b ≠ e → s.heap.get? b = some u → h'.get? b = some u) (heo:∃ u,h'.get? e = some u)
    (new:ObjOk X.prog X.w (upd H x o) h' x o):Inv X pins σ (upd H x o) { s with heap:=h',toks:=t' }:=I.un (Un.write mu he k heo) (I.hok.write mu he k heo new)
theorem Inv.weak {σ':List (Option V)} (I:Inv X pins σ H s) (hl:σ'.length = σ.length) (w:∀ (i:Nat) v,σ'[i]? = some (some v) → σ[i]? = some (some v)):Inv X pins σ' H s :=
  ⟨I.ok,I.os,I.bare,I.base,let ⟨m,hn,hl'⟩:=I.loc; ⟨m,hn,fun i x v e1 e2 e3 => hl' i x v e1 (w i v e2) e3⟩,I.cell,I.free,I.freeC,I.pin,I.hok,hl.trans I.len⟩
theorem Inv.pins_of {pins':List (Addr × Obj)} (I:Inv X pins σ H s) (h:∀ p ∈ pins',s.heap.get? p.1 = some p.2 ∧ H p.1 = none ∧ p.1 ≠ X.env.locals ∧ p.1 ∉ X.fs ∧ ∀ v,p.2.data ≠ .cell v):Inv X pins' σ H s :=
  ⟨I.ok,I.os,I.bare,I.base,I.loc,I.cell,I.free,I.freeC,fun p hp => (List.mem_append.mp hp).elim (fun z => I.pin p (List.mem_append_left _ z)) (h p),I.hok,I.len⟩
theorem nodup_ix {N:List Str} (hN:N.Nodup) {i j:Nat} {x:Str} (a:N[i]? = some x) (b:N[j]? = some x):i = j:=by
  obtain ⟨h1,e1⟩:=List.getElem?_eq_some_iff.mp a
  obtain ⟨h2,e2⟩:=List.getElem?_eq_some_iff.mp b
  exact (List.getElem_inj hN).mp (e1.trans e2.symm)
theorem store_ok2 {M:Model} {A:Around} {E:Value → Shared → Prop} {i:Nat} {x:Str} {v:V} {u:Value} {Q:Unit → Shared → Prop} (I:Inv X pins σ H s) (hN:X.N.Nodup) (hi:X.N[i]? = some x) (hx:Loc X.env.scope x) (r:RelV v u)
    (h:∀ s',Inv X pins (σ.set i (some v)) H s' → (∃ a,Heap.SameBut a s.heap s'.heap ∧ (a = X.env.locals ∨ X.env.cells.lookup x = some a)) → Q () s') (hf:X.fn x = true ∨ X.env.scope.names.lookup x = some .local:=by first | exact .inl rfl | exact .inr rfl | assumption):wpAny M A (storeName X.env x u) Q E s:=by
  obtain ⟨m,hn,hl⟩:=id I.loc
  have hcls:(X.env.scope.kind == .class || (X.env.scope.kind == .module && X.env.locals != X.env.globals)) = false:=by rw [I.ok.kind]; rfl
  have hiσ:i < σ.length:=by rw [I.len]; exact (List.getElem?_eq_some_iff.mp hi).1
  have cne:=I.cne
  have tracked:∀ {a:Addr} {h':Heap},(∃ o,s.heap.get? a = some o ∧ H a = none) → Heap.SameBut a s.heap h' → HOk X.prog X.w H h':=fun {a h'} ha hs b ob e => by
    obtain ⟨_,_,hfree⟩:=ha
    refine (I.hok b ob e).stay (fun c w' hc q => (hs.2 c ?_).trans q) (fun _ q => q) fun _ _ q => q
    rintro rfl
    rcases hc with rfl | hc
    · rw [hfree] at e; cases e
    · rw [hfree] at hc; cases hc
  rcases hx with hk | hk
  · refine wpAny_storeName_local hk hn (fun h' hn' hs => ?_) hcls
    obtain ⟨oL,_,_,hoL,_⟩:=id hn
    refine h _ ⟨I.ok,I.os,I.bare,⟨fun b o e n hb hx => ?_,fun b o e n hb hx => ?_,I.base.free,fun b o e hx => ?_,I.base.tups,I.base.frzs,I.base.tbls⟩,⟨_,hn',fun j y v' e1 e2 e3 => ?_⟩,fun y c e => ?_,I.free,I.freeC,fun p hp => ?_,tracked ⟨oL,hoL,I.free⟩ hs,by simpa using I.len⟩ ⟨_,hs,.inl rfl⟩
    · exact (hs.2 b (Nat.ne_of_lt (Nat.lt_of_lt_of_le (Heap.lt_size e) I.ok.above))).trans (I.base.keep b o e n hb hx)
    · obtain ⟨sl,e1⟩:=I.base.slot b o e n hb hx
      exact ⟨sl,(hs.2 b (Nat.ne_of_lt (Nat.lt_of_lt_of_le (Heap.lt_size e) I.ok.above))).trans e1⟩
    · obtain ⟨o',e1⟩:=I.base.there b o e hx
      exact ⟨o',(hs.2 b (Nat.ne_of_lt (Nat.lt_of_lt_of_le (Heap.lt_size e) I.ok.above))).trans e1⟩
    · by_cases hj:j = i
      · subst hj
        rw [hi] at e1; cases e1
        rw [List.getElem?_set_self hiσ] at e2
        cases e2
        exact ⟨u,r,.inl ⟨hk,by simp⟩⟩
      · rw [List.getElem?_set_ne (Ne.symm hj)] at e2
        obtain ⟨u',r',q⟩:=hl j y v' e1 e2 e3
        refine ⟨u',r',?_⟩
        rcases q with ⟨k,e⟩ | ⟨k,c,e,z⟩
        · refine .inl ⟨k,?_⟩
          have:y ≠ x:=fun e => hj (nodup_ix hN e1 (e ▸ hi))
          simp [this,e]
        · exact .inr ⟨k,c,e,z.sameBut hs (cne y c e)⟩
    · obtain ⟨w',z⟩:=I.cell y c e
      exact ⟨w',z.sameBut hs (cne y c e)⟩
    · obtain ⟨e,n,ne,nf,d⟩:=I.pin p hp
      exact ⟨(hs.2 p.1 ne).trans e,n,ne,nf,d⟩
  · have hfn:X.fn x = true:=by
      rcases hf with z | z
      · exact z
      · rw [z] at hk; cases hk
    obtain ⟨c,hc⟩:=I.ok.has x (.inl hk)
    obtain ⟨w',z⟩:=I.cell x c hc
    refine wpAny_storeName_cell I.ok.kind hk hc z (fun h' hc' hs => ?_)
    obtain ⟨oc,hoc,hocd⟩:=id z
    refine h { s with heap:=h' } ⟨I.ok,I.os,I.bare,⟨fun b o e n hb hx => ?_,fun b o e n hb hx => ?_,I.base.free,fun b o e hx => ?_,I.base.tups,I.base.frzs,I.base.tbls⟩,⟨m,hn.sameBut hs (Ne.symm (cne x c hc)),fun j y v' e1 e2 e3 => ?_⟩,fun y c' e => ?_,I.free,I.freeC,fun p hp => ?_,tracked ⟨oc,hoc,I.freeC x c hc⟩ hs,by simpa using I.len⟩ ⟨c,hs,.inr hc⟩
    · exact (hs.2 b (Nat.ne_of_lt (Nat.lt_of_lt_of_le (Heap.lt_size e) (I.ok.cab x c hfn hc)))).trans (I.base.keep b o e n hb hx)
    · obtain ⟨sl,e1⟩:=I.base.slot b o e n hb hx
      exact ⟨sl,(hs.2 b (Nat.ne_of_lt (Nat.lt_of_lt_of_le (Heap.lt_size e) (I.ok.cab x c hfn hc)))).trans e1⟩
    · obtain ⟨o',e1⟩:=I.base.there b o e hx
      exact ⟨o',(hs.2 b (Nat.ne_of_lt (Nat.lt_of_lt_of_le (Heap.lt_size e) (I.ok.cab x c hfn hc)))).trans e1⟩
    · by_cases hj:j = i
      · subst hj
        rw [hi] at e1; cases e1
        rw [List.getElem?_set_self hiσ] at e2
        cases e2
        exact ⟨u,r,.inr ⟨.inl hk,c,hc,hc'⟩⟩
      · rw [List.getElem?_set_ne (Ne.symm hj)] at e2
        obtain ⟨u',r',q⟩:=hl j y v' e1 e2 e3
        refine ⟨u',r',?_⟩
        rcases q with q | ⟨k,c',e,z'⟩
        · exact .inl q
        · refine .inr ⟨k,c',e,z'.sameBut hs ?_⟩
          rintro rfl
          exact hj (nodup_ix hN e1 (I.ok.inj _ _ _ e hc ▸ hi))
    · by_cases hcc:c' = c
      · subst hcc; exact ⟨_,hc'⟩
      · obtain ⟨w2,z2⟩:=I.cell y c' e
        exact ⟨w2,z2.sameBut hs hcc⟩
    · obtain ⟨e,n,ne,nf,d⟩:=I.pin p hp
      refine ⟨(hs.2 p.1 ?_).trans e,n,ne,nf,d⟩
      intro q
      rw [q,hoc] at e
      have q':oc = p.2:=Option.some.inj e
      exact d w' (by rw [← q']; exact hocd)
theorem store_ok {M:Model} {A:Around} {E:Value → Shared → Prop} {i:Nat} {x:Str} {v:V} {u:Value} {Q:Unit → Shared → Prop} (I:Inv X pins σ H s) (hN:X.N.Nodup) (hi:X.N[i]? = some x) (hx:Loc X.env.scope x) (r:RelV v u)
    (h:∀ s',Inv X pins (σ.set i (some v)) H s' → Q () s') (hf:X.fn x = true ∨ X.env.scope.names.lookup x = some .local:=by first | exact .inl rfl | exact .inr rfl | assumption):wpAny M A (storeName X.env x u) Q E s :=
  store_ok2 I hN hi hx r (fun s' I' _ => h s' I') hf
theorem Inv.call' {s':Shared} {ch:List Addr} (I:Inv X pins σ H s) (ho:s'.os = s.os) (u:Un (frs X.stack) ch H H' s.heap s'.heap) (hok:HOk X.prog X.w H' s'.heap) (hg:AllBare s'.gens)
    (hch:∀ b ∈ ch,(b ∈ X.ex ∨ X.s₀.heap.objs.size ≤ b) ∧ b ≠ X.env.locals ∧ (∀ x c,X.env.cells.lookup x = some c → c ≠ b) ∧ ∀ p ∈ X.pn ++ pins,p.1 ≠ b):Inv X pins σ H' s':=by
  obtain ⟨h',g',d',t',o'⟩:=s'
  have e:o' = s.os:=ho
  subst e
  exact I.call (g':=g') (t':=t') (d':=d') u hok hg hch
end
noncomputable abbrev XK:=Value → Option Addr → Hp → Prop
noncomputable abbrev St:=List (Option V)
noncomputable abbrev VK:=V → Hp → Prop
noncomputable abbrev TE:=St → Hp → VK → Prop
noncomputable abbrev TT:=St → Hp → (Bool → Hp → Prop) → Prop
noncomputable abbrev TA:=St → Hp → (List V → Hp → Prop) → Prop
structure Ends where
  nx:St → Hp → Prop
  rt:VK
  bk:St → Hp → Prop:=fun _ _ => False
  ct:St → Hp → Prop:=fun _ _ => False
noncomputable abbrev TS:=Ends → St → Hp → Prop
noncomputable def EP (X:Cx) (pins:List (Addr × Obj)) (σ:St) (Q:VK) (u:Value) (s':Shared):Prop:=∃ v H',Inv X pins σ H' s' ∧ RelV v u ∧ Q v H'
noncomputable def TP (X:Cx) (pins:List (Addr × Obj)) (σ:St) (Q:Bool → Hp → Prop) (b:Bool) (s':Shared):Prop:=∃ H',Inv X pins σ H' s' ∧ Q b H'
noncomputable def AP (X:Cx) (pins:List (Addr × Obj)) (σ:St) (Q:List V → Hp → Prop) (us:List Value) (s':Shared):Prop:=∃ vs H',Inv X pins σ H' s' ∧ Vals vs us ∧ Q vs H'
noncomputable def SP (X:Cx) (pins:List (Addr × Obj)) (D:Ends) (f:Flow) (s':Shared):Prop :=
  match f with
  | .next => ∃ σ' H',Inv X pins σ' H' s' ∧ D.nx σ' H'
  | .brk => ∃ σ' H',Inv X pins σ' H' s' ∧ D.bk σ' H'
  | .cont => ∃ σ' H',Inv X pins σ' H' s' ∧ D.ct σ' H'
  | .ret u => ∃ v σ' H',Inv X pins σ' H' s' ∧ RelV v u ∧ D.rt v H'
noncomputable def PE (X:Cx) (e:Expr) (t:TE):Prop :=
  ∀ (pins:List (Addr × Obj)) (s:Shared) (σ:St) (H:Hp) (Q:VK),Inv X pins σ H s → t σ H Q → wpAny (model X.prog X.w) X.A (eval e X.env) (EP X pins σ Q) X.xe s
noncomputable def PT (X:Cx) (e:Expr) (t:TT):Prop :=
  ∀ (pins:List (Addr × Obj)) (s:Shared) (σ:St) (H:Hp) (Q:Bool → Hp → Prop),Inv X pins σ H s → t σ H Q → wpAny (model X.prog X.w) X.A (isTrue e X.env (eval e X.env)) (TP X pins σ Q) X.xe s
noncomputable def PW (X:Cx) (e:Expr) (t:TT):Prop :=
  ∀ (whole:Sem Value) (pins:List (Addr × Obj)) (s:Shared) (σ:St) (H:Hp) (Q:Bool → Hp → Prop),Inv X pins σ H s → t σ H Q → wpAny (model X.prog X.w) X.A (isTrue e X.env whole) (TP X pins σ Q) X.xe s
theorem PW.pt {X:Cx} {e:Expr} {t:TT} (h:PW X e t):PT X e t:=h _
noncomputable def PA (X:Cx) (es:List Expr) (t:TA):Prop :=
  ∀ (pos:Pos) (pins:List (Addr × Obj)) (s:Shared) (σ:St) (H:Hp) (Q:List V → Hp → Prop),Inv X pins σ H s → t σ H Q → wpAny (model X.prog X.w) X.A (spliced (backTo pos (starEach es X.env))) (AP X pins σ Q) X.xe s
noncomputable def PS (X:Cx) (st:Stmt) (t:TS):Prop :=
  ∀ (pins:List (Addr × Obj)) (s:Shared) (σ:St) (H:Hp) (D:Ends),Inv X pins σ H s → t D σ H → wpAny (model X.prog X.w) X.A (exec st X.env) (SP X pins D) X.xe s
noncomputable def PSs (X:Cx) (st:List Stmt) (t:TS):Prop :=
  ∀ (pins:List (Addr × Obj)) (s:Shared) (σ:St) (H:Hp) (D:Ends),Inv X pins σ H s → t D σ H → wpAny (model X.prog X.w) X.A (execs st X.env) (SP X pins D) X.xe s
theorem thn {α:Type} {t:Sem α} {Q Q':α → Shared → Prop} {M:Model} {A:Around} {E:Value → Shared → Prop} {s:Shared} (h:wpAny M A t Q E s) (hQ:∀ a s,Q a s → Q' a s):wpAny M A t Q' E s:=wpAny_mono h hQ fun _ _ x => x
end L2
namespace L2
open PySem PySem.Spec PyProof.Rows
section
variable {X:Cx}
noncomputable def tVar (i:Nat):TE:=fun σ H Q => ∃ v,σ[i]? = some (some v) ∧ Q v H
noncomputable def tC (v:V):TE:=fun _ H Q => Q v H
theorem pe_var {i:Nat} {x:Str} {pos:Pos} (hN:X.N[i]? = some x) (hv:Vis X.env.scope x) (hd:(x == ("__debug__":Str)) = false:=by decide) (hcd:(x == ("__classdict__":Str)) = false:=by decide):PE X (.Name x pos) (tVar i):=by
  intro pins s σ H Q I h
  obtain ⟨v,e,h⟩:=h
  obtain ⟨m,hn,hl⟩:=I.loc
  obtain ⟨u,r,l⟩:=hl i x v hN e hv
  have fin:EP X pins σ Q u s:=⟨v,H,I,r,h⟩
  rcases l with ⟨hk,hm⟩ | ⟨hk,c,hc,hcell⟩
  · exact wpAny_Name (wpAny_loadName_local I.ok.kind hk hn hm fin) hd
  · rcases hk with hk | hk
    · exact wpAny_Name (wpAny_loadName_cell I.ok.kind hk hc hcell fin) hd
    · exact wpAny_Name (wpAny_loadName_free I.ok.kind hk hc hcell fin hcd) hd
theorem pe_int {i j pos}:PE X (.Constant (.int i) j pos) (tC (.int i)):=fun _ _ _ H _ I h => wpAny_Constant_int ⟨.int i,H,I.tok _,⟨_,rfl⟩,h⟩
theorem pe_bl {b j pos}:PE X (.Constant (.bool b) j pos) (tC (.bl b)):=fun _ _ _ H _ I h => Constant_bool ⟨.bl b,H,I,rfl,h⟩
theorem pe_non {j pos}:PE X (.Constant .none j pos) (tC .non):=fun _ _ _ H _ I h => Constant_none ⟨.non,H,I,rfl,h⟩
theorem pe_str {x j pos}:PE X (.Constant (.str x) j pos) (tC (.str x)):=fun _ _ _ H _ I h => Calls.Constant_str ⟨.str x,H,I.tok _,⟨_,rfl⟩,h⟩
noncomputable def Gl (X:Cx) (x:Str):Prop:=X.env.kindOf x = some .globalImplicit
theorem ld_glob {E:Value → Shared → Prop} {pins:List (Addr × Obj)} {s:Shared} {σ:St} {H:Hp} {x:Str} {u:Value} {pos:Pos} {Q:Value → Shared → Prop} (I:Inv X pins σ H s) (hg:Gl X x) (hm:X.mg x = some u) (h:Q u s)
    (hd:(x == ("__debug__":Str)) = false:=by decide):wpAny (model X.prog X.w) X.A (eval (.Name x pos) X.env) Q E s :=
  Calls.Name_function_global I.ok.kind hg (Calls.loadGlobal_global (by rw [I.ok.glob]; exact I.mod.glob.keeps I.bk) hm h) hd
theorem ld_blt {E:Value → Shared → Prop} {pins:List (Addr × Obj)} {s:Shared} {σ:St} {H:Hp} {x:Str} {u:Value} {pos:Pos} {Q:Value → Shared → Prop} (I:Inv X pins σ H s) (hg:Gl X x) (hm:X.mg x = none) (hv:bootBuiltins x = some u) (h:Q u s)
    (hn:x ≠ "__name__":=by decide) (hd:(x == ("__debug__":Str)) = false:=by decide):wpAny (model X.prog X.w) X.A (eval (.Name x pos) X.env) Q E s:=by
  obtain ⟨mb,h1,h2⟩:=I.mod.blt
  exact Calls.Name_function_global I.ok.kind hg (Calls.loadGlobal_builtin (by rw [I.ok.glob]; exact I.mod.glob.keeps I.bk) hm (by rw [I.ok.blt]; exact h1.keeps I.bk) ((h2 x hn).trans hv) h) hd
theorem pe_glob {x:Str} {v:V} {u:Value} {pos:Pos} (hg:Gl X x) (hm:X.mg x = some u) (r:RelV v u) (hd:(x == ("__debug__":Str)) = false:=by decide):PE X (.Name x pos) (tC v) :=
  fun _ _ _ H _ I h => ld_glob I hg hm ⟨v,H,I,r,h⟩ hd
theorem pe_bltn {x:Str} {v:V} {u:Value} {pos:Pos} (hg:Gl X x) (hm:X.mg x = none) (hv:bootBuiltins x = some u) (r:RelV v u) (hn:x ≠ "__name__":=by decide) (hd:(x == ("__debug__":Str)) = false:=by decide):PE X (.Name x pos) (tC v) :=
  fun _ _ _ H _ I h => ld_blt I hg hm hv ⟨v,H,I,r,h⟩ hn hd
variable {a b:Expr} {ta tb:TE} {pos:Pos}
noncomputable def PC (X:Cx) (op:CmpOp) (a b:Expr) (t:TE):Prop :=
  ∀ (pins:List (Addr × Obj)) (s:Shared) (σ:St) (H:Hp) (Q:VK),Inv X pins σ H s → t σ H Q →
    wpAny (model X.prog X.w) X.A (eval a X.env) (fun v s₁ => wpAny (model X.prog X.w) X.A (eval b X.env) (fun u s₂ => wpAny (model X.prog X.w) X.A (compareOp op v u) (EP X pins σ Q) X.xe s₂) X.xe s₁) X.xe s
noncomputable def tB (t:TE):TT:=fun σ H Q => t σ H fun x H1 => ∃ c,x = .bl c ∧ Q c H1
theorem pt_cmp {op:CmpOp} {t:TE} (h:PC X op a b t) (h1:behindInMarks op b = false:=by first | exact nobehind _ (by decide) (by decide) | rfl):PT X (.Compare a [op] [b] pos) (tB t):=by
  intro pins s σ H Q I hw
  refine wpAny_isTrue_Compare1 (thn (h pins s σ H _ I hw) fun v s1 h1 => thn h1 fun u s2 h2 => thn h2 fun c s3 ⟨x,H1,I1,r1,q1⟩ => ?_) h1
  obtain ⟨d,rfl,q⟩:=q1
  cases r1
  exact wpAny_truthy_bool ⟨H1,I1,q⟩
theorem pt_val {e:Expr} {t:TE} (h:PE X e t) (he:∀ whole,isTrue e X.env whole = (do let v ← whole; standAt e.pos; holding [v] (truthy v)):=by intro _; rfl):PT X e (tB t):=by
  intro pins s σ H Q I hw
  refine isTrue_plain (thn (h pins s σ H _ I hw) fun v s1 ⟨x,H1,I1,r1,q1⟩ => ?_) (he _)
  obtain ⟨d,rfl,q⟩:=q1
  cases r1
  exact wpAny_truthy_bool ⟨H1,I1,q⟩
variable {tA tB':TT} {rest:List Expr}
noncomputable def tAnd (t u:TT):TT:=fun σ H Q => t σ H fun c H1 => if c = true then u σ H1 Q else Q false H1
noncomputable def tOr (t u:TT):TT:=fun σ H Q => t σ H fun c H1 => if c = true then Q true H1 else u σ H1 Q
noncomputable def tNot (t:TT):TT:=fun σ H Q => t σ H fun c H1 => Q (!c) H1
theorem pw_and1 (ha:PT X a tA):PW X (.BoolOp .And [a] pos) tA:=by
  intro wh pins s σ H Q I h
  refine isTrue_and (thn (ha pins s σ H Q I h) fun c s1 e => ?_)
  cases c with
  | true => exact isTrue_and_nil e
  | false => exact e
theorem pw_or1 (ha:PT X a tA):PW X (.BoolOp .Or [a] pos) tA:=by
  intro wh pins s σ H Q I h
  refine isTrue_or (thn (ha pins s σ H Q I h) fun c s1 e => ?_)
  cases c with
  | false => exact isTrue_or_nil e
  | true => exact e
theorem pw_and (ha:PT X a tA) (hb:PW X (.BoolOp .And (b :: rest) pos) tB'):PW X (.BoolOp .And (a :: b :: rest) pos) (tAnd tA tB'):=by
  intro wh pins s σ H Q I h
  refine isTrue_and (thn (ha pins s σ H _ I h) fun c s1 ⟨H1,I1,q1⟩ => ?_)
  cases c with
  | true => exact hb wh pins s1 σ H1 Q I1 q1
  | false => exact ⟨H1,I1,q1⟩
theorem pw_or (ha:PT X a tA) (hb:PW X (.BoolOp .Or (b :: rest) pos) tB'):PW X (.BoolOp .Or (a :: b :: rest) pos) (tOr tA tB'):=by
  intro wh pins s σ H Q I h
  refine isTrue_or (thn (ha pins s σ H _ I h) fun c s1 ⟨H1,I1,q1⟩ => ?_)
  cases c with
  | true => exact ⟨H1,I1,q1⟩
  | false => exact hb wh pins s1 σ H1 Q I1 q1
theorem pt_not (ha:PT X a tA):PT X (.UnaryOp .Not a pos) (tNot tA):=by
  intro pins s σ H Q I h
  exact isTrue_not (ha pins s σ H (fun c H1 => Q (!c) H1) I h)
noncomputable def tAndV (ta tb:TE):TE:=fun σ H Q => ta σ H fun x H1 => ∃ c,x = .bl c ∧ if c = true then tb σ H1 Q else Q (.bl false) H1
theorem pe_one {op} {t:TE} (h:PE X a t):PE X (.BoolOp op [a] pos) t:=fun pins s σ H Q I hw => BoolOp_one (h pins s σ H Q I hw)
theorem pe_and (ha:PE X a ta) (hb:PE X (.BoolOp .And (b :: rest) pos) tb):PE X (.BoolOp .And (a :: b :: rest) pos) (tAndV ta tb):=by
  intro pins s σ H Q I h
  refine BoolOp_and (thn (ha pins s σ H _ I h) fun v s1 ⟨x,H1,I1,r1,q1⟩ => ?_)
  obtain ⟨c,rfl,q1⟩:=q1
  cases r1
  refine wpAny_truthy_bool ?_
  cases c with
  | true => exact hb pins s1 σ H1 Q I1 q1
  | false => exact ⟨.bl false,H1,I1,rfl,q1⟩
noncomputable def tIf (t:TT) (ta tb:TE):TE:=fun σ H Q => t σ H fun c H1 => if c = true then ta σ H1 Q else tb σ H1 Q
theorem pe_ifExp {c:Expr} (hc:PT X c tA) (ha:PE X a ta) (hb:PE X b tb):PE X (.IfExp c a b pos) (tIf tA ta tb):=by
  intro pins s σ H Q I h
  refine wpAny_IfExp (thn (hc pins s σ H _ I h) fun d s1 ⟨H1,I1,q1⟩ => ?_)
  cases d with
  | true => exact ha pins s1 σ H1 Q I1 q1
  | false => exact hb pins s1 σ H1 Q I1 q1
end
end L2
namespace L2
open PySem PySem.Spec PyProof.Rows
noncomputable def SqL (K:PySem.W.Frag) (H:Hp) (a:Addr) (xs:List V):Prop :=
  Rd H a (.lst xs) ∨
    ∃ (o:Obj) (its:Array Value) (n:Nat),K.lookup a = some o ∧ o.cls = .type "list" ∧ o.dict = none ∧ o.data = .seq its n ∧ its.size ≤ sizeLine ∧ Vals xs its.toList
noncomputable def SqT (K:PySem.W.Frag) (H:Hp) (a:Addr) (xs:List V):Prop :=
  Rd H a (.tup xs) ∨
    ∃ (o:Obj) (its:Array Value) (n:Nat),K.lookup a = some o ∧ o.cls = .type "tuple" ∧ o.data = .seq its n ∧ its.size ≤ sizeLine ∧ Vals xs its.toList
noncomputable def absV:Value → Option V
  | .none => some .non
  | .bool b => some (.bl b)
  | .int i _ => some (.int i)
  | .str x _ => some (.str x)
  | .bytes b _ => some (.byt b)
  | .float b _ => some (.flt b)
  | .ref a => some (.ref a)
  | .type n => some (.ty n)
  | _ => none
theorem RelV.abs {x:V} {u:Value} (r:RelV x u):absV u = some x:=by
  cases x with
  | non => cases r; rfl
  | bl _ => cases r; rfl
  | int _ => obtain ⟨t,rfl⟩:=r; rfl
  | str _ => obtain ⟨t,rfl⟩:=r; rfl
  | byt _ => obtain ⟨t,rfl⟩:=r; rfl
  | flt _ => obtain ⟨t,rfl⟩:=r; rfl
  | ref _ => cases r; rfl
  | ty _ => cases r; rfl
theorem RelV.inj {x y:V} {u:Value} (r:RelV x u) (q:RelV y u):x = y:=Option.some.inj (r.abs.symm.trans q.abs)
theorem Vals.inj:∀ {xs ys:List V} {us:List Value},Vals xs us → Vals ys us → xs = ys
  | _,_,_,.nil,.nil => rfl
  | _,_,_,.cons r t,.cons r' t' => by rw [r.inj r',Vals.inj t t']
section
variable {X:Cx} {pins:List (Addr × Obj)} {σ:St} {H:Hp} {s:Shared} {a:Addr} {xs ys:List V}
theorem SqL.of {K:PySem.W.Frag} (h:H a = some (.lst xs)):SqL K H a xs:=.inl (.inl h)
theorem SqT.of {K:PySem.W.Frag} (h:H a = some (.tup xs)):SqT K H a xs:=.inl (.inl h)
theorem Inv.list (I:Inv X pins σ H s) (h:SqL X.K H a xs):∃ its:List Value,Vals xs its ∧ PlainL s.heap a its.toArray ∧ xs.length ≤ sizeLine:=by
  rcases h with h | ⟨o,its,n,hk,hc,hd,hs,hz,r⟩
  · obtain ⟨z,its,n,r,e⟩:=h.ok I.hok
    exact ⟨its,r,⟨_,n,e,rfl,rfl,rfl⟩,z⟩
  · refine ⟨its.toList,r,⟨o,n,I.kIn a o hk,hc,hd,by simpa using hs⟩,?_⟩
    have e:=r.length
    simp only [Array.length_toList] at e
    omega
theorem Inv.tuple (I:Inv X pins σ H s) (h:SqT X.K H a xs):∃ its:List Value,Vals xs its ∧ IsTup s.heap a its.toArray ∧ xs.length ≤ sizeLine:=by
  rcases h with h | ⟨o,its,n,hk,hc,hs,hz,r⟩
  · obtain ⟨z,its,r,p⟩:=h.ok I.hok
    exact ⟨its,r,p,z⟩
  · refine ⟨its.toList,r,⟨o,I.kIn a o hk,hc,n,by simpa using hs⟩,?_⟩
    have e:=r.length
    simp only [Array.length_toList] at e
    omega
theorem Inv.list_inj (I:Inv X pins σ H s) (h:SqL X.K H a xs) (h':SqL X.K H a ys):xs = ys:=by
  obtain ⟨its,r,⟨o,n,e,_,_,d⟩,_⟩:=I.list h
  obtain ⟨its',r',⟨o',n',e',_,_,d'⟩,_⟩:=I.list h'
  rw [e] at e'; cases e'
  rw [d] at d'
  injection d' with d1 _
  have:its = its':=by simpa using congrArg Array.toList d1
  subst this
  exact r.inj r'
theorem Inv.tuple_inj (I:Inv X pins σ H s) (h:SqT X.K H a xs) (h':SqT X.K H a ys):xs = ys:=by
  obtain ⟨its,r,⟨o,e,_,n,d⟩,_⟩:=I.tuple h
  obtain ⟨its',r',⟨o',e',_,n',d'⟩,_⟩:=I.tuple h'
  rw [e] at e'; cases e'
  rw [d] at d'
  injection d' with d1 _
  have:its = its':=by simpa using congrArg Array.toList d1
  subst this
  exact r.inj r'
end
noncomputable abbrev Cx.wish (X:Cx) (E:Value → Shared → Prop):Cx:={ X with xe:=E }
noncomputable abbrev Cx.nox (X:Cx):Cx:=X.wish fun _ _ => False
theorem Cx.Ok.wish {X:Cx} (ok:X.Ok) (E:Value → Shared → Prop):(X.wish E).Ok :=
  ⟨ok.mod,ok.kind,ok.glob,ok.blt,ok.above,ok.inj,ok.has,ok.cab,ok.hd,ok.frames,ok.stk,ok.exf,ok.bs,ok.bsz,ok.noex,ok.exfs,ok.funs,ok.frf⟩
theorem Cx.Ok.unwish {X:Cx} {E:Value → Shared → Prop} (ok:(X.wish E).Ok):X.Ok :=
  ⟨ok.mod,ok.kind,ok.glob,ok.blt,ok.above,ok.inj,ok.has,ok.cab,ok.hd,ok.frames,ok.stk,ok.exf,ok.bs,ok.bsz,ok.noex,ok.exfs,ok.funs,ok.frf⟩
section
variable {X:Cx} {pins:List (Addr × Obj)} {σ:St} {H:Hp} {s:Shared} {E:Value → Shared → Prop}
theorem Inv.wish (I:Inv X pins σ H s) (E:Value → Shared → Prop):Inv (X.wish E) pins σ H s:=⟨I.ok.wish E,I.os,I.bare,I.base,I.loc,I.cell,I.free,I.freeC,I.pin,I.hok,I.len⟩
theorem Inv.unwish (I:Inv (X.wish E) pins σ H s):Inv X pins σ H s:=⟨I.ok.unwish,I.os,I.bare,I.base,I.loc,I.cell,I.free,I.freeC,I.pin,I.hok,I.len⟩
theorem SP.unwish {D:Ends} {f:Flow} {s':Shared} (h:SP (X.wish E) pins D f s'):SP X pins D f s':=by
  cases f with
  | next => obtain ⟨σ',H',I,q⟩:=h; exact ⟨σ',H',I.unwish,q⟩
  | brk => obtain ⟨σ',H',I,q⟩:=h; exact ⟨σ',H',I.unwish,q⟩
  | cont => obtain ⟨σ',H',I,q⟩:=h; exact ⟨σ',H',I.unwish,q⟩
  | ret u => obtain ⟨v,σ',H',I,r,q⟩:=h; exact ⟨v,σ',H',I.unwish,r,q⟩
theorem PSs.nox {st:List Stmt} {t:TS} (h:PSs X.nox st t):PSs X st t:=fun pins s σ H D I hw =>
  wpAny_mono (h pins s σ H D (I.wish _) hw) (fun _ _ q => q.unwish) fun _ _ z => False.elim z
end
section
variable {X:Cx} {st:Stmt} {rest:List Stmt} {t u:TS} {e:Expr} {te:TE} {pos:Pos}
noncomputable def tNext:TS:=fun D σ H => D.nx σ H
noncomputable def tSeq (t u:TS):TS:=fun D σ H => t { D with nx:=u D } σ H
theorem pss_nil:PSs X [] tNext:=fun _ _ σ H _ I h => wpAny_execs_nil ⟨σ,H,I,h⟩
theorem pss_cons (h1:PS X st t) (h2:PSs X rest u):PSs X (st :: rest) (tSeq t u):=by
  intro pins s σ H D I h
  refine wpAny_execs_cons (thn (h1 pins s σ H { D with nx:=u D } I h) fun f s1 q => ?_)
  cases f with
  | next =>
    obtain ⟨σ',H',I',q⟩:=q
    exact h2 pins s1 σ' H' D I' q
  | ret v => exact q
  | brk => exact q
  | cont => exact q
theorem pss_one (h1:PS X st t):PSs X [st] t:=by
  intro pins s σ H D I h
  refine wpAny_execs_cons (thn (h1 pins s σ H D I h) fun f s1 q => ?_)
  cases f with
  | next => exact wpAny_execs_nil q
  | ret v => exact q
  | brk => exact q
  | cont => exact q
theorem Inv.quiet {pins:List (Addr × Obj)} {σ:St} {H:Hp} {s:Shared} (I:Inv X pins σ H s):interactive X.env = false:=by simp [interactive,I.ok.kind]
noncomputable def tDrop (te:TE):TS:=fun D σ H => te σ H fun _ H1 => D.nx σ H1
theorem ps_expr (he:PE X e te) (hs:swapsWith e none pos.line X.env = pure false:=by rfl):PS X (.Expr e pos) (tDrop te):=by
  intro pins s σ H D I h
  exact wpAny_Expr_any (thn (he pins s σ H _ I h) fun v s1 ⟨x,H1,I1,r1,q1⟩ => ⟨σ,H1,I1,q1⟩) I.quiet hs
noncomputable def tRet (te:TE):TS:=fun D σ H => te σ H D.rt
theorem ps_ret (he:PE X e te):PS X (.Return (some e) pos) (tRet te):=by
  intro pins s σ H D I h
  exact wpAny_Return_some (thn (he pins s σ H _ I h) fun v s1 ⟨x,H1,I1,r1,q1⟩ => ⟨x,σ,H1,I1,r1,q1⟩)
noncomputable def tIfS (c:TT) (t u:TS):TS:=fun D σ H => c σ H fun b H1 => if b = true then t D σ H1 else u D σ H1
theorem ps_if {c:Expr} {a b:List Stmt} {tc:TT} (hc:PT X c tc) (ha:PSs X a t) (hb:PSs X b u):PS X (.If c a b pos) (tIfS tc t u):=by
  intro pins s σ H D I h
  refine wpAny_If (thn (hc pins s σ H _ I h) fun d s1 ⟨H1,I1,q1⟩ => ?_)
  cases d with
  | true => exact ha pins s1 σ H1 D I1 q1
  | false => exact hb pins s1 σ H1 D I1 q1
end
noncomputable abbrev TG:=V → St → Hp → (St → Hp → Prop) → Prop
noncomputable abbrev TGs:=List V → St → Hp → (St → Hp → Prop) → Prop
noncomputable def PG (X:Cx) (target:Expr) (t:TG):Prop :=
  ∀ (pins:List (Addr × Obj)) (s:Shared) (σ:St) (H:Hp) (v:V) (u:Value) (Q:St → Hp → Prop),Inv X pins σ H s → RelV v u → t v σ H Q →
    wpAny (model X.prog X.w) X.A (assign target X.env u) (fun _ s' => ∃ σ' H',Inv X pins σ' H' s' ∧ Q σ' H') X.xe s
noncomputable def PGs (X:Cx) (ts:List Expr) (t:TGs):Prop :=
  ∀ (pins:List (Addr × Obj)) (s:Shared) (σ:St) (H:Hp) (vs:List V) (us:List Value) (Q:St → Hp → Prop),Inv X pins σ H s → Vals vs us → t vs σ H Q →
    wpAny (model X.prog X.w) X.A (assignInOrder ((assignEach ts X.env).map (·.2)) us) (fun _ s' => ∃ σ' H',Inv X pins σ' H' s' ∧ Q σ' H') X.xe s
noncomputable abbrev TIp:=V → V → Hp → VK → Prop
noncomputable def PIp (X:Cx) (op:Operator) (t:TIp):Prop :=
  ∀ (pins:List (Addr × Obj)) (s:Shared) (σ:St) (H:Hp) (x y:V) (v u:Value) (Q:VK),Inv X pins σ H s → RelV x v → RelV y u → t x y H Q →
    wpAny (model X.prog X.w) X.A (inplaceOp op v u) (EP X pins σ Q) X.xe s
section
variable {X:Cx} {pos:Pos}
noncomputable def gName (i:Nat):TG:=fun v σ H Q => Q (σ.set i (some v)) H
theorem pg_name {i:Nat} {x:Str} (hN:X.N.Nodup) (hi:X.N[i]? = some x) (hx:Loc X.env.scope x) (hf:X.fn x = true ∨ X.env.scope.names.lookup x = some .local:=by first | exact .inl rfl | exact .inr rfl | assumption):PG X (.Name x pos) (gName i):=by
  intro pins s σ H v u Q I r h
  exact wpAny_assign_Name (store_ok I hN hi hx r (fun s' I' => ⟨_,H,I',h⟩) hf)
noncomputable def gNil:TGs:=fun vs σ H Q => vs = [] ∧ Q σ H
noncomputable def gCons (t:TG) (u:TGs):TGs:=fun vs σ H Q => ∃ v r,vs = v :: r ∧ t v σ H fun σ' H' => u r σ' H' Q
theorem pgs_nil:PGs X [] gNil:=by
  intro pins s σ H vs us Q I r h
  obtain ⟨e,h⟩:=h
  subst e
  cases r
  exact assignInOrder_nil ⟨σ,H,I,h⟩
theorem pgs_cons {e:Expr} {es:List Expr} {t:TG} {u:TGs} (h1:PG X e t) (h2:PGs X es u)
    (hs:(assignEach (e :: es) X.env).map (·.2) = assign e X.env :: (assignEach es X.env).map (·.2):=by rfl):PGs X (e :: es) (gCons t u):=by
  intro pins s σ H vs us Q I r h
  obtain ⟨v,vr,e1,h⟩:=h
  subst e1
  cases r with
  | cons r rr =>
    rw [hs]
    refine assignInOrder_cons (thn (h1 pins s σ H _ _ _ I r h) fun _ s1 ⟨σ1,H1,I1,q1⟩ => ?_)
    exact h2 pins s1 σ1 H1 _ _ Q I1 rr q1
noncomputable def gTup (K:PySem.W.Frag) (n:Nat) (t:TGs):TG:=fun v σ H Q => ∃ a xs,v = .ref a ∧ SqT K H a xs ∧ xs.length = n ∧ t xs σ H Q
theorem pg_tup {es:List Expr} {k:Nat} {t:TGs} {n:Nat} (hc:X.calm = true) (h:PGs X es t)
    (hn:(assignEach es X.env).length = n:=by rfl) (hst:(assignEach es X.env).findIdx? (·.1) = none:=by rfl):PG X (.Tuple es k pos) (gTup X.K n t):=by
  intro pins s σ H v u Q I r hw
  obtain ⟨a,xs,e1,hq,hl,hw⟩:=hw
  subst e1
  cases r
  obtain ⟨its,rv,ht,hz⟩:=I.tuple hq
  refine assign_Tuple_tuple (I.ok.hd hc) ht (by simp [hn,← hl,rv.length]) hst fun h' hx => ?_
  have I1:Inv X pins σ H { s with heap:=h' }:=I.kept (t':=s.toks) fun b o e => hx b o (Nat.ne_of_lt (Heap.lt_size e)) e
  exact h pins _ σ H xs _ Q I1 (by simpa using rv) hw
noncomputable def tAsg (te:TE) (g:TG):TS:=fun D σ H => te σ H fun x H1 => g x σ H1 D.nx
theorem ps_set {i:Nat} {x:Str} {e:Expr} {te:TE} {pos':Pos} (hN:X.N.Nodup) (hi:X.N[i]? = some x) (hx:Loc X.env.scope x) (he:PE X e te) (hs:swapsWith e (some (.Name x pos')) pos.line X.env = pure false:=by rfl) (hf:X.fn x = true ∨ X.env.scope.names.lookup x = some .local:=by first | exact .inl rfl | exact .inr rfl | assumption) :
    PS X (.Assign [.Name x pos'] e pos) (tAsg te (gName i)):=by
  intro pins s σ H D I h
  refine wpAny_Assign_Name (thn (he pins s σ H _ I h) fun v s1 ⟨y,H1,I1,r1,q1⟩ => ?_) hs
  exact store_ok I1 hN hi hx r1 (fun s2 I2 => ⟨_,H1,I2,q1⟩) hf
noncomputable def tAug (i:Nat) (te:TE) (ti:TIp):TS:=fun D σ H => ∃ x,σ[i]? = some (some x) ∧ te σ H fun y H1 => ti x y H1 fun z H2 => D.nx (σ.set i (some z)) H2
theorem ps_aug {i:Nat} {x:Str} {e:Expr} {te:TE} {op:Operator} {ti:TIp} {pos':Pos} (hN:X.N.Nodup) (hi:X.N[i]? = some x) (hx:Loc X.env.scope x) (he:PE X e te) (ho:PIp X op ti) (hf:X.fn x = true ∨ X.env.scope.names.lookup x = some .local:=by first | exact .inl rfl | exact .inr rfl | assumption) :
    PS X (.AugAssign (.Name x pos') op e pos) (tAug i te ti):=by
  intro pins s σ H D I h
  obtain ⟨v,e1,h⟩:=h
  obtain ⟨m,hn,hl⟩:=I.loc
  have vis:Vis X.env.scope x:=by rcases hx with k | k; exact .inl k; exact .inr (.inl k)
  obtain ⟨u,r,l⟩:=hl i x v hi e1 vis
  refine wpAny_AugAssign_Name ?_
  have go:wpAny (model X.prog X.w) X.A (eval e X.env) (fun w s₂ => wpAny (model X.prog X.w) X.A (inplaceOp op u w) (fun r s₃ => wpAny (model X.prog X.w) X.A (storeName X.env x r) (fun _ => SP X pins D .next) X.xe s₃) X.xe s₂) X.xe s:=by
    refine thn (he pins s σ H _ I h) fun w s1 ⟨y,H1,I1,r1,q1⟩ => ?_
    refine thn (ho pins s1 σ H1 v y u w _ I1 r r1 q1) fun z s2 ⟨zv,H2,I2,r2,q2⟩ => ?_
    exact store_ok I2 hN hi hx r2 (fun s3 I3 => ⟨_,H2,I3,q2⟩) hf
  rcases l with ⟨hk,hm⟩ | ⟨hk,c,hc,hcell⟩
  · exact wpAny_loadName_local I.ok.kind hk hn hm go
  · rcases hk with hk | hk
    · exact wpAny_loadName_cell I.ok.kind hk hc hcell go
    · rcases hx with k | k
      · have:X.env.scope.names.lookup x = some .free:=hk
        rw [k] at this; cases this
      · have:X.env.scope.names.lookup x = some .free:=hk
        rw [k] at this; cases this
noncomputable def ipI (f:Int → Int → Int):TIp:=fun x y H Q => ∃ i j,x = .int i ∧ y = .int j ∧ Q (.int (f i j)) H
theorem ip_add:PIp X .Add (ipI fun i j => i + j):=by
  intro pins s σ H x y v u Q I r1 r2 h
  obtain ⟨i,j,e1,e2,q⟩:=h
  subst e1; subst e2
  obtain ⟨t,rfl⟩:=r1
  obtain ⟨t',rfl⟩:=r2
  exact iadd_int ⟨.int _,H,I.tok _,⟨_,rfl⟩,q⟩
end
section
variable {X:Cx} {pos:Pos}
noncomputable def tWhile (c:TT) (tb:TS):TS:=fun D σ H => ∃ W:Nat → St → Hp → Prop,(∃ m,W m σ H) ∧ ∀ m σ H,W m σ H →
  c σ H fun b H1 => if b = true then ∃ N:St → Hp → Prop,(∀ σ' H',N σ' H' → ∃ m',m' < m ∧ W m' σ' H') ∧ tb { D with nx:=N,ct:=N,bk:=D.nx } σ H1 else D.nx σ H1
theorem ps_while {c:Expr} {body:List Stmt} {tc:TT} {tb:TS} (hp:PassesOwn (model X.prog X.w) X.A X.env X.xe) (hc:PT X c tc) (hb:PSs X body tb):PS X (.While c body [] pos) (tWhile tc tb):=by
  intro pins s σ H D I h
  obtain ⟨W,⟨m0,w0⟩,turn⟩:=h
  refine wpAny_While (codeAny_whileLoop (fun n s' => ∃ σ' H',Inv X pins σ' H' s' ∧ W n σ' H') ?_ m0 ⟨σ,H,I,w0⟩)
  rintro n s1 ⟨σ1,H1,I1,w1⟩
  refine wpAny_passesOwn hp (thn (hc pins s1 σ1 H1 _ I1 (turn n σ1 H1 w1)) fun b s2 ⟨H2,I2,q2⟩ => ?_)
  cases b with
  | true =>
    obtain ⟨N,hN,q2⟩:=q2
    rw [if_pos rfl]
    refine wpAny_passesOwn hp (thn (hb pins s2 σ1 H2 _ I2 q2) fun f s3 q3 => ?_)
    cases f with
    | next =>
      obtain ⟨σ3,H3,I3,n3⟩:=q3
      obtain ⟨m',hm,w3⟩:=hN σ3 H3 n3
      exact ⟨m',hm,σ3,H3,I3,w3⟩
    | cont =>
      obtain ⟨σ3,H3,I3,n3⟩:=q3
      obtain ⟨m',hm,w3⟩:=hN σ3 H3 n3
      exact ⟨m',hm,σ3,H3,I3,w3⟩
    | brk => exact q3
    | ret v => exact q3
  | false =>
    rw [if_neg Bool.false_ne_true]
    exact wpAny_execs_nil ⟨σ1,H2,I2,q2⟩
end
structure It where
  go:Nat → Hp → Prop
  yld:Nat → Hp → V → Hp → Prop
  stop:Nat → Hp → Prop
noncomputable def FpOk (X:Cx) (pins:List (Addr × Obj)) (H:Hp) (b:Addr):Prop :=
  H b = none ∧ b ≠ X.env.locals ∧ b ∉ X.fs ∧ (b ∈ X.ex ∨ X.s₀.heap.objs.size ≤ b) ∧ (∀ x c,X.env.cells.lookup x = some c → c ≠ b) ∧ ∀ p ∈ X.pn ++ pins,p.1 ≠ b
theorem Inv.fpOk {X:Cx} {pins:List (Addr × Obj)} {σ:St} {H H':Hp} {s:Shared} {b:Addr} (I:Inv X pins σ H s) (hb:s.heap.objs.size ≤ b) (hn:H' b = none):FpOk X pins H' b:=by
  refine ⟨hn,Nat.ne_of_gt (Nat.lt_of_lt_of_le I.lt hb),I.nofs hb,.inr (Nat.le_trans I.sz hb),fun x c e z => ?_,fun p hp z => ?_⟩
  · obtain ⟨v,q⟩:=I.cell x c e
    exact absurd (Nat.lt_of_lt_of_le q.lt (by rw [z]; exact hb)) (Nat.lt_irrefl _)
  · exact absurd (Nat.lt_of_lt_of_le (Heap.lt_size (I.pin p hp).1) (by rw [z]; exact hb)) (Nat.lt_irrefl _)
structure Turn (P:Program) (w:World) (K:PySem.W.Frag) (tg:Expr) (J:It) (fp:List Addr) (it:Addr) (tn:Nat → Heap → Prop):Prop where
  mem:it ∈ fp
  obj:∀ i h,tn i h → ∀ b ∈ fp,∃ o,h.get? b = some o ∧ ∀ v,o.data ≠ .cell v
  keep:∀ i h h',tn i h → (∀ b ∈ fp,∀ o,h.get? b = some o → h'.get? b = some o) → tn i h'
  item:∀ (X:Cx),X.prog = P → X.w = w → X.K = K → X.calm = true → ∀ (i:Nat) (pins:List (Addr × Obj)) (s:Shared) (σ:St) (H:Hp) (E:Value → Shared → Prop),Inv X pins σ H s → (∀ b ∈ fp,FpOk X pins H b) → tn i s.heap → J.go i H →
    wpAny (model P w) X.A (pyNext (.ref it)) (fun r s1 => ∃ u,r = some u ∧
      wpAny (model P w) X.A (letOwnedTupleGo tg (.ref it) u) (fun _ s2 => ∃ x H',Inv X pins σ H' s2 ∧ RelV x u ∧ J.yld i H x H' ∧ tn (i + 1) s2.heap ∧ ∀ b ∈ fp,H' b = none) E s1) E s
  done:∀ (X:Cx),X.prog = P → X.w = w → X.K = K → X.calm = true → ∀ (i:Nat) (pins:List (Addr × Obj)) (s:Shared) (σ:St) (H:Hp) (E:Value → Shared → Prop),Inv X pins σ H s → (∀ b ∈ fp,FpOk X pins H b) → tn i s.heap → J.stop i H →
    wpAny (model P w) X.A (pyNext (.ref it)) (fun r s1 => r = none ∧ Inv X pins σ H s1) E s
  self:∀ (A:Around) (i:Nat) (s:Shared) (Q:Value → Shared → Prop) (E:Value → Shared → Prop),tn i s.heap → Q (.ref it) s → wpAny (model P w) A (pyIter (.ref it)) Q E s
noncomputable abbrev TI:=St → Hp → (It → Hp → Prop) → Prop
noncomputable def PIE (X:Cx) (pins:List (Addr × Obj)) (σ:St) (tg:Expr) (R:It → Hp → Prop) (itv:Value) (s2:Shared):Prop :=
  ∃ (it:Addr) (fp:List Addr) (tn:Nat → Heap → Prop) (J:It) (H':Hp),itv = .ref it ∧ Inv X pins σ H' s2 ∧ Turn X.prog X.w X.K tg J fp it tn ∧ tn 0 s2.heap ∧ (∀ b ∈ fp,FpOk X pins H' b) ∧ R J H'
noncomputable def PI (X:Cx) (tg iter:Expr) (wi:TI):Prop :=
  ∀ (pins:List (Addr × Obj)) (s:Shared) (σ:St) (H:Hp) (R:It → Hp → Prop),Inv X pins σ H s → wi σ H R →
    wpAny (model X.prog X.w) X.A (eval iter X.env) (fun v s1 => wpAny (model X.prog X.w) X.A (pyIter v) (PIE X pins σ tg R) X.xe s1) X.xe s
theorem go_of {M:Model} {A:Around} {E:Value → Shared → Prop} {s:Shared} {tg:Expr} {it:Addr} {u:Value} {o:Obj} {n:String} {vs:Array Value} {Q:Unit → Shared → Prop} (ho:s.heap.get? it = some o) (hc:o.cls = .type n) (hd:o.data = .fields vs)
    (hn:["enumerate","zip","dict_itemiterator","dict_reverseitemiterator","odict_iterator","itertools.zip_longest","itertools.pairwise"].contains n = false) (hQ:Q () s):wpAny M A (letOwnedTupleGo tg (.ref it) u) Q E s:=by
  unfold letOwnedTupleGo
  cases tg <;> first
    | exact wpAny_pure hQ
    | (cases u <;> first
        | exact wpAny_pure hQ
        | (refine wpAny_bind (wpAny_load ho ?_)
           rw [hc,hd]
           show wpAny M A (if (["enumerate","zip","dict_itemiterator","dict_reverseitemiterator","odict_iterator","itertools.zip_longest","itertools.pairwise"].contains n && vs[0]? == some (rawInt _)) = true then _ else _) Q E s
           rw [if_neg (by intro h; rw [hn,Bool.false_and] at h; cases h)]
           exact wpAny_pure hQ))
noncomputable def Itl (K:PySem.W.Frag) (a:Addr):It :=
  ⟨fun i H => ∃ xs x,SqL K H a xs ∧ xs[i]? = some x,fun i H x H' => H' = H ∧ ∀ xs,SqL K H a xs → xs[i]? = some x,fun i H => ∃ xs,SqL K H a xs ∧ xs.length ≤ i⟩
noncomputable def Itt (K:PySem.W.Frag) (a:Addr):It :=
  ⟨fun i H => ∃ xs x,SqT K H a xs ∧ xs[i]? = some x,fun i H x H' => H' = H ∧ ∀ xs,SqT K H a xs → xs[i]? = some x,fun i H => ∃ xs,SqT K H a xs ∧ xs.length ≤ i⟩
noncomputable def Itr (lo:Int) (n:Nat):It:=⟨fun i _ => i < n,fun i H x H' => H' = H ∧ x = .int (lo + i),fun i _ => n ≤ i⟩
theorem turn_list {P:Program} {w:World} {K:PySem.W.Frag} {tg:Expr} (a it:Addr):Turn P w K tg (Itl K a) [it] it (fun i h => h.IsListIter it a i) where
  mem:=by simp
  obj:=fun i h st b hb => by
    have e:b = it:=by simpa using hb
    subst e
    obtain ⟨o,e,c,d⟩:=st
    exact ⟨o,e,fun v z => by rw [d] at z; cases z⟩
  keep:=fun i h h' st k => st.at fun o e => k it (by simp) o e
  item:=by
    intro X hP hw hK hc i pins s σ H E I hf st hg
    subst hP hw hK
    obtain ⟨xs,x,hq,hx⟩:=hg
    obtain ⟨its,rv,p,hz⟩:=I.list hq
    obtain ⟨u,hu,ru⟩:=rv.get hx
    obtain ⟨f0,f1,f2,f3,f4,f5⟩:=hf it (by simp)
    refine wpAny_pyNext_list_item st p.isList (x:=u) (by simpa using hu) fun h' st' sb => ?_
    have I1:Inv X pins σ H { s with heap:=h' }:=I.turned (t':=s.toks) (fun b o hb e => (sb.2 b hb).trans e) f0 f1 f3 f4 f5
    obtain ⟨o,e,c,d⟩:=id st'
    exact ⟨u,rfl,go_of (s:={ s with heap:=h' }) e c d (by decide) ⟨x,H,I1,ru,⟨rfl,fun ys hy => by rw [I.list_inj hy hq]; exact hx⟩,st',fun b hb => (hf b hb).1⟩⟩
  done:=by
    intro X hP hw hK hc i pins s σ H E I hf st hg
    subst hP hw hK
    obtain ⟨xs,hq,hx⟩:=hg
    obtain ⟨its,rv,p,hz⟩:=I.list hq
    obtain ⟨f0,f1,f2,f3,f4,f5⟩:=hf it (by simp)
    have hl:=rv.length
    exact wpAny_pyNext_list_end (I.ok.hd hc) st p.isList (by simp; omega) fun h' eb => ⟨rfl,I.turned (t':=s.toks) (fun b o hb e => eb b o hb e) f0 f1 f3 f4 f5⟩
  self:=fun _ _ _ _ _ st h => wpAny_pyIter_listiter st h
theorem turn_tuple {P:Program} {w:World} {K:PySem.W.Frag} {tg:Expr} (a it:Addr):Turn P w K tg (Itt K a) [it] it (fun i h => h.IsTupleIter it a i) where
  mem:=by simp
  obj:=fun i h st b hb => by
    have e:b = it:=by simpa using hb
    subst e
    obtain ⟨o,e,c,d⟩:=st
    exact ⟨o,e,fun v z => by rw [d] at z; cases z⟩
  keep:=fun i h h' st k => st.at fun o e => k it (by simp) o e
  item:=by
    intro X hP hw hK hc i pins s σ H E I hf st hg
    subst hP hw hK
    obtain ⟨xs,x,hq,hx⟩:=hg
    obtain ⟨its,rv,p,hz⟩:=I.tuple hq
    obtain ⟨u,hu,ru⟩:=rv.get hx
    obtain ⟨f0,f1,f2,f3,f4,f5⟩:=hf it (by simp)
    refine wpAny_pyNext_tuple_item st (show s.heap.IsTuple a its.toArray from p) (x:=u) (by simpa using hu) fun h' st' sb => ?_
    have I1:Inv X pins σ H { s with heap:=h' }:=I.turned (t':=s.toks) (fun b o hb e => (sb.2 b hb).trans e) f0 f1 f3 f4 f5
    obtain ⟨o,e,c,d⟩:=id st'
    exact ⟨u,rfl,go_of (s:={ s with heap:=h' }) e c d (by decide) ⟨x,H,I1,ru,⟨rfl,fun ys hy => by rw [I.tuple_inj hy hq]; exact hx⟩,st',fun b hb => (hf b hb).1⟩⟩
  done:=by
    intro X hP hw hK hc i pins s σ H E I hf st hg
    subst hP hw hK
    obtain ⟨xs,hq,hx⟩:=hg
    obtain ⟨its,rv,p,hz⟩:=I.tuple hq
    obtain ⟨f0,f1,f2,f3,f4,f5⟩:=hf it (by simp)
    have hl:=rv.length
    exact wpAny_pyNext_tuple_end (I.ok.hd hc) st (show s.heap.IsTuple a its.toArray from p) (by simp; omega) fun h' eb => ⟨rfl,I.turned (t':=s.toks) (fun b o hb e => eb b o hb e) f0 f1 f3 f4 f5⟩
  self:=fun _ _ _ _ _ st h => wpAny_pyIter_tupleiter st h
theorem turn_range {P:Program} {w:World} {K:PySem.W.Frag} {tg:Expr} (it:Addr) (lo:Int) (n:Nat):Turn P w K tg (Itr lo n) [it] it (fun i h => IsRangeIter h it (lo + (i:Nat) * 1) ((n:Int) - (i:Nat)) 1) where
  mem:=by simp
  obj:=fun i h st b hb => by
    have e:b = it:=by simpa using hb
    subst e
    exact ⟨_,st,fun v z => by
      have z':Data.fields _ = Data.cell v:=z
      cases z'⟩
  keep:=fun i h h' st k => k it (by simp) _ st
  item:=by
    intro X hP hw hK hc i pins s σ H E I hf st hg
    subst hP hw hK
    obtain ⟨f0,f1,f2,f3,f4,f5⟩:=hf it (by simp)
    have W:=Walks.range (prog:=X.prog) (w:=X.w) (I.ok.hd hc) it lo 1 n
    refine W.item i s _ _ hg st fun v h' tk hv st' kk => ?_
    obtain ⟨t,rfl⟩:=hv
    have I1:Inv X pins σ H { s with heap:=h',toks:=tk }:=I.turned (fun b o hb e => kk b o (by simpa using hb) e) f0 f1 f3 f4 f5
    refine ⟨_,rfl,go_of (s:={ s with heap:=h',toks:=tk }) (n:="range_iterator") st' rfl rfl (by decide) ⟨.int (lo + i),H,I1,⟨t,?_⟩,⟨rfl,rfl⟩,st',fun b hb => (hf b hb).1⟩⟩
    rw [Int.mul_one]
  done:=by
    intro X hP hw hK hc i pins s σ H E I hf st hg
    subst hP hw hK
    obtain ⟨f0,f1,f2,f3,f4,f5⟩:=hf it (by simp)
    exact wpAny_pyNext_range_end (I.ok.hd hc) st (by have:n ≤ i:=hg; omega) fun h' eb => ⟨rfl,I.turned (t':=s.toks) (fun b o hb e => eb b o hb e) f0 f1 f3 f4 f5⟩
  self:=fun _ _ _ _ _ st h => wpAny_pyIter_rangeiter st h
end L2
namespace L2
open PySem PySem.Spec PyProof.Rows
section
variable {X:Cx} {tg:Expr}
noncomputable def iList (K:PySem.W.Frag) (tl:TE):TI:=fun σ H R => tl σ H fun x H1 => ∃ a,x = .ref a ∧ (∃ xs,SqL K H1 a xs) ∧ R (Itl K a) H1
noncomputable def iTup (K:PySem.W.Frag) (tl:TE):TI:=fun σ H R => tl σ H fun x H1 => ∃ a,x = .ref a ∧ (∃ xs,SqT K H1 a xs) ∧ R (Itt K a) H1
theorem pi_list {l:Expr} {tl:TE} (hl:PE X l tl):PI X tg l (iList X.K tl):=by
  intro pins s σ H R I h
  refine thn (hl pins s σ H _ I h) fun v s1 ⟨x,H1,I1,r1,q1⟩ => ?_
  obtain ⟨a,e,⟨xs,hq⟩,q⟩:=q1
  subst e
  cases r1
  obtain ⟨its,rv,p,hz⟩:=I1.list hq
  refine wpAny_pyIter_list p.isList ?_
  refine ⟨s1.heap.objs.size,[s1.heap.objs.size],_,_,H1,rfl,I1.kept (t':=s1.toks) fun b o e => Heap.get?_push_of_some _ e,turn_list a _,⟨_,Heap.get?_push_size _ rfl,rfl,rfl⟩,fun b hb => ?_,q⟩
  have e:b = s1.heap.objs.size:=by simpa using hb
  subst e
  exact I1.fpOk (Nat.le_refl _) (I1.hok.fresh (Nat.le_refl _))
theorem pi_tup {l:Expr} {tl:TE} (hl:PE X l tl):PI X tg l (iTup X.K tl):=by
  intro pins s σ H R I h
  refine thn (hl pins s σ H _ I h) fun v s1 ⟨x,H1,I1,r1,q1⟩ => ?_
  obtain ⟨a,e,⟨xs,hq⟩,q⟩:=q1
  subst e
  cases r1
  obtain ⟨its,rv,p,hz⟩:=I1.tuple hq
  refine wpAny_pyIter_tuple (show s1.heap.IsTuple a its.toArray from p) ?_
  refine ⟨s1.heap.objs.size,[s1.heap.objs.size],_,_,H1,rfl,I1.kept (t':=s1.toks) fun b o e => Heap.get?_push_of_some _ e,turn_tuple a _,⟨_,Heap.get?_push_size _ rfl,rfl,rfl⟩,fun b hb => ?_,q⟩
  have e:b = s1.heap.objs.size:=by simpa using hb
  subst e
  exact I1.fpOk (Nat.le_refl _) (I1.hok.fresh (Nat.le_refl _))
theorem range_it {pins:List (Addr × Obj)} {σ:St} {H:Hp} {s:Shared} {R:It → Hp → Prop} {E:Value → Shared → Prop} {lo hi:Int} {t u v:Tok} {tk:Nat} (I:Inv X pins σ H s) (h1:-(2 ^ 62) ≤ lo) (h2:lo < 2 ^ 62) (h3:-(2 ^ 62) ≤ hi) (h4:hi < 2 ^ 62)
    (q:R (Itr lo (hi - lo).toNat) H):wpAny (model X.prog X.w) X.A (pyIter (.ref s.heap.objs.size)) (PIE X pins σ tg R) E { s with heap:=s.heap.push { cls:=.type "range",data:=.fields #[.int lo t,.int hi u,.int 1 v] },toks:=tk }:=by
  refine wpAny_pyIter_range (IsRange.new ..) (small_one h1 h2 h3 h4) ?_
  have I1:Inv X pins σ H { s with heap:=s.heap.push { cls:=.type "range",data:=.fields #[.int lo t,.int hi u,.int 1 v] },toks:=tk }:=I.kept fun b o e => Heap.get?_push_of_some _ e
  refine ⟨(s.heap.push { cls:=.type "range",data:=.fields #[.int lo t,.int hi u,.int 1 v] }).objs.size,[(s.heap.push { cls:=.type "range",data:=.fields #[.int lo t,.int hi u,.int 1 v] }).objs.size],_,_,H,rfl,
    I1.kept (t':=tk) fun b o e => Heap.get?_push_of_some _ e,turn_range _ lo (hi - lo).toNat,?_,fun b hb => ?_,q⟩
  · have e1:lo + ((0:Nat):Int) * 1 = lo:=by simp
    have e2:(((hi - lo).toNat:Nat):Int) - ((0:Nat):Int) = Builtin.Range.rangeSize lo hi 1:=by rw [rangeSize_one]; split <;> omega
    show IsRangeIter _ _ (lo + ((0:Nat):Int) * 1) ((((hi - lo).toNat:Nat):Int) - ((0:Nat):Int)) 1
    rw [e1,e2]
    exact Heap.get?_push_size _ rfl
  · have e:b = (s.heap.push { cls:=.type "range",data:=.fields #[.int lo t,.int hi u,.int 1 v] }).objs.size:=by simpa using hb
    subst e
    exact I1.fpOk (Nat.le_refl _) (I1.hok.fresh (Nat.le_refl _))
noncomputable def iRng1 (ta:TA):TI:=fun σ H R => ta σ H fun vs H1 => ∃ j:Int,vs = [.int j] ∧ -(2 ^ 62) ≤ j ∧ j < 2 ^ 62 ∧ R (Itr 0 j.toNat) H1
theorem pi_range1 {a:Expr} {ta:TA} {p pos:Pos} (hg:Gl X "range") (hm:X.mg "range" = none) (ha:PA X [a] ta) (hs:starEach [a] X.env = [(false,eval a X.env)]:=by rfl):PI X tg (.Call (.Name "range" p) [a] [] pos) (iRng1 ta):=by
  intro pins s σ H R I h
  refine Call_ (ld_blt I hg hm boot_range (PyProof.Rows.callWith_type1 (thn (ha pos pins s σ H _ I h) fun us s1 ⟨vs,H1,I1,r1,q1⟩ => ?_) hs rfl))
  obtain ⟨j,e,q1,q2,q⟩:=q1
  subst e
  cases r1 with
  | cons r rr =>
    cases rr
    obtain ⟨t,rfl⟩:=r
    exact call_range_1 (range_it I1 (by omega) (by omega) q1 q2 (by simpa using q))
noncomputable def tFor (wi:TI) (g:TG) (tb:TS):TS:=fun D σ H => wi σ H fun J H1 => ∃ W:Nat → Nat → St → Hp → Prop,(∃ m,W 0 m σ H1) ∧ ∀ i m σ H,W i m σ H →
  (J.stop i H ∧ D.nx σ H) ∨ (J.go i H ∧ ∃ N:St → Hp → Prop,(∀ σ' H',N σ' H' → ∃ m',m' < m ∧ W (i + 1) m' σ' H') ∧ ∀ x H',J.yld i H x H' → g x σ H' fun σ2 H2 => tb { D with nx:=N,ct:=N,bk:=D.nx } σ2 H2)
noncomputable def pinsAt (fp:List Addr) (h:Heap):List (Addr × Obj):=fp.filterMap fun b => (h.get? b).map fun o => (b,o)
theorem mem_pinsAt {fp:List Addr} {h:Heap} {b:Addr} {o:Obj} (hb:b ∈ fp) (e:h.get? b = some o):(b,o) ∈ pinsAt fp h:=List.mem_filterMap.mpr ⟨b,hb,by rw [e]; rfl⟩
theorem of_pinsAt {fp:List Addr} {h:Heap} {p:Addr × Obj} (hp:p ∈ pinsAt fp h):p.1 ∈ fp ∧ h.get? p.1 = some p.2:=by
  obtain ⟨b,hb,e⟩:=List.mem_filterMap.mp hp
  cases q:h.get? b with
  | none => rw [q] at e; cases e
  | some o =>
    rw [q] at e
    have e':(b,o) = p:=Option.some.inj e
    subst e'
    exact ⟨hb,q⟩
theorem Inv.pinned {pins:List (Addr × Obj)} {σ:St} {H:Hp} {s:Shared} {fp:List Addr} (I:Inv X pins σ H s) (hf:∀ b ∈ fp,FpOk X pins H b) (ho:∀ b ∈ fp,∃ o,s.heap.get? b = some o ∧ ∀ v,o.data ≠ .cell v):Inv X (pins ++ pinsAt fp s.heap) σ H s :=
  I.pins_of fun p hp => (List.mem_append.mp hp).elim (fun z => I.pin p (List.mem_append_right _ z)) fun z => by
    obtain ⟨hb,e⟩:=of_pinsAt z
    obtain ⟨f0,f1,f2,_⟩:=hf p.1 hb
    obtain ⟨o,e',d⟩:=ho p.1 hb
    rw [e] at e'; cases e'
    exact ⟨e,f0,f1,f2,d⟩
theorem Inv.unpinned {pins pl:List (Addr × Obj)} {σ:St} {H:Hp} {s:Shared} (I:Inv X (pins ++ pl) σ H s):Inv X pins σ H s:=I.pins_of fun p hp => I.pin p (List.mem_append_right _ (List.mem_append_left _ hp))
theorem ps_for {iter:Expr} {body:List Stmt} {wi:TI} {g:TG} {tb:TS} {pos:Pos} (hp:PassesOwn (model X.prog X.w) X.A X.env X.xe) (hc:X.calm = true) (hi:PI X tg iter wi) (hg:PG X tg g) (hb:PSs X body tb)
    (hs:∀ x,foldedSetIterable iter X.env x = pure x:=by intro _; rfl):PS X (.For tg iter body [] pos) (tFor wi g tb):=by
  intro pins s σ H D I h
  refine wpAny_For (thn (hi pins s σ H _ I h) fun v s1 h1 => thn h1 fun itv s2 h2 => ?_) hs
  obtain ⟨it,fp,tn,J,H2,e,I2,T,st2,f2,W,⟨m0,w0⟩,turn⟩:=h2
  subst e
  have stat:∀ {H':Hp},(∀ b ∈ fp,H' b = none) → ∀ b ∈ fp,FpOk X pins H' b:=fun hn b hb => ⟨hn b hb,(f2 b hb).2⟩
  refine codeAny_forLoop_any (fun n s' => ∃ i σ' H',Inv X pins σ' H' s' ∧ tn i s'.heap ∧ (∀ b ∈ fp,H' b = none) ∧ W i n σ' H') ?_ m0 ⟨0,σ,H2,I2,st2,fun b hb => (f2 b hb).1,w0⟩
  rintro n s3 ⟨i,σ3,H3,I3,st3,fr3,w3⟩
  rcases turn i n σ3 H3 w3 with ⟨stop,qn⟩ | ⟨go,N,hN,step⟩
  · refine wpAny_passesOwn hp (thn (T.done X rfl rfl rfl hc i pins s3 σ3 H3 X.xe I3 (stat fr3) st3 stop) fun r s4 ⟨hr,I4⟩ => ?_)
    subst hr
    exact wpAny_execs_nil ⟨σ3,H3,I4,qn⟩
  · refine wpAny_passesOwn hp (thn (T.item X rfl rfl rfl hc i pins s3 σ3 H3 X.xe I3 (stat fr3) st3 go) fun r s4 ⟨u,hr,h4⟩ => ?_)
    subst hr
    refine wpAny_passesOwn hp (thn h4 fun _ s5 ⟨x,H5,I5,r5,y5,st5,fr5⟩ => ?_)
    have I5':=I5.pinned (stat fr5) (T.obj _ _ st5)
    refine wpAny_passesOwn hp (thn (hg _ s5 σ3 H5 x u _ I5' r5 (step x H5 y5)) fun _ s6 ⟨σ6,H6,I6,q6⟩ => ?_)
    refine wpAny_passesOwn hp (thn (hb _ s6 σ6 H6 _ I6 q6) fun f s7 q7 => ?_)
    have again:∀ {σ7:St} {H7:Hp},Inv X (pins ++ pinsAt fp s5.heap) σ7 H7 s7 → N σ7 H7 → ∃ m,m < n ∧ ∃ i σ' H',Inv X pins σ' H' s7 ∧ tn i s7.heap ∧ (∀ b ∈ fp,H' b = none) ∧ W i m σ' H':=fun {σ7 H7} I7 n7 => by
      obtain ⟨m',hm,w7⟩:=hN σ7 H7 n7
      refine ⟨m',hm,i + 1,σ7,H7,I7.unpinned,T.keep _ _ _ st5 fun b hb o e => (I7.pin (b,o) (List.mem_append_right _ (List.mem_append_right _ (mem_pinsAt hb e)))).1,fun b hb => ?_,w7⟩
      obtain ⟨o,e,d⟩:=T.obj _ _ st5 b hb
      exact (I7.pin (b,o) (List.mem_append_right _ (List.mem_append_right _ (mem_pinsAt hb e)))).2.1
    cases f with
    | next => obtain ⟨σ7,H7,I7,n7⟩:=q7; exact again I7 n7
    | cont => obtain ⟨σ7,H7,I7,n7⟩:=q7; exact again I7 n7
    | brk => obtain ⟨σ7,H7,I7,q7⟩:=q7; exact ⟨σ7,H7,I7.unpinned,q7⟩
    | ret v => obtain ⟨x7,σ7,H7,I7,r7,q7⟩:=q7; exact ⟨x7,σ7,H7,I7.unpinned,r7,q7⟩
end
theorem for_list {K:PySem.W.Frag} {a:Addr} {xs:List V} {g:TG} {tb:TS} {D:Ends} {σ:St} {H:Hp} (Pv:Nat → St → Hp → Prop) (h0:Pv 0 σ H) (hl:∀ i σ H,i ≤ xs.length → Pv i σ H → SqL K H a xs)
    (hs:∀ i x σ H,xs[i]? = some x → Pv i σ H → g x σ H fun σ2 H2 => tb { D with nx:=Pv (i + 1),ct:=Pv (i + 1),bk:=D.nx } σ2 H2) (hd:∀ σ H,Pv xs.length σ H → D.nx σ H) :
    ∃ W:Nat → Nat → St → Hp → Prop,(∃ m,W 0 m σ H) ∧ ∀ i m σ H,W i m σ H →
      ((Itl K a).stop i H ∧ D.nx σ H) ∨ ((Itl K a).go i H ∧ ∃ N:St → Hp → Prop,(∀ σ' H',N σ' H' → ∃ m',m' < m ∧ W (i + 1) m' σ' H') ∧ ∀ x H',(Itl K a).yld i H x H' → g x σ H' fun σ2 H2 => tb { D with nx:=N,ct:=N,bk:=D.nx } σ2 H2):=by
  refine ⟨fun i m σ H => m = xs.length - i ∧ i ≤ xs.length ∧ Pv i σ H,⟨xs.length,by simp,Nat.zero_le _,h0⟩,?_⟩
  rintro i m σ H ⟨rfl,hi,p⟩
  have q:=hl i σ H hi p
  by_cases hlt:i < xs.length
  · refine .inr ⟨⟨xs,xs[i],q,by simp [hlt]⟩,Pv (i + 1),fun σ' H' p' => ⟨xs.length - (i + 1),by omega,rfl,hlt,p'⟩,fun x H' y => ?_⟩
    obtain ⟨e,y⟩:=y
    subst e
    exact hs i x σ _ (y xs q) p
  · have e:i = xs.length:=by omega
    subst e
    exact .inl ⟨⟨xs,q,Nat.le_refl _⟩,hd σ H p⟩
theorem for_tup {K:PySem.W.Frag} {a:Addr} {xs:List V} {g:TG} {tb:TS} {D:Ends} {σ:St} {H:Hp} (Pv:Nat → St → Hp → Prop) (h0:Pv 0 σ H) (hl:∀ i σ H,i ≤ xs.length → Pv i σ H → SqT K H a xs)
    (hs:∀ i x σ H,xs[i]? = some x → Pv i σ H → g x σ H fun σ2 H2 => tb { D with nx:=Pv (i + 1),ct:=Pv (i + 1),bk:=D.nx } σ2 H2) (hd:∀ σ H,Pv xs.length σ H → D.nx σ H) :
    ∃ W:Nat → Nat → St → Hp → Prop,(∃ m,W 0 m σ H) ∧ ∀ i m σ H,W i m σ H →
      ((Itt K a).stop i H ∧ D.nx σ H) ∨ ((Itt K a).go i H ∧ ∃ N:St → Hp → Prop,(∀ σ' H',N σ' H' → ∃ m',m' < m ∧ W (i + 1) m' σ' H') ∧ ∀ x H',(Itt K a).yld i H x H' → g x σ H' fun σ2 H2 => tb { D with nx:=N,ct:=N,bk:=D.nx } σ2 H2):=by
  refine ⟨fun i m σ H => m = xs.length - i ∧ i ≤ xs.length ∧ Pv i σ H,⟨xs.length,by simp,Nat.zero_le _,h0⟩,?_⟩
  rintro i m σ H ⟨rfl,hi,p⟩
  have q:=hl i σ H hi p
  by_cases hlt:i < xs.length
  · refine .inr ⟨⟨xs,xs[i],q,by simp [hlt]⟩,Pv (i + 1),fun σ' H' p' => ⟨xs.length - (i + 1),by omega,rfl,hlt,p'⟩,fun x H' y => ?_⟩
    obtain ⟨e,y⟩:=y
    subst e
    exact hs i x σ _ (y xs q) p
  · have e:i = xs.length:=by omega
    subst e
    exact .inl ⟨⟨xs,q,Nat.le_refl _⟩,hd σ H p⟩
theorem for_range {lo:Int} {n:Nat} {g:TG} {tb:TS} {D:Ends} {σ:St} {H:Hp} (Pv:Nat → St → Hp → Prop) (h0:Pv 0 σ H)
    (hs:∀ i σ H,i < n → Pv i σ H → g (.int (lo + i)) σ H fun σ2 H2 => tb { D with nx:=Pv (i + 1),ct:=Pv (i + 1),bk:=D.nx } σ2 H2) (hd:∀ σ H,Pv n σ H → D.nx σ H) :
    ∃ W:Nat → Nat → St → Hp → Prop,(∃ m,W 0 m σ H) ∧ ∀ i m σ H,W i m σ H →
      ((Itr lo n).stop i H ∧ D.nx σ H) ∨ ((Itr lo n).go i H ∧ ∃ N:St → Hp → Prop,(∀ σ' H',N σ' H' → ∃ m',m' < m ∧ W (i + 1) m' σ' H') ∧ ∀ x H',(Itr lo n).yld i H x H' → g x σ H' fun σ2 H2 => tb { D with nx:=N,ct:=N,bk:=D.nx } σ2 H2):=by
  refine ⟨fun i m σ H => m = n - i ∧ i ≤ n ∧ Pv i σ H,⟨n,by simp,Nat.zero_le _,h0⟩,?_⟩
  rintro i m σ H ⟨rfl,hi,p⟩
  by_cases hlt:i < n
  · refine .inr ⟨hlt,Pv (i + 1),fun σ' H' p' => ⟨n - (i + 1),by omega,rfl,hlt,p'⟩,fun x H' y => ?_⟩
    obtain ⟨e,y⟩:=y
    subst e y
    exact hs i σ _ hlt p
  · have e:i = n:=by omega
    subst e
    exact .inl ⟨Nat.le_refl _,hd σ H p⟩
theorem while_by {c:TT} {tb:TS} {D:Ends} {σ:St} {H:Hp} (Pv:St → Hp → Prop) (μ:St → Hp → Nat) (h0:Pv σ H)
    (hs:∀ σ H,Pv σ H → c σ H fun b H1 => if b = true then tb { D with nx:=fun σ' H' => Pv σ' H' ∧ μ σ' H' < μ σ H,ct:=fun σ' H' => Pv σ' H' ∧ μ σ' H' < μ σ H,bk:=D.nx } σ H1 else D.nx σ H1)
    (mono:∀ σ H Q Q',(∀ b H1,Q b H1 → Q' b H1) → c σ H Q → c σ H Q'):tWhile c tb D σ H:=by
  refine ⟨fun m σ H => m = μ σ H ∧ Pv σ H,⟨_,rfl,h0⟩,?_⟩
  rintro m σ H ⟨rfl,p⟩
  refine mono σ H _ _ (fun b H1 q => ?_) (hs σ H p)
  cases b with
  | true => exact ⟨_,fun σ' H' ⟨p',l⟩ => ⟨_,l,rfl,p'⟩,q⟩
  | false => exact q
end L2
namespace L2
open PySem PySem.Spec PyProof.Rows
noncomputable abbrev R2:=V → V → Hp → VK → Prop
noncomputable def OpR (X:Cx) (f:Value → Value → Sem Value) (r:R2):Prop :=
  ∀ (pins:List (Addr × Obj)) (s:Shared) (σ:St) (H:Hp) (x y:V) (v u:Value) (Q:VK),Inv X pins σ H s → RelV x v → RelV y u → r x y H Q →
    wpAny (model X.prog X.w) X.A (f v u) (EP X pins σ Q) X.xe s
noncomputable def UnR (X:Cx) (f:Value → Sem Value) (r:V → Hp → VK → Prop):Prop :=
  ∀ (pins:List (Addr × Obj)) (s:Shared) (σ:St) (H:Hp) (x:V) (v:Value) (Q:VK),Inv X pins σ H s → RelV x v → r x H Q →
    wpAny (model X.prog X.w) X.A (f v) (EP X pins σ Q) X.xe s
noncomputable def CallR (X:Cx) (f:Value) (r:List V → Hp → VK → Prop):Prop :=
  ∀ (pins:List (Addr × Obj)) (s:Shared) (σ:St) (H:Hp) (xs:List V) (us:List Value) (Q:VK),Inv X pins σ H s → Vals xs us → r xs H Q →
    wpAny (model X.prog X.w) X.A (call f us) (EP X pins σ Q) X.xe s
noncomputable def tOp (r:R2) (ta tb:TE):TE:=fun σ H Q => ta σ H fun x H1 => tb σ H1 fun y H2 => r x y H2 Q
noncomputable def tUn (r:V → Hp → VK → Prop) (ta:TE):TE:=fun σ H Q => ta σ H fun x H1 => r x H1 Q
noncomputable def rI (C:Int → Int → Prop) (g:Int → Int → V):R2:=fun x y H Q => ∃ i j,x = .int i ∧ y = .int j ∧ C i j ∧ Q (g i j) H
noncomputable def rI0 (g:Int → Int → V):R2:=fun x y H Q => ∃ i j,x = .int i ∧ y = .int j ∧ Q (g i j) H
noncomputable def rU (g:Int → V):V → Hp → VK → Prop:=fun x H Q => ∃ i,x = .int i ∧ Q (g i) H
section
variable {X:Cx} {a b c:Expr} {ta tb tc:TE} {pos:Pos}
theorem binT (ha:PE X a ta) (hb:PE X b tb) {pins:List (Addr × Obj)} {s:Shared} {σ:St} {H:Hp} {R:V → V → Hp → Prop} (I:Inv X pins σ H s)
    (h:ta σ H fun x H1 => tb σ H1 fun y H2 => R x y H2) {Q:Value → Shared → Prop} {f:Value → Value → Sem Value}
    (hf:∀ v u s2 x y H2,Inv X pins σ H2 s2 → RelV x v → RelV y u → R x y H2 → wpAny (model X.prog X.w) X.A (f v u) Q X.xe s2) :
    wpAny (model X.prog X.w) X.A (eval a X.env) (fun v s₁ => wpAny (model X.prog X.w) X.A (eval b X.env) (fun u s₂ => wpAny (model X.prog X.w) X.A (f v u) Q X.xe s₂) X.xe s₁) X.xe s:=by
  refine thn (ha pins s σ H _ I h) fun v s1 ⟨x,H1,I1,r1,q1⟩ => ?_
  refine thn (hb pins s1 σ H1 _ I1 q1) fun u s2 ⟨y,H2,I2,r2,q2⟩ => ?_
  exact hf v u s2 x y H2 I2 r1 r2 q2
theorem pe_op {op:Operator} {r:R2} (ho:OpR X (binaryOp op) r) (ha:PE X a ta) (hb:PE X b tb):PE X (.BinOp a op b pos) (tOp r ta tb):=by
  intro pins s σ H Q I h
  exact wpAny_BinOp (binT ha hb I h fun v u s2 x y H2 I2 rx ry q => ho pins s2 σ H2 x y v u Q I2 rx ry q)
theorem pe_un {op:UnaryOp} {r:V → Hp → VK → Prop} (ho:UnR X (unaryOp op) r) (ha:PE X a ta):PE X (.UnaryOp op a pos) (tUn r ta):=by
  intro pins s σ H Q I h
  exact UnaryOp_ (thn (ha pins s σ H _ I h) fun v s1 ⟨x,H1,I1,r1,q1⟩ => ho pins s1 σ H1 x v Q I1 r1 q1)
theorem opI {f:Value → Value → Sem Value} {C:Int → Int → Prop} {g:Int → Int → Int}
    (rule:∀ (i j:Int) (t u:Tok) (s:Shared) (Q:Value → Shared → Prop) (E:Value → Shared → Prop),C i j → Q (.int (g i j) s.toks) { s with toks:=s.toks + 1 } → wpAny (model X.prog X.w) X.A (f (.int i t) (.int j u)) Q E s) :
    OpR X f (rI C fun i j => .int (g i j)):=by
  intro pins s σ H x y v u Q I rx ry h
  obtain ⟨i,j,rfl,rfl,hc,q⟩:=h
  obtain ⟨t,rfl⟩:=rx
  obtain ⟨t',rfl⟩:=ry
  exact rule i j t t' s _ _ hc ⟨.int (g i j),H,I.tok _,⟨_,rfl⟩,q⟩
theorem opI0 {f:Value → Value → Sem Value} {g:Int → Int → Int}
    (rule:∀ (i j:Int) (t u:Tok) (s:Shared) (Q:Value → Shared → Prop) (E:Value → Shared → Prop),Q (.int (g i j) s.toks) { s with toks:=s.toks + 1 } → wpAny (model X.prog X.w) X.A (f (.int i t) (.int j u)) Q E s) :
    OpR X f (rI0 fun i j => .int (g i j)):=by
  intro pins s σ H x y v u Q I rx ry h
  obtain ⟨i,j,rfl,rfl,q⟩:=h
  obtain ⟨t,rfl⟩:=rx
  obtain ⟨t',rfl⟩:=ry
  exact rule i j t t' s _ _ ⟨.int (g i j),H,I.tok _,⟨_,rfl⟩,q⟩
theorem opB0 {f:Value → Value → Sem Value} {g:Int → Int → Bool}
    (rule:∀ (i j:Int) (t u:Tok) (s:Shared) (Q:Value → Shared → Prop) (E:Value → Shared → Prop),Q (.bool (g i j)) s → wpAny (model X.prog X.w) X.A (f (.int i t) (.int j u)) Q E s) :
    OpR X f (rI0 fun i j => .bl (g i j)):=by
  intro pins s σ H x y v u Q I rx ry h
  obtain ⟨i,j,rfl,rfl,q⟩:=h
  obtain ⟨t,rfl⟩:=rx
  obtain ⟨t',rfl⟩:=ry
  exact rule i j t t' s _ _ ⟨.bl (g i j),H,I,rfl,q⟩
noncomputable def CDiv (i j:Int):Prop:=0 < j ∧ j < 1073741824
noncomputable def CPow (i j:Int):Prop:=0 ≤ j ∧ j ≤ 1000000 ∧ i.natAbs < 2 ^ 64
noncomputable def CMul (i j:Int):Prop:=(-(2 ^ 64) < i ∧ i < 2 ^ 64) ∨ (-(2 ^ 64) < j ∧ j < 2 ^ 64)
theorem CMul.ok {i j:Int} (h:CMul i j):IntMulOk i j:=by
  rcases h with ⟨h1,h2⟩ | ⟨h1,h2⟩
  · exact .of_left (intBits_le_64 h1 h2)
  · exact .of_right (intBits_le_64 h1 h2)
theorem op_add:OpR X (binaryOp .Add) (rI0 fun i j => .int (i + j)):=opI0 fun _ _ _ _ _ _ _ q => add_int q
theorem op_mul:OpR X (binaryOp .Mult) (rI CMul fun i j => .int (i * j)):=opI fun _ _ _ _ _ _ _ hc q => mul_int q hc.ok
theorem op_fdiv:OpR X (binaryOp .FloorDiv) (rI CDiv fun i j => .int (i / j)):=opI fun i j _ _ _ _ _ hc q => by
  have h1:(0:Int) < j:=hc.1
  have h2:j < 1073741824:=hc.2
  exact floordiv_int (by omega) (by rw [Int.fdiv_eq_ediv_of_nonneg i (by omega)]; exact q) (.inl (PyProof.noPylong_small (by omega)))
theorem op_mod:OpR X (binaryOp .Mod) (rI (fun _ j => 0 < j) fun i j => .int (i % j)):=opI fun i j _ _ _ _ _ hc q => by
  have h1:(0:Int) < j:=hc
  exact mod_int' (by omega) (by rw [Int.fmod_eq_emod_of_nonneg i (by omega)]; exact q)
theorem op_pow:OpR X (binaryOp .Pow) (rI CPow fun i j => .int (i ^ j.toNat)):=opI fun _ _ _ _ _ _ _ hc q => pow_int_small hc.1 hc.2.1 hc.2.2 q
theorem unI {f:Value → Sem Value} {g:Int → Int}
    (rule:∀ (i:Int) (t:Tok) (s:Shared) (Q:Value → Shared → Prop) (E:Value → Shared → Prop),Q (.int (g i) s.toks) { s with toks:=s.toks + 1 } → wpAny (model X.prog X.w) X.A (f (.int i t)) Q E s) :
    UnR X f (rU fun i => .int (g i)):=by
  intro pins s σ H x v Q I rx h
  obtain ⟨i,rfl,q⟩:=h
  obtain ⟨t,rfl⟩:=rx
  exact rule i t s _ _ ⟨.int (g i),H,I.tok _,⟨_,rfl⟩,q⟩
theorem un_neg:UnR X (unaryOp .USub) (rU fun i => .int (-i)):=unI fun _ _ _ _ _ q => neg_int q
end
noncomputable def scal:V → V → Bool
  | .non,.non => true | .non,.int _ => true | .int _,.non => true | .non,.bl _ => true | .bl _,.non => true | .non,.str _ => true | .str _,.non => true
  | .int _,.int _ => true | .bl _,.bl _ => true | .str _,.str _ => true | .byt _,.byt _ => true
  | .int _,.str _ => true | .str _,.int _ => true | .bl _,.str _ => true | .str _,.bl _ => true
  | _,_ => false
noncomputable def rEq:R2:=fun x y H Q => scal x y = true ∧ Q (.bl (decide (x = y))) H
noncomputable def rNe:R2:=fun x y H Q => scal x y = true ∧ Q (.bl (!decide (x = y))) H
theorem dec_int {i j:Int}:decide (V.int i = V.int j) = (i == j):=by
  rw [Bool.eq_iff_iff]
  simp
theorem dec_bl {i j:Bool}:decide (V.bl i = V.bl j) = (i == j):=by
  rw [Bool.eq_iff_iff]
  simp
theorem dec_str {i j:Str}:decide (V.str i = V.str j) = (i == j):=by
  rw [Bool.eq_iff_iff]
  simp
theorem dec_byt {i j:Array UInt8}:decide (V.byt i = V.byt j) = (i.toList == j.toList):=by
  rw [Bool.eq_iff_iff]
  cases i
  cases j
  simp
section
variable {X:Cx} {a b c:Expr} {ta tb tc:TE} {pos:Pos}
theorem fin_bl {pins:List (Addr × Obj)} {σ:St} {H:Hp} {s:Shared} {Q:VK} {k k':Bool} (I:Inv X pins σ H s) (q:Q (.bl k) H) (e:k = k'):EP X pins σ Q (.bool k') s:=by
  subst e
  exact ⟨.bl k,H,I,rfl,q⟩
theorem op_eq:OpR X (compareOp .Eq) rEq:=by
  intro pins s σ H x y v u Q I rx ry h
  obtain ⟨hs,q⟩:=h
  cases x with
  | non =>
    cases rx
    cases y with
    | non => cases ry; exact PySem.EqNone.eq_none_none (fin_bl I q (by simp))
    | bl j => cases ry; exact PySem.EqNone.eq_none_bool (fin_bl I q (by simp))
    | int j => obtain ⟨t',rfl⟩:=ry; exact PySem.EqNone.eq_none_int (fin_bl I q (by simp))
    | str j => obtain ⟨t',rfl⟩:=ry; exact PySem.EqNone.eq_none_str (fin_bl I q (by simp))
    | _ => exact absurd (show false = true from hs) Bool.false_ne_true
  | bl i =>
    cases rx
    cases y with
    | non => cases ry; exact PySem.EqNone.eq_bool_none (fin_bl I q (by simp))
    | bl j => cases ry; exact eq_bool (fin_bl I q dec_bl)
    | str j => obtain ⟨t',rfl⟩:=ry; exact PySem.EqMixed.eq_bool_str (fin_bl I q (by simp))
    | _ => exact absurd (show false = true from hs) Bool.false_ne_true
  | int i =>
    obtain ⟨t,rfl⟩:=rx
    cases y with
    | non => cases ry; exact PySem.EqNone.eq_int_none (fin_bl I q (by simp))
    | int j => obtain ⟨t',rfl⟩:=ry; exact eq_int (fin_bl I q dec_int)
    | str j => obtain ⟨t',rfl⟩:=ry; exact PySem.EqMixed.eq_int_str (fin_bl I q (by simp))
    | _ => exact absurd (show false = true from hs) Bool.false_ne_true
  | str i =>
    obtain ⟨t,rfl⟩:=rx
    cases y with
    | non => cases ry; exact PySem.EqNone.eq_str_none (fin_bl I q (by simp))
    | bl j => cases ry; exact PySem.EqMixed.eq_str_bool (fin_bl I q (by simp))
    | int j => obtain ⟨t',rfl⟩:=ry; exact PySem.EqMixed.eq_str_int (fin_bl I q (by simp))
    | str j => obtain ⟨t',rfl⟩:=ry; exact eq_str (fin_bl I q dec_str)
    | _ => exact absurd (show false = true from hs) Bool.false_ne_true
  | byt i =>
    obtain ⟨t,rfl⟩:=rx
    cases y with
    | byt j => obtain ⟨t',rfl⟩:=ry; exact PySem.W.eq_bytes (fin_bl I q dec_byt)
    | _ => exact absurd (show false = true from hs) Bool.false_ne_true
  | _ => cases y <;> exact absurd (show false = true from hs) Bool.false_ne_true
theorem op_ne:OpR X (compareOp .NotEq) rNe:=by
  intro pins s σ H x y v u Q I rx ry h
  obtain ⟨hs,q⟩:=h
  cases x with
  | non =>
    cases rx
    cases y with
    | non => cases ry; exact PySem.EqNone.ne_none_none (fin_bl I q (by simp))
    | bl j => cases ry; exact PySem.EqNone.ne_none_bool (fin_bl I q (by simp))
    | int j => obtain ⟨t',rfl⟩:=ry; exact PySem.EqNone.ne_none_int (fin_bl I q (by simp))
    | str j => obtain ⟨t',rfl⟩:=ry; exact PySem.EqNone.ne_none_str (fin_bl I q (by simp))
    | _ => exact absurd (show false = true from hs) Bool.false_ne_true
  | bl i =>
    cases rx
    cases y with
    | non => cases ry; exact PySem.EqNone.ne_bool_none (fin_bl I q (by simp))
    | bl j => cases ry; exact ne_bool (fin_bl I q (congrArg not dec_bl))
    | str j => obtain ⟨t',rfl⟩:=ry; exact PySem.EqMixed.ne_bool_str (fin_bl I q (by simp))
    | _ => exact absurd (show false = true from hs) Bool.false_ne_true
  | int i =>
    obtain ⟨t,rfl⟩:=rx
    cases y with
    | non => cases ry; exact PySem.EqNone.ne_int_none (fin_bl I q (by simp))
    | int j => obtain ⟨t',rfl⟩:=ry; exact ne_int (fin_bl I q (congrArg not dec_int))
    | str j => obtain ⟨t',rfl⟩:=ry; exact PySem.EqMixed.ne_int_str (fin_bl I q (by simp))
    | _ => exact absurd (show false = true from hs) Bool.false_ne_true
  | str i =>
    obtain ⟨t,rfl⟩:=rx
    cases y with
    | non => cases ry; exact PySem.EqNone.ne_str_none (fin_bl I q (by simp))
    | bl j => cases ry; exact PySem.EqMixed.ne_str_bool (fin_bl I q (by simp))
    | int j => obtain ⟨t',rfl⟩:=ry; exact PySem.EqMixed.ne_str_int (fin_bl I q (by simp))
    | str j => obtain ⟨t',rfl⟩:=ry; exact ne_str (fin_bl I q (congrArg not dec_str))
    | _ => exact absurd (show false = true from hs) Bool.false_ne_true
  | byt i =>
    obtain ⟨t,rfl⟩:=rx
    cases y with
    | byt j => obtain ⟨t',rfl⟩:=ry; exact PySem.W.ne_bytes (fin_bl I q (congrArg not dec_byt))
    | _ => exact absurd (show false = true from hs) Bool.false_ne_true
  | _ => cases y <;> exact absurd (show false = true from hs) Bool.false_ne_true
theorem op_lt:OpR X (compareOp .Lt) (rI0 fun i j => .bl (decide (i < j))):=opB0 fun _ _ _ _ _ _ _ q => lt_int q
theorem op_le:OpR X (compareOp .LtE) (rI0 fun i j => .bl (decide (i ≤ j))):=opB0 fun _ _ _ _ _ _ _ q => le_int q
theorem op_gt:OpR X (compareOp .Gt) (rI0 fun i j => .bl (decide (j < i))):=opB0 fun _ _ _ _ _ _ _ q => gt_int q
theorem op_isN:OpR X (compareOp .Is) (fun x y H Q => y = .non ∧ Q (.bl (decide (x = .non))) H):=by
  intro pins s σ H x y v u Q I rx ry h
  obtain ⟨rfl,q⟩:=h
  cases ry
  refine is_none_gen (fin_bl I q ?_)
  cases x <;> first
    | (cases rx; rfl)
    | (obtain ⟨t,rfl⟩:=rx; rfl)
theorem op_notN:OpR X (compareOp .IsNot) (fun x y H Q => y = .non ∧ Q (.bl (!decide (x = .non))) H):=by
  intro pins s σ H x y v u Q I rx ry h
  obtain ⟨rfl,q⟩:=h
  cases ry
  refine isnot_none_gen (fin_bl I q ?_)
  cases x <;> first
    | (cases rx; rfl)
    | (obtain ⟨t,rfl⟩:=rx; rfl)
theorem nomark (b:Expr) {op:CmpOp} (h:op ≠ .In:=by decide) (h2:op ≠ .NotIn:=by decide):behindInMarks op b = false:=by
  have e1:(op == CmpOp.In) = false:=by cases op <;> first | rfl | exact absurd rfl h
  have e2:(op == CmpOp.NotIn) = false:=by cases op <;> first | rfl | exact absurd rfl h2
  cases b <;> simp [behindInMarks,e1,e2]
theorem pe_cmpR {op:CmpOp} {r:R2} (ho:OpR X (compareOp op) r) (ha:PE X a ta) (hb:PE X b tb) (hm:behindInMarks op b = false):PE X (.Compare a [op] [b] pos) (tOp r ta tb):=by
  intro pins s σ H Q I h
  exact wpAny_Compare1 (binT ha hb I h fun v u s2 x y H2 I2 rx ry q => ho pins s2 σ H2 x y v u Q I2 rx ry q) hm
noncomputable def tTest (t:TE):TT:=fun σ H Q => t σ H fun x H' => ∃ k,x = .bl k ∧ Q k H'
theorem pt_cmpR {op:CmpOp} {r:R2} (ho:OpR X (compareOp op) r) (ha:PE X a ta) (hb:PE X b tb) (hm:behindInMarks op b = false):PT X (.Compare a [op] [b] pos) (tTest (tOp r ta tb)):=by
  intro pins s σ H Q I h
  refine wpAny_isTrue_Compare1 (thn (ha pins s σ H _ I h) fun v s1 ⟨x,H1,I1,r1,q1⟩ => thn (hb pins s1 σ H1 _ I1 q1) fun u s2 ⟨y,H2,I2,r2,q2⟩ =>
    thn (ho pins s2 σ H2 x y v u _ I2 r1 r2 q2) fun c s3 ⟨z,H3,I3,r3,k,e,q3⟩ => ?_) hm
  subst e
  cases r3
  exact wpAny_truthy_bool ⟨H3,I3,q3⟩
theorem line63:(sizeLine:Nat) < 2 ^ 63:=by rw [sizeLine_eq]; decide
theorem op_add_str:OpR X (binaryOp .Add) (fun x y H Q => ∃ i j,x = .str i ∧ y = .str j ∧ i.length + j.length ≤ sizeLine ∧ Q (.str (i ++ j)) H):=by
  intro pins s σ H x y v u Q I rx ry h
  obtain ⟨i,j,rfl,rfl,hz,q⟩:=h
  obtain ⟨t,rfl⟩:=rx
  obtain ⟨t',rfl⟩:=ry
  exact add_str (fun t' tk => ⟨.str (i ++ j),H,I.tok _,⟨_,rfl⟩,q⟩) hz
theorem vals1 {x:V} {us:List Value} (r:Vals [x] us):∃ u,us = [u] ∧ RelV x u:=by
  cases r with
  | cons r1 r2 => cases r2; exact ⟨_,rfl,r1⟩
theorem vals2 {x y:V} {us:List Value} (r:Vals [x,y] us):∃ u w',us = [u,w'] ∧ RelV x u ∧ RelV y w':=by
  cases r with
  | cons r1 r2 =>
    cases r2 with
    | cons r3 r4 => cases r4; exact ⟨_,_,rfl,r1,r3⟩
theorem call_int1:CallR X (.type "int") (fun xs H Q => (∃ i,xs = [.int i] ∧ Q (.int i) H) ∨ ∃ k,xs = [.bl k] ∧ Q (.int (if k then 1 else 0)) H):=by
  intro pins s σ H xs us Q I r h
  rcases h with ⟨i,rfl,q⟩ | ⟨k,rfl,q⟩
  · obtain ⟨u,rfl,t,rfl⟩:=vals1 r
    exact call_int_int ⟨.int i,H,I,⟨_,rfl⟩,q⟩
  · obtain ⟨u,rfl,r1⟩:=vals1 r
    cases r1
    exact call_int_bool ⟨.int (if k then 1 else 0),H,I.tok _,⟨_,rfl⟩,q⟩
end
end L2
namespace L2
open PySem PySem.Spec PyProof.Rows
structure ObjM (h:Heap) (x dx C:Addr) (mA:Str → Option Value):Prop where
  obj:h.get? x = some (PySem.W.instObj C dx)
  ns:h.Ns1 dx mA
  ne:dx ≠ x
theorem lookIn_ns {h:Heap} {dx:Addr} {mA:Str → Option Value} (n:h.Ns1 dx mA):∃ od,h.get? dx = some od ∧ ∀ name,PySem.W.lookIn name od = some (mA name):=by
  obtain ⟨o,es,ep,ho,hd,hk,_,hm⟩:=n
  refine ⟨o,ho,fun name => ?_⟩
  have e:=hm name
  unfold nsFind findBy at e
  rw [← Array.find?_toList] at e
  unfold PySem.W.lookIn
  rw [hd]
  dsimp only
  split
  · rename_i y q
    rw [q] at e
    exact congrArg some e
  · rename_i q
    rw [q] at e
    have a:es.toList.any (·.refKey) = false:=by
      rw [List.any_eq_false]
      intro y hy
      obtain ⟨z,t,hkey⟩:=hk y (Array.mem_toList_iff.mp hy)
      simp [DictEntry.refKey,hkey]
    have a':¬ es.toList.any (·.refKey) = true:=by rw [a]; exact Bool.false_ne_true
    rw [if_neg a']
    exact congrArg some e
theorem ObjM.look {h:Heap} {x dx C:Addr} {mA:Str → Option Value} (I:ObjM h x dx C mA):∃ od,PySem.W.InstAt h x (PySem.W.instObj C dx) C (some od) ∧ ∀ name,PySem.W.lookIn name od = some (mA name) :=
  let ⟨od,ho,hl⟩:=lookIn_ns I.ns
  ⟨od,⟨I.obj,rfl,rfl,ho⟩,hl⟩
section
variable {prog:Program} {w:World} {A:Around} {E:Value → Shared → Prop} {s:Shared} {K:PySem.W.Frag} {x dx C f:Addr} {mA:Str → Option Value} {name:Str} {v:Value}
theorem get_map {expr:Bool} {Q:Value → Shared → Prop} (X:K.In s.heap) (I:ObjM s.heap x dx C mA) (hg:PySem.W.plainGet K C name = true) (hh:PySem.W.hasDictIn K C = true)
    (ha:PySem.W.findIn K (.ref C) name = some none) (hv:mA name = some v) (hv':PySem.W.handedIn v = true) (h:Q v { s with toks:=s.toks + 1 }) :
    wpAny (model prog w) A (getAttr (.ref x) name expr) Q E s:=by
  obtain ⟨od,J,hl⟩:=I.look
  exact PySem.W.get_value X J (PySem.W.plainGet_of hg).1 (PySem.W.findObj_own hh ha rfl (by rw [hl,hv])) hv' h
theorem set_map {ns:List Str} {Q:Unit → Shared → Prop} (X:K.In s.heap) (I:ObjM s.heap x dx C mA)
    (hs:PySem.W.findIn K (.ref C) "__setattr__" = some (some (.builtin "object.__setattr__"))) (hp:PySem.W.plainOver K C = true) (ht:PySem.W.takerIn K C name = some none) (hh:PySem.W.hasDictIn K C = true)
    (hw:PySem.Within mA ns) (hsz:ns.length ≤ sizeLine)
    (h:∀ h',ObjM h' x dx C (fun y => if y = name then some v else mA y) → Heap.SameBut dx s.heap h' → Q () { s with heap:=h',toks:=s.toks + 2 }) :
    wpAny (model prog w) A (setAttr (.ref x) name v) Q E s:=by
  obtain ⟨od,J,hl⟩:=I.look
  refine PySem.W.set_plain X J hs (PySem.W.osa_open (s:={ s with toks:=s.toks + 1 }) (r:=none) X J hp ht fun b => ?_)
  obtain ⟨cd,hc,hd'⟩:=PySem.W.any_some hh
  have hx:s.heap.get? x = some ⟨.ref C,some dx,.plain,#[]⟩:=I.obj
  refine wpAny_bind (wpAny_pure (wpAny_bind (wpAny_bind (wpAny_loadPart hx (wpAny_bind (PySem.W.Looks.here (s:={ s with toks:=s.toks + 1 }) (PySem.W.looks_clsIn X hc) ?_))))))
  rw [hd']
  refine wpAny_pure (a:=some dx) (wpAny_bind (wpAny_pure (wpAny_bind ?_)))
  refine wpAny_nsSet1 (s:={ s with toks:=s.toks + 1 }) I.ns fun h' hn2 hs2 => ?_
  obtain ⟨oD,esD,epD,hoD,hdD,hcD⟩:=hn2.count (PySem.Within.cons name v hw)
  refine wpAny_bind (wpAny_lookBehind hoD (by rw [hdD]; exact pastItsLine_dict (Nat.le_trans hcD (by rw [List.length_cons]; omega))) ?_)
  exact wpAny_pure (h _ ⟨(hs2.2 _ (Ne.symm I.ne)).trans I.obj,hn2,I.ne⟩ hs2)
theorem make_map {R:Result → Shared → Prop} {vs:List Value} {kw:List (Str × Value)} (X:K.In s.heap) (hm:PySem.W.makesIn K C = true)
    (hi:PySem.W.findIn K (.ref C) "__init__" = some (some (.ref f))) (hf:PySem.W.typeIn K (.ref f) = some (.type "function"))
    (h:codeAny (model prog w) (A.under (.builtin "type.__call__" ⟨.ref C :: vs,kw⟩)) (.call (.ref f) ⟨.ref (s.heap.objs.size + 1) :: vs,kw⟩) (PySem.W.InitBack (s.heap.objs.size + 1) R)
      { s with heap:=(s.heap.push PySem.W.emptyDict).push (PySem.W.instObj C s.heap.objs.size) }) :
    codeAny (model prog w) A (.call (.ref C) ⟨vs,kw⟩) R s:=by
  obtain ⟨hh,g,d,t,os⟩:=s
  exact PySem.W.make_core (PySem.W.makes_of X hm) (PySem.W.looks_findIn X hi) (fun self => PySem.W.bind_fn X self hf) (.inl rfl) h
end
noncomputable def putF (f:Str) (v:V):List (Str × V) → List (Str × V)
  | [] => [(f,v)]
  | (g,x) :: r => if g = f then (g,v) :: r else (g,x) :: putF f v r
theorem lookup_putF (f g:Str) (v:V):∀ fs:List (Str × V),(putF f v fs).lookup g = if g = f then some v else fs.lookup g
  | [] => by
    show List.lookup g [(f,v)] = _
    by_cases h:g = f
    · have hb:(g == f) = true:=beq_iff_eq.mpr h
      simp only [List.lookup,hb,if_pos h]
    · have hb:(g == f) = false:=beq_eq_false_iff_ne.mpr h
      simp only [List.lookup,hb,if_neg h]
  | (k,x) :: r => by
    have ih:=lookup_putF f g v r
    rw [show putF f v ((k,x) :: r) = (if k = f then (k,v) :: r else (k,x) :: putF f v r) from rfl]
    by_cases hk:k = f
    · rw [if_pos hk]
      by_cases h:g = k
      · have hb:(g == k) = true:=beq_iff_eq.mpr h
        simp only [List.lookup,hb,if_pos (h.trans hk)]
      · have hb:(g == k) = false:=beq_eq_false_iff_ne.mpr h
        simp only [List.lookup,hb,if_neg (fun e:g = f => h (e.trans hk.symm))]
    · rw [if_neg hk]
      by_cases h:g = k
      · have hb:(g == k) = true:=beq_iff_eq.mpr h
        simp only [List.lookup,hb,if_neg (fun e:g = f => hk (h.symm.trans e))]
      · have hb:(g == k) = false:=beq_eq_false_iff_ne.mpr h
        simp only [List.lookup,hb]
        exact ih
theorem keys_putF (f:Str) (v:V):∀ fs:List (Str × V),f ∈ (putF f v fs).map (·.1) ∧ ∀ g,g ∈ fs.map (·.1) → g ∈ (putF f v fs).map (·.1)
  | [] => ⟨by simp [putF],fun g h => by simp at h⟩
  | (k,x) :: r => by
    obtain ⟨i1,i2⟩:=keys_putF f v r
    rw [show putF f v ((k,x) :: r) = (if k = f then (k,v) :: r else (k,x) :: putF f v r) from rfl]
    by_cases hk:k = f
    · rw [if_pos hk]
      subst hk
      exact ⟨by simp,fun g h => by simpa using h⟩
    · rw [if_neg hk]
      refine ⟨?_,fun g h => ?_⟩
      · rw [List.map_cons]
        exact List.mem_cons_of_mem _ i1
      · rw [List.map_cons] at h ⊢
        rcases List.mem_cons.mp h with e | e
        · exact List.mem_cons.mpr (.inl e)
        · exact List.mem_cons_of_mem _ (i2 g e)
theorem length_putF (f:Str) (v:V):∀ fs:List (Str × V),(putF f v fs).length ≤ fs.length + 1
  | [] => by simp [putF]
  | (k,x) :: r => by
    have ih:=length_putF f v r
    rw [show putF f v ((k,x) :: r) = (if k = f then (k,v) :: r else (k,x) :: putF f v r) from rfl]
    by_cases hk:k = f
    · rw [if_pos hk,List.length_cons,List.length_cons]; omega
    · rw [if_neg hk,List.length_cons,List.length_cons]; omega
theorem RelO.some_of {v:V} {o:Option Value} (r:RelO (some v) o):∃ u,o = some u ∧ RelV v u:=by
  cases o with
  | none => exact (show False from r).elim
  | some u => exact ⟨u,rfl,r⟩
theorem handed_of {v:V} {u:Value} (r:RelV v u):PySem.W.handedIn u = true:=by
  cases v with
  | non => cases (show u = Value.none from r); rfl
  | bl b => cases (show u = Value.bool b from r); rfl
  | int i => obtain ⟨t,e⟩:=(show ∃ t,u = Value.int i t from r); cases e; rfl
  | str x => obtain ⟨t,e⟩:=(show ∃ t,u = Value.str x t from r); cases e; rfl
  | byt b => obtain ⟨t,e⟩:=(show ∃ t,u = Value.bytes b t from r); cases e; rfl
  | flt b => obtain ⟨t,e⟩:=(show ∃ t,u = Value.float b t from r); cases e; rfl
  | ref a => cases (show u = Value.ref a from r); rfl
  | ty n => cases (show u = Value.type n from r); rfl
section
variable {P:Program} {w:World} {H H':Hp} {h h':Heap} {a C dx:Addr} {fs fs':List (Str × V)}
theorem ins_get (hok:HOk P w H h) (e:H a = some (.ins C dx fs)):∃ mA,ObjM h a dx C mA ∧ (∀ f,RelO (fs.lookup f) (mA f)) ∧ PySem.Within mA (fs.map (·.1)) ∧ fs.length ≤ 1000 ∧ H dx = some (.own a):=by
  obtain ⟨d,z,ne,ob,mA,n,r,q⟩:=(show ObjOk P w H h a (.ins C dx fs) from hok a _ e)
  exact ⟨mA,⟨ob,n,ne⟩,r,q,z,d⟩
end
structure Cls (K:PySem.W.Frag) (C:Addr):Prop where
  pg:PySem.W.plainGet K C Str.empty = true
  hd:PySem.W.hasDictIn K C = true
  po:PySem.W.plainOver K C = true
  sa:PySem.W.findIn K (.ref C) "__setattr__" = some (some (.builtin "object.__setattr__"))
theorem Cls.get {K:PySem.W.Frag} {C:Addr} (c:Cls K C) (f:Str):PySem.W.plainGet K C f = true:=c.pg
noncomputable def NoAttr (K:PySem.W.Frag) (C:Addr) (f:Str):Prop:=PySem.W.findIn K (.ref C) f = some none
theorem NoAttr.taker {K:PySem.W.Frag} {C:Addr} {f:Str} (n:NoAttr K C f):PySem.W.takerIn K C f = some none:=by
  unfold PySem.W.takerIn
  rw [show PySem.W.findIn K (.ref C) f = some none from n]
  rfl
structure Con (K:PySem.W.Frag) (C:Addr) (f:Str) (v:V) (u:Value):Prop where
  at_:PySem.W.findIn K (.ref C) f = some (some u)
  rel:RelV v u
  get:PySem.W.specialIn K u "__get__" = some none
  cp:PySem.W.copiedNames.contains f = false
structure Meth (K:PySem.W.Frag) (C:Addr) (m:Str) (f:Addr):Prop where
  at_:PySem.W.findIn K (.ref C) m = some (some (.ref f))
  fn:PySem.W.isFn K (.ref f) = true
  kp:PySem.W.keepIn K (.ref f) = true
section
variable {X:Cx} {pins:List (Addr × Obj)} {σ:St} {H:Hp} {s:Shared} {a C dx:Addr} {fs:List (Str × V)} {f:Str} {v:V} {A:Around} {E:Value → Shared → Prop}
theorem getattr_ok {b:Bool} {Q:Value → Shared → Prop} (I:Inv X pins σ H s) (e:H a = some (.ins C dx fs)) (c:Cls X.K C) (n:NoAttr X.K C f) (l:fs.lookup f = some v)
    (h:∀ u s',Inv X pins σ H s' → RelV v u → Q u s'):wpAny (model X.prog X.w) A (getAttr (.ref a) f b) Q E s:=by
  obtain ⟨mA,O,r,_,_,_⟩:=ins_get I.hok e
  obtain ⟨u,hu,ru⟩:=RelO.some_of (v:=v) (o:=mA f) (by rw [← l]; exact r f)
  exact get_map I.kIn O (c.get f) c.hd n hu (handed_of ru) (h u _ (I.tok _) ru)
theorem setattr_ok {y:V} {u:Value} {Q:Unit → Shared → Prop} (I:Inv X pins σ H s) (e:H a = some (.ins C dx fs)) (c:Cls X.K C) (n:NoAttr X.K C f) (hl:fs.length < 1000) (ry:RelV y u)
    (h:∀ s',Inv X pins σ (upd H a (.ins C dx (putF f y fs))) s' → Q () s'):wpAny (model X.prog X.w) A (setAttr (.ref a) f u) Q E s:=by
  obtain ⟨mA,O,r,wi,_,ho⟩:=ins_get I.hok e
  have hz:(fs.map (·.1)).length ≤ sizeLine:=by rw [List.length_map,sizeLine_eq]; omega
  refine set_map I.kIn O c.sa c.po n.taker c.hd wi hz fun h' O' sb => h _ ?_
  have hd:∃ o,h'.get? dx = some o:=let ⟨o,_,_,e',_⟩:=O'.ns; ⟨o,e'⟩
  refine I.write (x:=a) (e:=dx) (by rw [e]; exact True.intro) (.inr ho) (fun b q hb z => (sb.2 b hb).trans z) hd ?_
  refine ⟨by rw [upd_ne O.ne]; exact ho,?_,O.ne,O'.obj,_,O'.ns,fun g => ?_,fun g hg => ?_⟩
  · have:=length_putF f y fs; omega
  · show RelO ((putF f y fs).lookup g) (if g = f then some u else mA g)
    rw [lookup_putF]
    by_cases q:g = f
    · rw [if_pos q,if_pos q]; exact ry
    · rw [if_neg q,if_neg q]; exact r g
  · by_cases q:g = f
    · rw [q]; exact (keys_putF f y fs).1
    · refine (keys_putF f y fs).2 g (wi g fun z => hg ?_)
      show (if g = f then some u else mA g) = none
      rw [if_neg q]; exact z
theorem Inv.made (I:Inv X pins σ H s):Inv X pins σ (upd (upd H s.heap.objs.size (.own (s.heap.objs.size + 1))) (s.heap.objs.size + 1) (.ins C s.heap.objs.size []))
    { s with heap:=(s.heap.push PySem.W.emptyDict).push (PySem.W.instObj C s.heap.objs.size) }:=by
  have e1:(s.heap.push PySem.W.emptyDict).get? s.heap.objs.size = some PySem.W.emptyDict:=Heap.get?_push_size s.heap rfl
  have e2:((s.heap.push PySem.W.emptyDict).push (PySem.W.instObj C s.heap.objs.size)).get? (s.heap.objs.size + 1) = some (PySem.W.instObj C s.heap.objs.size):=by
    have:=Heap.get?_push_size (s.heap.push PySem.W.emptyDict) (o:=PySem.W.instObj C s.heap.objs.size) rfl
    rwa [Heap.size_push] at this
  have e3:(s.heap.push PySem.W.emptyDict).Ns s.heap.objs.size (fun _ => none):=⟨PySem.W.emptyDict,#[],_,e1,rfl,(fun e he => absurd he (by simp)),fun _ => rfl⟩
  have I1:=I.laid (a:=s.heap.objs.size) (o:=.own (s.heap.objs.size + 1)) (h':=s.heap.push PySem.W.emptyDict) (t':=s.toks) (fun b u q => Heap.get?_push_of_some _ q) (Nat.le_refl _) ⟨_,e1⟩
  refine I1.laid (a:=s.heap.objs.size + 1) (o:=.ins C s.heap.objs.size []) (t':=s.toks) (fun b u q => Heap.get?_push_of_some _ q) (Nat.le_of_eq (Heap.size_push _ _)) ?_
  have ne:s.heap.objs.size ≠ s.heap.objs.size + 1:=Nat.ne_of_lt (Nat.lt_succ_self _)
  refine ⟨by rw [upd_ne ne,upd_same],Nat.zero_le _,ne,e2,fun _ => none,(Heap.Ns1.of_empty e3).at fun o q => Heap.get?_push_of_some _ q,fun _ => True.intro,fun y hy => absurd rfl hy⟩
theorem attr_of {prog:Program} {w:World} {env:Env} {e:Expr} {f:Str} {pos:Pos} {s:Shared} {Q:Value → Shared → Prop} (hb:attributeBase e f env (eval e env) = eval e env)
    (h:wpAny (model prog w) A (eval e env) (fun o s₁ => wpAny (model prog w) A (getAttr o f true) Q E s₁) E s):wpAny (model prog w) A (eval (.Attribute e f pos) env) Q E s :=
  Attribute_any_ h (by rw [arm_eval_Attribute,hb])
end
noncomputable def tFld (K:PySem.W.Frag) (ta:TE) (f:Str):TE:=fun σ H Q => ta σ H fun x H1 => ∃ a C dx fs v,x = .ref a ∧ H1 a = some (.ins C dx fs) ∧ Cls K C ∧ NoAttr K C f ∧ fs.lookup f = some v ∧ Q v H1
noncomputable def sFld (K:PySem.W.Frag) (ta tv:TE) (f:Str):TS:=fun D σ H => tv σ H fun y H1 => ta σ H1 fun x H2 => ∃ a C dx fs,x = .ref a ∧ H2 a = some (.ins C dx fs) ∧ Cls K C ∧ NoAttr K C f ∧ fs.length < 1000 ∧
  D.nx σ (upd H2 a (.ins C dx (putF f y fs)))
section
variable {X:Cx} {o e value:Expr} {f:Str} {pos pos' tpos:Pos} {ta tv:TE}
theorem pe_fld (he:PE X e ta) (hb:attributeBase e f X.env (eval e X.env) = eval e X.env):PE X (.Attribute e f pos) (tFld X.K ta f):=by
  intro pins s σ H Q I h
  refine attr_of hb (thn (he pins s σ H _ I h) fun u s1 ⟨x,H1,I1,rx,a,C,dx,fs,v,ex,ea,c,n,l,q⟩ => ?_)
  subst ex
  obtain rfl:u = Value.ref a:=rx
  exact getattr_ok I1 ea c n l fun u' s2 I2 ru => ⟨v,H1,I2,ru,q⟩
theorem ps_fld (ha:PE X o ta) (hv:PE X value tv) (hs:swapsWith value (some (.Attribute o f pos')) pos.line X.env = pure false):PS X (.Assign [.Attribute o f pos'] value pos) (sFld X.K ta tv f):=by
  intro pins s σ H D I h
  refine plainObj_wpAny_Assign_Attribute (thn (hv pins s σ H _ I h) fun u s1 ⟨y,H1,I1,ry,q⟩ => thn (ha pins s1 σ H1 _ I1 q) fun ov s2 ⟨x,H2,I2,rx,a,C,dx,fs,ex,ea,c,n,l,q2⟩ => ?_) hs
  subst ex
  obtain rfl:ov = Value.ref a:=rx
  exact setattr_ok I2 ea c n l ry fun s3 I3 => ⟨σ,_,I3,q2⟩
end
section
variable {X:Cx} {pins:List (Addr × Obj)} {σ:St} {H:Hp} {s:Shared} {A:Around} {E:Value → Shared → Prop} {Q:Value → Shared → Prop} {c:Value} {b:Bool}
inductive TyOf (K:PySem.W.Frag) (H:Hp):V → Value → Prop where
  | non:TyOf K H .non (.type "NoneType")
  | bl (x:Bool):TyOf K H (.bl x) (.type "bool")
  | int (i:Int):TyOf K H (.int i) (.type "int")
  | str (x:Str):TyOf K H (.str x) (.type "str")
  | flt (x:UInt64):TyOf K H (.flt x) (.type "float")
  | lst {a:Addr} {xs:List V} (e:H a = some (.lst xs)):TyOf K H (.ref a) (.type "list")
  | frz {a:Addr} {o:Obj} {xs:List V} (e:H a = some (.frz o (.lst xs))):TyOf K H (.ref a) (.type "list")
  | tup {a:Addr} {xs:List V} (e:H a = some (.tup xs)):TyOf K H (.ref a) (.type "tuple")
  | dK {a:Addr} {kvs:List (Key × V)} (e:H a = some (.dK kvs)):TyOf K H (.ref a) (.type "dict")
  | dT {a:Addr} {kvs:List (List Key × V)} (e:H a = some (.dT kvs)):TyOf K H (.ref a) (.type "dict")
  | ins {a C dx:Addr} {fs:List (Str × V)} (e:H a = some (.ins C dx fs)) (cl:Cls K C) (ha:PySem.W.findIn K (.ref C) "__class__" = some (some (.builtin "object.__class__")))
      (hn:PySem.W.specialIn K (.builtin "object.__class__") "__get__" = some (some (.builtin "getset_descriptor.__get__"))) (htk:PySem.W.takesIn K (.builtin "object.__class__") = some true)
      (hm:PySem.W.mroIn K C (.type "object") = some true):TyOf K H (.ref a) (.ref C)
theorem isinst_ok {x:V} {u t:Value} (I:Inv X pins σ H s) (rx:RelV x u) (ty:TyOf X.K H x t) (e:PySem.W.kitOne X.K t c = some b) (h:∀ tk,Q (.bool b) { s with toks:=tk }) :
    wpAny (model X.prog X.w) A (call (.builtin "isinstance") [u,c]) Q E s:=by
  cases ty with
  | non => cases (show u = Value.none from rx); exact PySem.W.kia_one PySem.W.kitx_none I.kIn True.intro e (fun z => nomatch z) h
  | bl y => cases (show u = Value.bool y from rx); exact PySem.W.kia_one PySem.W.kitx_bool I.kIn True.intro e (fun z => nomatch z) h
  | int i => obtain ⟨t,q⟩:=(show ∃ t,u = Value.int i t from rx); cases q; exact PySem.W.kia_one PySem.W.kitx_int I.kIn True.intro e (fun z => nomatch z) h
  | str y => obtain ⟨t,q⟩:=(show ∃ t,u = Value.str y t from rx); cases q; exact PySem.W.kia_one PySem.W.kitx_str I.kIn True.intro e (fun z => nomatch z) h
  | flt y => obtain ⟨t,q⟩:=(show ∃ t,u = Value.float y t from rx); cases q; exact PySem.W.kia_one PySem.W.kitx_float I.kIn True.intro e (fun z => nomatch z) h
  | @lst a xs ea =>
    cases (show u = Value.ref a from rx)
    obtain ⟨_,_,n,_,h1⟩:=(show ObjOk X.prog X.w H s.heap a (.lst xs) from I.hok a _ ea)
    exact PySem.W.kia_one PySem.W.kitx_list I.kIn ⟨_,h1,rfl⟩ e (fun z => nomatch z) h
  | @frz a ob xs ea =>
    cases (show u = Value.ref a from rx)
    obtain ⟨_,_,_,n,_,h1⟩:=(show ObjOk X.prog X.w H s.heap a (.frz ob (.lst xs)) from I.hok a _ ea)
    exact PySem.W.kia_one PySem.W.kitx_list I.kIn ⟨_,h1,rfl⟩ e (fun z => nomatch z) h
  | @tup a xs ea =>
    cases (show u = Value.ref a from rx)
    obtain ⟨_,_,_,p⟩:=(show ObjOk X.prog X.w H s.heap a (.tup xs) from I.hok a _ ea)
    obtain ⟨o,h1,h2,_⟩:=p
    exact PySem.W.kia_one PySem.W.kitx_tuple I.kIn ⟨o,h1,h2⟩ e (fun z => nomatch z) h
  | @dK a kvs ea =>
    cases (show u = Value.ref a from rx)
    obtain ⟨_,_,vs,_,p⟩:=(show ObjOk X.prog X.w H s.heap a (.dK kvs) from I.hok a _ ea)
    obtain ⟨o,es,ep,h1,h2,_⟩:=p
    exact PySem.W.kia_one PySem.W.kitx_dict I.kIn ⟨o,h1,h2.1⟩ e (fun z => nomatch z) h
  | @dT a kvs ea =>
    cases (show u = Value.ref a from rx)
    obtain ⟨_,_,xs,_,o,es,ep,h1,h2,_⟩:=(show ObjOk X.prog X.w H s.heap a (.dT kvs) from I.hok a _ ea)
    exact PySem.W.kia_one PySem.W.kitx_dict I.kIn ⟨o,h1,h2.1⟩ e (fun z => nomatch z) h
  | @ins a C dx fs ea cl ha hn htk hm =>
    cases (show u = Value.ref a from rx)
    obtain ⟨mA,O,_⟩:=ins_get I.hok ea
    obtain ⟨od,J,_⟩:=O.look
    exact PySem.W.kia_one (PySem.W.kitx_own (cl.get _) cl.hd ha hn htk hm) I.kIn J e (fun z => nomatch z) h
end
end L2
namespace L2
open PySem PySem.Spec PyProof.Rows
structure Room (k:Nat) (A:Around):Prop where
  hd:A.handled = none
  dp:A.depth + 3 * k + 5 < recursionLimit
  un:A.units + 16 * k + 200 < cLine
  gd:A.guards = some []
theorem Room.mono {j k:Nat} {A:Around} (r:Room k A) (h:j ≤ k):Room j A:=⟨r.hd,by have:=r.dp; omega,by have:=r.un; omega,r.gd⟩
theorem Room.deeper {k:Nat} {A:Around} (r:Room (k + 1) A) (env:Env):Room k (A.deeper env) :=
  ⟨r.hd,by have:=r.dp; show A.depth + 1 + 3 * k + 5 < _; omega,by have:=r.un; show A.units + 3 + 16 * k + 200 < _; omega,r.gd⟩
theorem make_depth {A:Around} {C:Addr} {us:List Value} {kw:List (Str × Value)}:(A.under (.builtin "type.__call__" ⟨.ref C :: us,kw⟩)).depth = A.depth + 1:=by
  first | rfl | simp [Around.under,Code.weight,Code.isCreation,Code.isGuard,Code.isCaller,Code.frames,Code.isFrame,guardIds]
theorem make_units {A:Around} {C:Addr} {us:List Value} {kw:List (Str × Value)}:(A.under (.builtin "type.__call__" ⟨.ref C :: us,kw⟩)).units = A.units + 1:=by
  first | rfl | simp [Around.under,Code.cUnits,Code.frames,Code.isFrame]
theorem make_guards {A:Around} {C:Addr} {us:List Value} {kw:List (Str × Value)}:(A.under (.builtin "type.__call__" ⟨.ref C :: us,kw⟩)).guards = A.guards:=by
  first | rfl | simp [Around.under,Code.guards,Code.isGuard,guardIds,pushGuards]
theorem Room.make {k:Nat} {A:Around} (r:Room (k + 1) A) (C:Addr) (us:List Value) (kw:List (Str × Value)):Room k (A.under (.builtin "type.__call__" ⟨.ref C :: us,kw⟩)) :=
  ⟨r.hd,by have:=r.dp; rw [make_depth]; omega,by have:=r.un; rw [make_units]; omega,make_guards.trans r.gd⟩
theorem Room.depth {k:Nat} {A:Around} (r:Room k A):A.depth < recursionLimit:=by have:=r.dp; omega
theorem Room.units {k:Nat} {A:Around} (r:Room k A):A.units + 64 < cLine:=by have:=r.un; omega
noncomputable def tNil:TA:=fun _ H Q => Q [] H
noncomputable def tCons (ta:TE) (tr:TA):TA:=fun σ H Q => ta σ H fun x H1 => tr σ H1 fun xs H2 => Q (x :: xs) H2
section
variable {X:Cx} {e:Expr} {es:List Expr} {te:TE} {t:TA} {pos:Pos}
theorem pa_nil:PA X [] tNil:=fun _ _ _ _ H Q I h => Calls.spliced_nil ⟨[],H,I,.nil,h⟩
theorem pa_cons (ha:PE X e te) (hr:PA X es t) (hs:starEach (e :: es) X.env = (false,eval e X.env) :: starEach es X.env:=by rfl):PA X (e :: es) (tCons te t):=by
  intro pos pins s σ H Q I h
  rw [hs]
  show wpAny _ _ (spliced ((false,eval e X.env) :: backTo pos (starEach es X.env))) _ _ s
  refine Calls.spliced_cons (thn (ha pins s σ H _ I h) fun u s1 ⟨x,H1,I1,r1,q1⟩ => ?_)
  exact thn (hr pos pins s1 σ H1 _ I1 q1) fun us s2 ⟨xs,H2,I2,r2,q2⟩ => ⟨x :: xs,H2,I2,.cons r1 r2,q2⟩
noncomputable def tTup (t:TA):TE:=fun σ H Q => t σ H fun xs H1 => xs.length ≤ sizeLine ∧ ∀ p,H1 p = none → Q (.ref p) (upd H1 p (.tup xs))
noncomputable def tLst (t:TA):TE:=fun σ H Q => t σ H fun xs H1 => xs.length ≤ sizeLine ∧ ∀ p,H1 p = none → Q (.ref p) (upd H1 p (.lst xs))
theorem pe_tup {x1} (h:PA X es t):PE X (.Tuple es x1 pos) (tTup t):=by
  intro pins s σ H Q I hq
  refine wpAny_Tuple_spliced (thn (h pos pins s σ H _ I hq) fun us s1 ⟨xs,H1,I1,r,z,q⟩ => ⟨by rw [← r.length]; exact z,?_⟩)
  have hf:H1 s1.heap.objs.size = none:=I1.hok.fresh (Nat.le_refl _)
  refine ⟨.ref s1.heap.objs.size,upd H1 s1.heap.objs.size (.tup xs),I1.laid (t':=s1.toks) (fun b u e => Heap.get?_push_of_some _ e) (Nat.le_refl _) ?_,rfl,q _ hf⟩
  exact ⟨z,us,r,⟨_,Heap.get?_push_size _ rfl,rfl,_,rfl⟩⟩
theorem pe_lst (h:PA X es t):PE X (.List es pos) (tLst t):=by
  intro pins s σ H Q I hq
  refine wpAny_List_spliced (thn (h pos pins s σ H _ I hq) fun us s1 ⟨xs,H1,I1,r,z,q⟩ => ⟨by rw [← r.length]; exact z,?_⟩)
  have hf:H1 s1.heap.objs.size = none:=I1.hok.fresh (Nat.le_refl _)
  refine ⟨.ref s1.heap.objs.size,upd H1 s1.heap.objs.size (.lst xs),I1.laid (t':=s1.toks) (fun b u e => Heap.get?_push_of_some _ e) (Nat.le_refl _) ?_,rfl,q _ hf⟩
  exact ⟨z,us,0,r,Heap.get?_push_size _ rfl⟩
end
noncomputable abbrev Sp:=List V → Hp → VK → XK → Prop
noncomputable abbrev CXT:=List Env → Hp → Shared → XK → Value → Shared → Prop
structure Env0 (P:Program) (w:World) (K:PySem.W.Frag) (mg:Str → Option Value) (base:Heap) (A:Around) (outer:List Env) (s:Shared) (H:Hp):Prop where
  frames:A.frames = some outer
  mod:Mod K mg base
  bs:∀ b o,base.get? b = some o → s.heap.get? b = some o ∧ H b = none
  bsz:base.objs.size ≤ s.heap.objs.size
  funs:s.heap.FunFrames base outer
  frf:∀ b ∈ frs outer,H b = none
  hok:HOk P w H s.heap
  bare:AllBare s.gens
noncomputable def CE (outer:List Env) (P:Program) (w:World) (H:Hp) (s:Shared) (Q:VK) (u:Value) (s':Shared):Prop :=
  ∃ v H',s'.os = s.os ∧ AllBare s'.gens ∧ Un (frs outer) [] H H' s.heap s'.heap ∧ HOk P w H' s'.heap ∧ RelV v u ∧ Q v H'
noncomputable def CR (CX:CXT) (outer:List Env) (P:Program) (w:World) (H:Hp) (s:Shared) (Q:VK) (E:XK) (r:Result) (s':Shared):Prop :=
  match r with
  | .ok (.ret u) => CE outer P w H s Q u s'
  | .ok _ => False
  | .error e => CX outer H s E e s'
structure FnOk (P:Program) (w:World) (K:PySem.W.Frag) (mg:Str → Option Value) (base:Heap) (CX:CXT) (k:Nat) (f:Addr) (fd:FuncData) (ps:List Str) (sp:Sp):Prop where
  len:∀ vs H Q E,sp vs H Q E → vs.length = ps.length
  run:∀ (A:Around) (outer:List Env) (s:Shared) (H:Hp) (args:Args) (us:List Value) (vs:List V) (Q:VK) (E:XK),Room k A → Env0 P w K mg base A outer s H → BindsTo s fd args (ps.zip us) → Vals vs us → sp vs H Q E →
    codeAny (model P w) A (.call (.ref f) args) (CR CX outer P w H s Q E) s
theorem Env0.make {P:Program} {w:World} {K:PySem.W.Frag} {mg:Str → Option Value} {base:Heap} {A:Around} {outer:List Env} {s:Shared} {H:Hp} (e:Env0 P w K mg base A outer s H) (C:Addr) (us:List Value) (kw:List (Str × Value)) :
    Env0 P w K mg base (A.under (.builtin "type.__call__" ⟨.ref C :: us,kw⟩)) outer s H:=⟨by first | exact e.frames | (simpa [Around.under,Code.envs,Code.isFrame,pushEnvs] using e.frames),e.mod,e.bs,e.bsz,e.funs,e.frf,e.hok,e.bare⟩
section
variable {X:Cx} {pins:List (Addr × Obj)} {σ:St} {H:Hp} {s s':Shared}
theorem Inv.env0 (I:Inv X pins σ H s):Env0 X.prog X.w X.K X.mg X.base X.A X.stack s H :=
  ⟨I.ok.frames,I.ok.mod,I.bs,Nat.le_trans I.ok.bsz I.sz,I.stack,I.stkFree,I.hok,I.bare⟩
theorem Inv.after {Q:VK} {u:Value} (I:Inv X pins σ H s) (h:CE X.stack X.prog X.w H s Q u s'):EP X pins σ Q u s':=by
  obtain ⟨v,H',os,bare,un,hok,r,q⟩:=h
  obtain ⟨hh,g,d,t,os'⟩:=s'
  obtain rfl:os' = s.os:=os
  exact ⟨v,H',I.call (h':=hh) (g':=g) (d':=d) (t':=t) (ch:=[]) un hok bare (fun b z => absurd z (by simp)),r,q⟩
end
noncomputable def tCall (sp:Sp) (dvs:List V) (E:XK) (t:TA):TE:=fun σ H Q => t σ H fun vs H1 => sp (vs ++ dvs) H1 Q E
noncomputable def tMake (C:Addr) (sp:Sp) (dvs:List V) (E:XK) (t:TA):TE:=fun σ H Q => t σ H fun vs H1 => ∀ x dx,H1 x = none → H1 dx = none → dx ≠ x →
  sp (.ref x :: (vs ++ dvs)) (upd (upd H1 dx (.own x)) x (.ins C dx [])) (fun v H2 => v = .non ∧ Q (.ref x) H2) E
noncomputable def Binds (K:PySem.W.Frag) (fd:FuncData) (ps:List Str) (ds:List Value):Prop :=
  ∀ (s:Shared) (us:List Value),K.In s.heap → (us ++ ds).length = ps.length → BindsTo s fd ⟨us,[]⟩ (ps.zip (us ++ ds))
theorem Binds.all {K:PySem.W.Frag} {fd:FuncData} {ps:List Str} (h:∀ us:List Value,us.length = ps.length → bindArgs fd ⟨us,[]⟩ = pure (ps.zip us)):Binds K fd ps []:=fun s us _ hl => by
  rw [List.append_nil] at hl ⊢
  exact .of_eq (h us hl)
noncomputable def Passes (CX:CXT) (X:Cx) (E:XK):Prop:=∀ (pins:List (Addr × Obj)) (σ:St) (H:Hp) (s:Shared) (e:Value) (s':Shared),Inv X pins σ H s → CX X.stack H s E e s' → X.xe e s'
section
variable {X:Cx} {CX:CXT} {k:Nat} {f C:Addr} {fd:FuncData} {ps:List Str} {sp:Sp} {dvs:List V} {ds:List Value} {E:XK} {x m:Str} {p pos apos:Pos} {e o:Expr} {es:List Expr} {ta:TE} {t:TA}
theorem run_fn {pins:List (Addr × Obj)} {σ:St} {H:Hp} {s:Shared} {Q:VK} {us:List Value} {vs:List V} (F:FnOk X.prog X.w X.K X.mg X.base CX k f fd ps sp) (hr:Room k X.A) (hb:Binds X.K fd ps ds) (hd:Vals dvs ds) (hx:Passes CX X E)
    (I:Inv X pins σ H s) (r:Vals vs us) (h:sp (vs ++ dvs) H Q E):wpAny (model X.prog X.w) X.A (call (.ref f) us) (EP X pins σ Q) X.xe s:=by
  have r2:Vals (vs ++ dvs) (us ++ ds):=r.append hd
  have hl:(us ++ ds).length = ps.length:=by rw [← r2.length]; exact F.len _ _ _ _ h
  refine wpAny_call (codeAny_mono (F.run X.A X.stack s H ⟨us,[]⟩ (us ++ ds) (vs ++ dvs) Q E hr I.env0 (hb s us I.kIn hl) r2 h) fun r s' hq => ?_)
  cases r with
  | error e => exact hx pins σ H s e s' I hq
  | ok fl =>
    cases fl with
    | ret u => exact I.after hq
    | next => exact False.elim hq
    | brk => exact False.elim hq
    | cont => exact False.elim hq
theorem pe_call (F:FnOk X.prog X.w X.K X.mg X.base CX k f fd ps sp) (hr:Room k X.A) (hg:Gl X x) (hm:X.mg x = some (.ref f)) (hk:PySem.W.keepIn X.K (.ref f) = true) (hb:Binds X.K fd ps ds) (hd:Vals dvs ds) (hx:Passes CX X E)
    (ha:PA X (e :: es) t) (hdb:(x == ("__debug__":Str)) = false:=by decide) (he:starEach (e :: es) X.env = (false,eval e X.env) :: starEach es X.env:=by rfl) (hpl:(backTo pos (starEach es X.env)).any (·.1) = false:=by rfl) :
    PE X (.Call (.Name x p) (e :: es) [] pos) (tCall sp dvs E t):=by
  intro pins s σ H Q I h
  refine wpAny_Call_Name_kw (ld_glob I hg hm ?_ hdb)
  refine PySem.W.callWith_K (h₀:=X.base) I.ok.mod.kin hk (thn (ha pos pins s σ H _ I h) fun us s1 ⟨vs,H1,I1,r,q⟩ => ⟨I1.kIn,?_⟩) he hpl
  exact run_fn F hr hb hd hx I1 r q
structure Mk (K:PySem.W.Frag) (C f:Addr):Prop where
  makes:PySem.W.makesIn K C = true
  init:PySem.W.findIn K (.ref C) "__init__" = some (some (.ref f))
  fn:PySem.W.isFn K (.ref f) = true
  kp:PySem.W.keepIn K (.ref C) = true
theorem run_make {pins:List (Addr × Obj)} {σ:St} {H:Hp} {s:Shared} {Q:VK} {us:List Value} {vs:List V} (M:Mk X.K C f) (F:FnOk X.prog X.w X.K X.mg X.base CX k f fd ps sp) (hr:Room (k + 1) X.A) (hb:Binds X.K fd ps ds) (hd:Vals dvs ds)
    (hx:Passes CX X E) (I:Inv X pins σ H s) (r:Vals vs us)
    (h:∀ x dx,H x = none → H dx = none → dx ≠ x → sp (.ref x :: (vs ++ dvs)) (upd (upd H dx (.own x)) x (.ins C dx [])) (fun v H2 => v = .non ∧ Q (.ref x) H2) E) :
    wpAny (model X.prog X.w) X.A (call (.ref C) us) (EP X pins σ Q) X.xe s:=by
  have hq:=h (s.heap.objs.size + 1) s.heap.objs.size (I.hok.fresh (Nat.le_succ _)) (I.hok.fresh (Nat.le_refl _)) (Nat.ne_of_lt (Nat.lt_succ_self _))
  have I2:=Inv.made (C:=C) I
  have r2:Vals (V.ref (s.heap.objs.size + 1) :: (vs ++ dvs)) (Value.ref (s.heap.objs.size + 1) :: (us ++ ds)):=.cons rfl (r.append hd)
  have hl:(Value.ref (s.heap.objs.size + 1) :: us ++ ds).length = ps.length:=by
    have e:=r2.length
    rw [F.len _ _ _ _ hq] at e
    exact e.symm
  refine wpAny_call (make_map (f:=f) I.kIn M.makes M.init (beq_iff_eq.mp M.fn) (codeAny_mono (F.run _ X.stack _ _ ⟨Value.ref (s.heap.objs.size + 1) :: us,[]⟩ (Value.ref (s.heap.objs.size + 1) :: (us ++ ds)) _ _ E (hr.make C us [])
    (I2.env0.make C us []) (hb _ (Value.ref (s.heap.objs.size + 1) :: us) I2.kIn hl) r2 hq) fun r s' hq' => ?_))
  cases r with
  | error e => exact hx pins σ _ _ e s' I2 hq'
  | ok fl =>
    cases fl with
    | ret u =>
      obtain ⟨v,H',I3,rv,ev,q3⟩:=I2.after hq'
      subst ev
      exact ⟨rv,⟨V.ref (s.heap.objs.size + 1),H',I3,rfl,q3⟩⟩
    | next => exact False.elim hq'
    | brk => exact False.elim hq'
    | cont => exact False.elim hq'
theorem pe_make (M:Mk X.K C f) (F:FnOk X.prog X.w X.K X.mg X.base CX k f fd ps sp) (hr:Room (k + 1) X.A) (hg:Gl X x) (hm:X.mg x = some (.ref C)) (hb:Binds X.K fd ps ds) (hd:Vals dvs ds) (hx:Passes CX X E)
    (ha:PA X (e :: es) t) (hdb:(x == ("__debug__":Str)) = false:=by decide) (he:starEach (e :: es) X.env = (false,eval e X.env) :: starEach es X.env:=by rfl) (hpl:(backTo pos (starEach es X.env)).any (·.1) = false:=by rfl) :
    PE X (.Call (.Name x p) (e :: es) [] pos) (tMake C sp dvs E t):=by
  intro pins s σ H Q I h
  refine wpAny_Call_Name_kw (ld_glob I hg hm ?_ hdb)
  refine PySem.W.callWith_K (h₀:=X.base) I.ok.mod.kin M.kp (thn (ha pos pins s σ H _ I h) fun us s1 ⟨vs,H1,I1,r,q⟩ => ⟨I1.kIn,?_⟩) he hpl
  exact run_make M F hr hb hd hx I1 r q
end
noncomputable def PK (X:Cx) (kws:List Keyword) (t:TA):Prop :=
  ∀ (pos:Pos) (pins:List (Addr × Obj)) (s:Shared) (σ:St) (H:Hp) (Q:List V → Hp → Prop),Inv X pins σ H s → t σ H Q → wpAny (model X.prog X.w) X.A (evalAll ((backToKw pos (keywordEach kws X.env)).map (·.2))) (AP X pins σ Q) X.xe s
section
variable {X:Cx} {CX:CXT} {k:Nat} {f C:Addr} {fd:FuncData} {ps ks:List Str} {sp:Sp} {E:XK} {x m:Str} {p pos apos kpos:Pos} {e o:Expr} {es:List Expr} {kws:List Keyword} {te ta:TE} {t tk:TA} {nm:Option Str}
theorem pk_nil:PK X [] tNil:=fun _ _ _ _ H Q I h => wpAny_evalAll_nil ⟨[],H,I,.nil,h⟩
theorem pk_cons (ha:PE X e te) (hr:PK X kws t):PK X (⟨nm,e,kpos⟩ :: kws) (tCons te t):=by
  intro pos pins s σ H Q I h
  show wpAny _ _ (evalAll ((do let v ← eval e X.env; standAt pos; pure v) :: (backToKw pos (keywordEach kws X.env)).map (·.2))) _ _ s
  refine wpAny_evalAll_cons (wpAny_bind (thn (ha pins s σ H _ I h) fun u s1 ⟨x,H1,I1,r1,q1⟩ => wpAny_bind (wpAny_standAt (wpAny_pure ?_))))
  exact thn (hr pos pins s1 σ H1 _ I1 q1) fun us s2 ⟨xs,H2,I2,r2,q2⟩ => ⟨x :: xs,H2,I2,.cons r1 r2,q2⟩
structure KBinds (K:PySem.W.Frag) (fd:FuncData) (ps ks:List Str) (g:List Value → List Value → List Value) (gV:List V → List V → List V):Prop where
  to:∀ (s:Shared) (us ws:List Value),K.In s.heap → (g us ws).length = ps.length → BindsTo s fd ⟨us,ks.zip ws⟩ (ps.zip (g us ws))
  rel:∀ {vs:List V} {us:List Value} {zs:List V} {ws:List Value},Vals vs us → Vals zs ws → Vals (gV vs zs) (g us ws)
variable {g:List Value → List Value → List Value} {gV:List V → List V → List V}
end
structure FnScope (N P:List Str) (sc:Scope):Prop where
  kind:sc.kind = .function
  co:sc.isCoroutine = false
  gen:sc.isGenerator = false
  nd:N.Nodup
  pre:N.take P.length = P
  par:∀ x ∈ P,sc.names.lookup x = some .local ∨ sc.names.lookup x = some .cell
  nofree:∀ y ∈ sc.names,y.2 ≠ .free
theorem bindL_out {kindOf:Str → Option NameKind} {x:Str}:∀ {binds:List (Str × Value)} {m:Str → Option Value},(∀ v,(x,v) ∉ binds) → bindL kindOf binds m x = m x
  | [],_,_ => rfl
  | (n,v) :: r,m,h => by
    unfold bindL
    rw [bindL_out fun w hw => h w (List.mem_cons_of_mem _ hw)]
    split
    · have:x ≠ n:=by rintro rfl; exact h v List.mem_cons_self
      simp [this]
    · rfl
theorem bindC_out {kindOf:Str → Option NameKind} {x:Str}:∀ {binds:List (Str × Value)} {m:Str → Option Value},(∀ v,(x,v) ∉ binds) → bindC kindOf binds m x = m x
  | [],_,_ => rfl
  | (n,v) :: r,m,h => by
    unfold bindC
    rw [bindC_out fun w hw => h w (List.mem_cons_of_mem _ hw)]
    split
    · rfl
    · have:x ≠ n:=by rintro rfl; exact h v List.mem_cons_self
      simp [this]
theorem bindL_get {kindOf:Str → Option NameKind} {x:Str} {v:Value}:∀ {P:List Str} {vs:List Value} {i:Nat} {m:Str → Option Value},P.Nodup → P[i]? = some x → vs[i]? = some v → kindOf x = some .local →
    bindL kindOf (P.zip vs) m x = some v
  | [],_,_,_,_,h,_,_ => by simp at h
  | _ :: _,[],_,_,_,_,h,_ => by simp at h
  | p :: P,w :: vs,0,m,nd,h1,h2,hk => by
    simp at h1 h2; subst h1; subst h2
    show bindL kindOf ((p,w) :: P.zip vs) m p = _
    unfold bindL
    rw [bindL_out fun v hv => (List.nodup_cons.mp nd).1 (List.of_mem_zip hv).1,if_pos hk]
    simp
  | p :: P,w :: vs,i + 1,m,nd,h1,h2,hk => by
    show bindL kindOf ((p,w) :: P.zip vs) m x = _
    unfold bindL
    exact bindL_get (i:=i) (List.nodup_cons.mp nd).2 (by simpa using h1) (by simpa using h2) hk
theorem bindC_get {kindOf:Str → Option NameKind} {x:Str} {v:Value}:∀ {P:List Str} {vs:List Value} {i:Nat} {m:Str → Option Value},P.Nodup → P[i]? = some x → vs[i]? = some v → kindOf x ≠ some .local →
    bindC kindOf (P.zip vs) m x = some v
  | [],_,_,_,_,h,_,_ => by simp at h
  | _ :: _,[],_,_,_,_,h,_ => by simp at h
  | p :: P,w :: vs,0,m,nd,h1,h2,hk => by
    simp at h1 h2; subst h1; subst h2
    show bindC kindOf ((p,w) :: P.zip vs) m p = _
    unfold bindC
    rw [bindC_out fun v hv => (List.nodup_cons.mp nd).1 (List.of_mem_zip hv).1,if_neg hk]
    simp
  | p :: P,w :: vs,i + 1,m,nd,h1,h2,hk => by
    show bindC kindOf ((p,w) :: P.zip vs) m x = _
    unfold bindC
    exact bindC_get (i:=i) (List.nodup_cons.mp nd).2 (by simpa using h1) (by simpa using h2) hk
noncomputable def start (N:List Str) (vs:List V):St:=vs.map some ++ List.replicate (N.length - vs.length) none
noncomputable def cxOf (CX:CXT) (P:Program) (w:World) (K:PySem.W.Frag) (mg:Str → Option Value) (base:Heap) (N:List Str) (qual:Str) (scope:Scope) (f:Addr) (cd:Value) (A:Around) (outer:List Env) (s:Shared) (H:Hp) (E:XK):Cx where
  prog:=P
  w:=w
  K:=K
  mg:=mg
  base:=base
  A:=A.deeper (envOfC qual scope s.heap.objs.size f cd)
  N:=N
  s₀:=s
  H₀:=H
  env:=envOfC qual scope s.heap.objs.size f cd
  outer:=outer
  stack:=envOfC qual scope s.heap.objs.size f cd :: outer
  ex:=[]
  calm:=true
  fn:=fun _ => true
  pn:=[]
  xe:=fun e s' => wpAny (model P w) (A.deeper (envOfC qual scope s.heap.objs.size f cd)) (leaving (envOfC qual scope s.heap.objs.size f cd) e) (fun _ s'' => CX outer H s E e s'') (fun e' s'' => CX outer H s E e' s'') s'
theorem cell_has {sc:Scope} {n:Nat} {x:Str} (h:sc.names.lookup x = some .cell):∃ c,(cellsFrom n sc.names []).lookup x = some c:=by
  have q:=PySem.W.cellsFrom_some sc.names n [] (.inl h)
  exact Option.isSome_iff_exists.mp q
theorem inv_start {CX:CXT} {P:Program} {w:World} {K:PySem.W.Frag} {mg:Str → Option Value} {base:Heap} {N ps:List Str} {qual:Str} {scope:Scope} {f:Addr} {cd:Value} {A:Around} {outer:List Env} {s s1:Shared} {H:Hp} {E:XK} {us:List Value} {vs:List V}
    (S:FnScope N ps scope) (hd:A.handled = none) (e0:Env0 P w K mg base A outer s H) (hl:vs.length = ps.length) (r:Vals vs us)
    (x:InCallC s s.heap.objs.size (bindL (envOfC qual scope s.heap.objs.size f cd).kindOf (ps.zip us) fun _ => none) (cellsFrom (s.heap.objs.size + 1) scope.names []) (bindC (envOfC qual scope s.heap.objs.size f cd).kindOf (ps.zip us) fun _ => none) s1) :
    Inv (cxOf CX P w K mg base N qual scope f cd A outer s H E) [] (start N vs) H s1:=by
  have hpl:ps.length ≤ N.length:=by have:=congrArg List.length S.pre; rw [List.length_take] at this; omega
  obtain ⟨h1,tk,rfl,hk⟩:=x.done
  have noA:∀ b:Addr,b ∉ (cxOf CX P w K mg base N qual scope f cd A outer s H E).ex:=fun b z => absurd (show b ∈ ([]:List Addr) from z) (by simp)
  refine ⟨⟨e0.mod,S.kind,rfl,rfl,Nat.le_refl _,fun y z c h1 h2 => ?_,fun y hy => ?_,fun y c _ h => ?_,fun _ => hd,Around.frames_deeper e0.frames,.inr ⟨rfl,rfl⟩,fun b z => absurd z (noA b),e0.bs,e0.bsz,fun b _ _ => noA b,fun b z => absurd z (noA b),e0.funs,e0.frf⟩,
    rfl,e0.bare,Un.kept hk,⟨_,x.toInCall.ns,fun i y v h1 h2 h3 => ?_⟩,fun y c h => ⟨_,x.cell y c h⟩,e0.hok.fresh (Nat.le_refl _),fun y c h => ?_,fun p hp => absurd (show p ∈ ([]:List (Addr × Obj)) from hp) (by simp),e0.hok.kept hk,?_⟩
  · exact name_of_addr x.apart (PySem.mem_of_lookup h1) (PySem.mem_of_lookup h2)
  · have hy:scope.names.lookup y = some .cell ∨ scope.names.lookup y = some .free:=hy
    rcases hy with hy | hy
    · exact cell_has hy
    · exact absurd rfl (S.nofree _ (PySem.mem_of_lookup hy))
  · exact Nat.le_of_lt (x.above y c (PySem.mem_of_lookup h))
  · have hi:i < vs.length:=by
      unfold start at h2
      by_cases hi:i < vs.length
      · exact hi
      · rw [List.getElem?_append_right (by simpa using hi)] at h2
        rw [List.getElem?_replicate] at h2
        split at h2 <;> cases h2
    have ha:vs[i]? = some v:=by
      unfold start at h2
      rw [List.getElem?_append_left (by simpa using hi),List.getElem?_map] at h2
      cases e:vs[i]? with
      | none => rw [e] at h2; cases h2
      | some a => rw [e] at h2; cases h2; rfl
    obtain ⟨u,hu,rv⟩:=r.get ha
    have hp:ps[i]? = some y:=by
      rw [← S.pre,List.getElem?_take_of_lt (by omega)]; exact h1
    have ndP:ps.Nodup:=by rw [← S.pre]; exact S.nd.sublist (List.take_sublist _ _)
    refine ⟨u,rv,?_⟩
    rcases S.par y (List.mem_of_getElem? hp) with k | k
    · exact .inl ⟨k,bindL_get ndP hp hu k⟩
    · obtain ⟨c,e⟩:=cell_has (n:=s.heap.objs.size + 1) k
      refine .inr ⟨.inl k,c,e,?_⟩
      have q:=x.cell y c e
      rw [bindC_get ndP hp hu (by show scope.names.lookup y ≠ _; rw [k]; decide)] at q
      exact q
  · exact e0.hok.fresh (Nat.le_of_lt (x.above y c (PySem.mem_of_lookup h)))
  · unfold start
    show _ = N.length
    rw [List.length_append,List.length_map,List.length_replicate]
    omega
theorem fn_of {CX:CXT} {P:Program} {w:World} {K:PySem.W.Frag} {mg:Str → Option Value} {base:Heap} {k:Nat} {f:Addr} {name qual:Str} {params:Arguments} {body:List Stmt} {scope:Scope} {dV kV doc pm cdv ct oc:Value} {an od:Option Addr}
    {osl:Array (Option Value)} {N ps:List Str} {sp:Sp} (lk:K.lookup f = some ⟨oc,od,.func (PySem.W.fnOf name qual params body scope dV kV doc pm an cdv ct),osl⟩) (hcd:PySem.W.codeIn K cdv qual = true) (S:FnScope N ps scope)
    (len:∀ vs H Q E,sp vs H Q E → vs.length = ps.length)
    (hbody:∀ (A:Around) (outer:List Env) (s:Shared) (H:Hp) (vs:List V) (Q:VK) (E:XK),Room k (A.deeper (envOfC qual scope s.heap.objs.size f cdv)) → sp vs H Q E →
      ∃ t,PSs (cxOf CX P w K mg base N qual scope f cdv A outer s H E) body t ∧ t { nx:=fun _ H' => Q .non H',rt:=Q } (start N vs) H) :
    FnOk P w K mg base CX (k + 1) f (PySem.W.fnOf name qual params body scope dV kV doc pm an cdv ct) ps sp:=by
  refine ⟨len,fun A outer s H args us vs Q E hr e0 hb r hsp => ?_⟩
  have hl:=len _ _ _ _ hsp
  have KX:K.In s.heap:=e0.mod.kin.keeps fun b o e => (e0.bs b o e).1
  have lim:s.heap.NoLimit:=e0.mod.nolimit.keeps fun b o e => (e0.bs b o e).1
  have hkind:∀ y ∈ ps.zip us,scope.names.lookup y.1 = some .local ∨ (scope.names.lookup y.1 = some .cell ∧ ((cellsFrom (s.heap.objs.size + 1) scope.names []).lookup y.1).isSome = true):=fun ⟨n,v⟩ hy => by
    rcases S.par n (List.of_mem_zip hy).1 with q | q
    · exact .inl q
    · exact .inr ⟨q,PySem.W.cellsFrom_some _ _ _ (.inl q)⟩
  refine codeAny_call_function hr.depth (KX _ _ lk) rfl S.co S.gen rfl (PySem.W.codeRec_of KX hcd) (hb _ _ _ _ ?_)
  refine wpAny_newFunctionEnv_cells S.kind hkind fun env he s1 x => ?_
  subst he
  refine ⟨lim.keeps x.toInCall.keep,codeAny_func ?_⟩
  obtain ⟨t,ht,hq⟩:=hbody A outer s H vs Q E (hr.deeper _) hsp
  have I:Inv (cxOf CX P w K mg base N qual scope f cdv A outer s H E) [] (start N vs) H s1:=inv_start S hr.hd e0 hl r x
  refine wpAny_mono (ht [] s1 (start N vs) H _ I hq) (fun fl s' hs => ?_) fun e s' hs => hs
  have fin:∀ {σ':St} {H':Hp} {v:V} {u:Value},Inv (cxOf CX P w K mg base N qual scope f cdv A outer s H E) [] σ' H' s' → RelV v u → Q v H' → CE outer P w H s Q u s' :=
    fun {σ' H' v u} J rv q => ⟨v,H',J.os,J.bare,J.base,J.hok,rv,q⟩
  cases fl with
  | ret u =>
    obtain ⟨v,σ',H',J,rv,q⟩:=hs
    exact fin J rv q
  | next =>
    obtain ⟨σ',H',J,q⟩:=hs
    exact fin (v:=V.non) (u:=Value.none) J rfl q
  | brk =>
    obtain ⟨_,_,_,q⟩:=hs
    exact False.elim q
  | cont =>
    obtain ⟨_,_,_,q⟩:=hs
    exact False.elim q
end L2
namespace L2
open PySem PySem.Spec PyProof.Rows
section
variable {X:Cx} {x:Str} {p pos:Pos} {e:Expr} {es:List Expr} {t:TA} {id T:String} {r:List V → Hp → VK → Prop}
noncomputable def tCB (r:List V → Hp → VK → Prop) (t:TA):TE:=fun σ H Q => t σ H fun vs H1 => r vs H1 Q
theorem pe_callB (hc:CallR X (.builtin id) r) (hg:Gl X x) (hm:X.mg x = none) (hv:bootBuiltins x = some (.builtin id)) (ha:PA X (e :: es) t) (hn:x ≠ "__name__":=by decide) (hdb:(x == ("__debug__":Str)) = false:=by decide)
    (he:starEach (e :: es) X.env = (false,eval e X.env) :: starEach es X.env:=by rfl) (hpl:(backTo pos (starEach es X.env)).any (·.1) = false:=by rfl):PE X (.Call (.Name x p) (e :: es) [] pos) (tCB r t):=by
  intro pins s σ H Q I h
  refine wpAny_Call_Name_kw (ld_blt I hg hm hv ?_ hn hdb)
  exact PyProof.Rows.callWith_builtin1 (thn (ha pos pins s σ H _ I h) fun us s1 ⟨vs,H1,I1,r1,q1⟩ => hc pins s1 σ H1 vs us Q I1 r1 q1) he hpl
theorem pe_callTy (hc:CallR X (.type T) r) (hg:Gl X x) (hm:X.mg x = none) (hv:bootBuiltins x = some (.type T)) (ha:PA X (e :: es) t) (hn:x ≠ "__name__":=by decide) (hdb:(x == ("__debug__":Str)) = false:=by decide)
    (he:starEach (e :: es) X.env = (false,eval e X.env) :: starEach es X.env:=by rfl) (hpl:(backTo pos (starEach es X.env)).any (·.1) = false:=by rfl):PE X (.Call (.Name x p) (e :: es) [] pos) (tCB r t):=by
  intro pins s σ H Q I h
  refine wpAny_Call_Name_kw (ld_blt I hg hm hv ?_ hn hdb)
  exact PyProof.Rows.callWith_type1 (thn (ha pos pins s σ H _ I h) fun us s1 ⟨vs,H1,I1,r1,q1⟩ => hc pins s1 σ H1 vs us Q I1 r1 q1) he hpl
end
end L2
namespace HT
open PySem PyProof.Rows
section
open PySem.SeqAt
open PySem.AutoSeq1 (wpAny_loadPart')
open PySem.MeetsSeq PySem.MeetsSeq2 PySem.MeetsSeq3
end
section
variable {prog:Program} {w:World} {A:Around} {E:Value → Shared → Prop} {s:Shared}
theorem cat_tup {t b:Addr} {vs ws:List Value} {Q:Value → Shared → Prop} (ht:IsTup s.heap t vs.toArray) (hb:IsTup s.heap b ws.toArray) (hv:vs ≠ [])
    (h1:ws = [] → Q (.ref t) s) (h2:ws ≠ [] → Q (.ref s.heap.objs.size) { s with heap:=s.heap.push { cls:=.type "tuple",data:=.seq (vs ++ ws).toArray } })
    (hsz:vs.length + ws.length ≤ sizeLine):wpAny (model prog w) A (binaryOp .Add (.ref t) (.ref b)) Q E s:=by
  obtain ⟨⟨cls,dd,data,sl⟩,ho,hc,n,hd⟩:=id ht
  obtain ⟨⟨cls2,dd2,data2,sl2⟩,ho2,hc2,n2,hd2⟩:=id hb
  simp only at hc hd hc2 hd2
  subst hc hd hc2 hd2
  have e:vs.toArray ++ ws.toArray = (vs ++ ws).toArray:=by simp
  by_cases hw:ws = []
  · exact concat_meets ⟨_,ho,rfl⟩ ⟨_,ho2,rfl⟩ noFill_tuple_add seq_tuple_add PySem.F.slot_tuple_add PySem.F.entry_tuple_add (PySem.F.args_tuple_add_2 _ _)
      (tuple_addW1 t b vs.toArray ws.toArray n n2 dd dd2 sl sl2 (by simpa using hv) (by simp [hw])) ⟨ho,ho2,h1 hw⟩
  · refine concat_meets ⟨_,ho,rfl⟩ ⟨_,ho2,rfl⟩ noFill_tuple_add seq_tuple_add PySem.F.slot_tuple_add PySem.F.entry_tuple_add (PySem.F.args_tuple_add_2 _ _)
      (tuple_addW2 t b vs.toArray ws.toArray n n2 dd dd2 sl sl2 (by simpa using hv) (by simpa using hw) (by rw [List.size_toArray,List.size_toArray]; exact hsz)) ⟨ho,ho2,?_⟩
    rw [e]
    exact h2 hw
noncomputable def sIx (n d:Nat):Option Int → Nat
  | none => d
  | some v => if v < 0 then (v + (n:Int)).toNat else min v.toNat n
theorem sIx_none (n d:Nat):sIx n d none = d:=rfl
theorem sIx_nat (n d k:Nat):sIx n d (some (k:Int)) = min k n:=by
  show (if (k:Int) < 0 then ((k:Int) + (n:Int)).toNat else min (k:Int).toNat n) = min k n
  rw [if_neg (by omega),Int.toNat_natCast]
theorem sIx_le (n d:Nat) (hd:d ≤ n) (o:Option Int):sIx n d o ≤ n:=by
  cases o with
  | none => exact hd
  | some v =>
    show (if v < 0 then (v + (n:Int)).toNat else min v.toNat n) ≤ n
    by_cases hv:v < 0
    · rw [if_pos hv]; omega
    · rw [if_neg hv]; exact Nat.min_le_right _ _
theorem clip_eq (v:Int) (n d:Nat):(if v < 0 then max (v + (n:Int)) 0 else min v (n:Int)) = ((sIx n d (some v):Nat):Int):=by
  show (if v < 0 then max (v + (n:Int)) 0 else min v (n:Int)) = (((if v < 0 then (v + (n:Int)).toNat else min v.toNat n):Nat):Int)
  by_cases hv:v < 0
  · simp only [if_pos hv]; omega
  · simp only [if_neg hv]; omega
theorem adjust_gen (lo hi:Option Int) (n:Nat):Builtin.Slice.sliceAdjust lo hi 1 (n:Int) = (((sIx n 0 lo:Nat):Int),((sIx n n hi:Nat):Int)):=by
  have h1:¬ ((1:Int) < 0):=by omega
  unfold Builtin.Slice.sliceAdjust
  simp only [h1,if_false]
  refine Prod.ext ?_ ?_
  · cases lo with
    | none => rfl
    | some v => exact clip_eq v n 0
  · cases hi with
    | none => rfl
    | some v => exact clip_eq v n n
theorem places_gen (i j:Nat):Builtin.Slice.slicePlaces (i:Int) (j:Int) 1 = j - i:=by
  unfold Builtin.Slice.slicePlaces
  have h1:(1:Int) > 0:=by omega
  simp only [h1,if_true,Int.ediv_one]
  split <;> omega
theorem slicePart_ {v:Value} {o:Option Int} {Q:Option Int → Shared → Prop} (p:IsPart v o) (h:Q o s):wpAny (model prog w) A (Builtin.Slice.slicePartIndex v) Q E s:=by
  cases p with
  | none => exact slicePart_none h
  | int i t => exact slicePart_int h
theorem sliceApplied_gen {sl:Addr} {vl vu:Value} {lo hi:Option Int} {n:Nat} {Q:Int × Int × Nat → Shared → Prop} (hs:s.heap.IsSliceOf sl vl vu .none) (pl:IsPart vl lo) (pu:IsPart vu hi)
    (h:Q (((sIx n 0 lo:Nat):Int),1,sIx n n hi - sIx n 0 lo) s):wpAny (model prog w) A (Builtin.Slice.sliceApplied (.ref sl) (pure (n:Int))) Q E s:=by
  obtain ⟨os,hos,hcs,hds⟩:=id hs
  unfold Builtin.Slice.sliceApplied Builtin.Slice.sliceFields
  refine wpAny_bind (wpAny_bind (wpAny_field hos hds (x:=vl) rfl (wpAny_bind (wpAny_field hos hds (x:=vu) rfl (wpAny_bind (wpAny_field hos hds (x:=.none) rfl (wpAny_pure ?_)))))))
  refine wpAny_bind (slicePart_none ?_)
  show wpAny _ _ (if ((1:Int) == 0) = true then _ else _) _ _ s
  rw [if_neg (by decide)]
  refine wpAny_bind (slicePart_ pl (wpAny_bind (slicePart_ pu (wpAny_bind (wpAny_pure ?_)))))
  show wpAny _ _ (match Builtin.Slice.sliceAdjust lo hi 1 (n:Int) with | (lo,hi) => pure (lo,(1:Int),Builtin.Slice.slicePlaces lo hi 1)) _ _ s
  rw [adjust_gen lo hi n]
  show wpAny _ _ (pure (((sIx n 0 lo:Nat):Int),(1:Int),Builtin.Slice.slicePlaces ((sIx n 0 lo:Nat):Int) ((sIx n n hi:Nat):Int) 1)) _ _ s
  rw [places_gen]
  exact wpAny_pure h
theorem pick_gen (xs:Array Value) (i k:Nat):((List.range k).filterMap fun (m:Nat) => xs[((i:Int) + (m:Int) * 1).toNat]?).toArray = ((xs.toList.drop i).take k).toArray:=by
  have e:(fun (m:Nat) => xs[((i:Int) + (m:Int) * 1).toNat]?) = fun m => xs[i + m]?:=by
    funext m
    have:((i:Int) + (m:Int) * 1).toNat = i + m:=by omega
    rw [this]
  rw [e]
  have:=pick_run xs i k
  rw [List.filterMap_map] at this
  have e2:((fun x => xs[x]?) ∘ fun x => i + x) = fun m => xs[i + m]?:=rfl
  rw [e2] at this
  rw [this]
theorem getItem_tuple_cut {t sl:Addr} {items:Array Value} {vl vu:Value} {lo hi:Option Int} {Q:Value → Shared → Prop} (ht:IsTup s.heap t items) (hs:s.heap.IsSliceOf sl vl vu .none) (pl:IsPart vl lo) (pu:IsPart vu hi)
    (hw:¬ (sIx items.size 0 lo = 0 ∧ sIx items.size items.size hi = items.size))
    (h:Q (.ref s.heap.objs.size) { s with heap:=s.heap.push { cls:=.type "tuple",data:=.seq ((items.toList.drop (sIx items.size 0 lo)).take (sIx items.size items.size hi - sIx items.size 0 lo)).toArray } })
    (hsz:items.size ≤ sizeLine):wpAny (model prog w) A (getItem (.ref t) (.ref sl)) Q E s:=by
  have htake:sizeOk (.seq ((items.toList.drop (sIx items.size 0 lo)).take (sIx items.size items.size hi - sIx items.size 0 lo)).toArray):=by
    show ((items.toList.drop (sIx items.size 0 lo)).take (sIx items.size items.size hi - sIx items.size 0 lo)).toArray.size ≤ sizeLine
    rw [List.size_toArray,List.length_take,List.length_drop,Array.length_toList]
    omega
  have hj:sIx items.size items.size hi ≤ items.size:=sIx_le _ _ (Nat.le_refl _) hi
  obtain ⟨os,hos,hcs,hds⟩:=id hs
  have hTs:s.TypeIs (.ref sl) "slice":=⟨os,hos,hcs⟩
  unfold getItem
  try with_reducible refine wpAny_holding ?_
  first | refine wpAny_bind (wpAny_pure ?_) | skip
  refine wpAny_bind (wpAny_sequenceKey ht.typeIs (by decide) ?_)
  refine wpAny_bind (wpAny_callSpecial?_slot (name:=Str.ofString "__getitem__") ht.typeIs PyProof.Rows.slot_tuple_getitem
    (wpAny_call_entry PyProof.Rows.slot_tuple_getitem ht.typeIs entry_tuple_getitem ?_ (args_tuple_getitem _ _)))
  show wpAny _ _ (Builtin.Tuple.tupleItemsOf (.ref t) >>= _) _ _ s
  refine wpAny_bind (tupleItemsOf_ ht ?_)
  refine wpAny_bind (wpAny_typeOf hTs ?_)
  rw [if_pos (by decide)]
  refine wpAny_bind (sliceApplied_gen hs pl pu ?_)
  have hno:¬ ((((sIx items.size 0 lo:Nat):Int) == 0 && (1:Int) == 1 && (sIx items.size items.size hi - sIx items.size 0 lo) == items.size) = true):=by
    intro q
    rw [Bool.and_eq_true,Bool.and_eq_true] at q
    have q1:((sIx items.size 0 lo:Nat):Int) = 0:=eq_of_beq q.1.1
    have q2:sIx items.size items.size hi - sIx items.size 0 lo = items.size:=eq_of_beq q.2
    exact hw ⟨by omega,by omega⟩
  show wpAny _ _ (if (((sIx items.size 0 lo:Nat):Int) == 0 && (1:Int) == 1 && (sIx items.size items.size hi - sIx items.size 0 lo) == items.size) = true then _ else _) _ _ s
  rw [if_neg hno,pick_gen]
  first
    | exact wpAny_bind (m:=Builtin.Tuple.tupleExact _) (wpAny_newObj_type (wpAny_pure ⟨_,rfl,wpAny_pure h⟩) htake)
    | exact wpAny_bind (m:=Builtin.Tuple.tupleExact _) (wpAny_newObj_type (wpAny_bind (wpAny_pure (wpAny_pure ⟨_,rfl,wpAny_pure h⟩))) htake)
    | exact wpAny_bind (wpAny_bind (m:=Builtin.Tuple.tupleExact _) (wpAny_newObj_type (wpAny_pure (wpAny_pure ⟨_,rfl,wpAny_pure h⟩)) htake))
    | exact wpAny_bind (wpAny_bind (m:=Builtin.Tuple.tupleExact _) (wpAny_newObj_type (wpAny_pure ⟨_,rfl,wpAny_pure h⟩) htake))
end
end HT
namespace L2
open PySem PySem.Spec PyProof.Rows
noncomputable abbrev TO:=St → Hp → (Option Int → Hp → Prop) → Prop
noncomputable def PO (X:Cx) (e:Option Expr) (t:TO):Prop :=
  ∀ (pins:List (Addr × Obj)) (s:Shared) (σ:St) (H:Hp) (Q:Option Int → Hp → Prop),Inv X pins σ H s → t σ H Q →
    wpAny (model X.prog X.w) X.A (evalPart e X.env) (fun u s' => ∃ o H',Inv X pins σ H' s' ∧ IsPart u o ∧ Q o H') X.xe s
noncomputable def tNoPart:TO:=fun _ H Q => Q none H
noncomputable def tPart (t:TE):TO:=fun σ H Q => t σ H fun x H1 => ∃ i,x = .int i ∧ Q (some i) H1
section
variable {X:Cx} {e:Expr} {te:TE} {lo hi:Option Expr} {tl th:TO} {pos p2:Pos}
theorem po_none:PO X none tNoPart:=by
  intro pins s σ H Q I h
  rw [evalPart_none]
  exact wpAny_pure ⟨none,H,I,.none,h⟩
theorem po_some (h:PE X e te):PO X (some e) (tPart te):=by
  intro pins s σ H Q I hw
  rw [evalPart_some]
  refine thn (h pins s σ H _ I hw) fun u s1 ⟨x,H1,I1,r1,q1⟩ => ?_
  obtain ⟨i,rfl,q⟩:=q1
  obtain ⟨t,rfl⟩:=r1
  exact ⟨some i,H1,I1,.int i t,q⟩
noncomputable def SlR (X:Cx) (r:V → Option Int → Option Int → Hp → VK → Prop):Prop :=
  ∀ (pins:List (Addr × Obj)) (s:Shared) (σ:St) (H:Hp) (x:V) (v vl vu:Value) (lo hi:Option Int) (sl:Addr) (Q:VK),Inv X pins σ H s → RelV x v → s.heap.IsSliceOf sl vl vu .none → IsPart vl lo → IsPart vu hi → r x lo hi H Q →
    ∃ T id,typeLookup (.type T) "__getitem__" = pure (some (.builtin id)) ∧ s.TypeIs v T ∧ wpAny (model X.prog X.w) X.A (getItem v (.ref sl)) (EP X pins σ Q) X.xe s
noncomputable def tSl (r:V → Option Int → Option Int → Hp → VK → Prop) (te:TE) (tl th:TO):TE:=fun σ H Q => te σ H fun x H1 => tl σ H1 fun l H2 => th σ H2 fun u H3 => r x l u H3 Q
theorem pe_slice {r:V → Option Int → Option Int → Hp → VK → Prop} (hr:SlR X r) (he:PE X e te) (hl:PO X lo tl) (hu:PO X hi th):PE X (.Subscript e (.Slice lo hi none p2) pos) (tSl r te tl th):=by
  intro pins s σ H Q I h
  refine Subscript_ (thn (he pins s σ H _ I h) fun v s1 ⟨x,H1,I1,r1,q1⟩ => ?_)
  refine wpAny_Slice (thn (hl pins s1 σ H1 _ I1 q1) fun vl s2 ⟨l,H2,I2,pl,q2⟩ => thn (hu pins s2 σ H2 _ I2 q2) fun vu s3 ⟨u,H3,I3,pu,q3⟩ => ?_)
  rw [evalPart_none]
  refine wpAny_pure ?_
  have I4:Inv X pins σ H3 { s3 with heap:=s3.heap.push { cls:=.type "slice",data:=.fields #[vl,vu,.none] } }:=I3.kept (t':=s3.toks) fun b ob q => Heap.get?_push_of_some _ q
  obtain ⟨T,id,hT,ht,hg⟩:=hr pins { s3 with heap:=s3.heap.push { cls:=.type "slice",data:=.fields #[vl,vu,.none] } } σ H3 x v vl vu l u s3.heap.objs.size Q I4 r1 (Heap.IsSliceOf.new ..) pl pu q3
  show wpAny (model X.prog X.w) X.A (subscriptTail e (.Slice lo hi none p2) v (.ref s3.heap.objs.size)) (EP X pins σ Q) X.xe { s3 with heap:=s3.heap.push { cls:=.type "slice",data:=.fields #[vl,vu,.none] } }
  exact tail_any (ops:=[.ref s3.heap.objs.size,v]) ht hT hg (by with_unfolding_all rfl)
noncomputable def cutV (xs:List V) (lo hi:Option Int):List V:=(xs.drop (HT.sIx xs.length 0 lo)).take (HT.sIx xs.length xs.length hi - HT.sIx xs.length 0 lo)
theorem cutV_length (xs:List V) (lo hi:Option Int):(cutV xs lo hi).length ≤ xs.length:=by
  unfold cutV
  rw [List.length_take,List.length_drop]
  omega
noncomputable def rSlT (K:PySem.W.Frag):V → Option Int → Option Int → Hp → VK → Prop:=fun x lo hi H Q => ∃ a xs,x = .ref a ∧ SqT K H a xs ∧
  ¬ (HT.sIx xs.length 0 lo = 0 ∧ HT.sIx xs.length xs.length hi = xs.length) ∧ ∀ p,H p = none → Q (.ref p) (upd H p (.tup (cutV xs lo hi)))
theorem sl_tup:SlR X (rSlT X.K):=by
  intro pins s σ H x v vl vu lo hi sl Q I rx hs pl pu h
  obtain ⟨a,xs,rfl,hx,hw,q⟩:=h
  cases rx
  obtain ⟨its,r,ht,hz⟩:=I.tuple hx
  have hlen:its.toArray.size = xs.length:=by rw [List.size_toArray]; exact r.length.symm
  refine ⟨"tuple",_,PyProof.Rows.slot_tuple_getitem.lookup,ht.typeIs,?_⟩
  refine HT.getItem_tuple_cut ht hs pl pu (by rw [hlen]; exact hw) ?_ (by rw [hlen]; exact hz)
  rw [hlen]
  refine ⟨.ref s.heap.objs.size,_,I.laid (t':=s.toks) (o:=.tup (cutV xs lo hi)) (fun b ob q => Heap.get?_push_of_some _ q) (Nat.le_refl _) ?_,rfl,q _ (I.hok.fresh (Nat.le_refl _))⟩
  exact ⟨Nat.le_trans (cutV_length xs lo hi) hz,_,(r.drop (HT.sIx xs.length 0 lo)).take (HT.sIx xs.length xs.length hi - HT.sIx xs.length 0 lo),IsTup.new _ _⟩
noncomputable def rCatT (K:PySem.W.Frag):R2:=fun x y H Q => ∃ a b xs ys,x = .ref a ∧ y = .ref b ∧ SqT K H a xs ∧ SqT K H b ys ∧ xs ≠ [] ∧ xs.length + ys.length ≤ sizeLine ∧
  (ys = [] → Q (.ref a) H) ∧ (ys ≠ [] → ∀ p,H p = none → Q (.ref p) (upd H p (.tup (xs ++ ys))))
theorem Vals.nil_iff {xs:List V} {us:List Value} (r:Vals xs us):us = [] ↔ xs = []:=by
  cases r with
  | nil => simp
  | cons _ _ => simp
theorem op_catT:OpR X (binaryOp .Add) (rCatT X.K):=by
  intro pins s σ H x y v u Q I rx ry h
  obtain ⟨a,b,xs,ys,rfl,rfl,ha,hb,hx,hz,q1,q2⟩:=h
  cases rx
  cases ry
  obtain ⟨its,r1,p1,_⟩:=I.tuple ha
  obtain ⟨its2,r2,p2,_⟩:=I.tuple hb
  refine HT.cat_tup p1 p2 (fun z => hx (r1.nil_iff.mp z)) (fun z => ⟨.ref a,H,I,rfl,q1 (r2.nil_iff.mp z)⟩) (fun z => ?_) (by rw [← r1.length,← r2.length]; exact hz)
  refine ⟨.ref s.heap.objs.size,_,I.laid (t':=s.toks) (o:=.tup (xs ++ ys)) (fun b ob q => Heap.get?_push_of_some _ q) (Nat.le_refl _) ?_,rfl,q2 (fun w => z (r2.nil_iff.mpr w)) _ (I.hok.fresh (Nat.le_refl _))⟩
  exact ⟨by rw [List.length_append]; exact hz,_,r1.append r2,IsTup.new _ _⟩
end
end L2
namespace L2
open PySem PySem.Spec PyProof.Rows
noncomputable def ixN (n:Nat) (i:Int):Option Nat:=if 0 ≤ i then (if i < n then some i.toNat else none) else if -(n:Int) ≤ i then some (i + n).toNat else none
noncomputable def atI {α:Type} (xs:List α) (i:Int):Option α:=(ixN xs.length i).bind fun j => xs[j]?
theorem ixN_seq {n:Nat} {i:Int} {j:Nat} (h:ixN n i = some j):seqIndex? i n = some j ∧ j < n ∧ -(n:Int) ≤ i ∧ i < n:=by
  unfold ixN at h
  by_cases h0:0 ≤ i
  · rw [if_pos h0] at h
    by_cases h1:i < n
    · rw [if_pos h1] at h
      have e:i.toNat = j:=Option.some.inj h
      exact ⟨by rw [seqIndex_of h0 h1,e],by omega,by omega,h1⟩
    · rw [if_neg h1] at h; cases h
  · rw [if_neg h0] at h
    by_cases h1:-(n:Int) ≤ i
    · rw [if_pos h1] at h
      have e:(i + n).toNat = j:=Option.some.inj h
      exact ⟨by rw [seqIndex_neg (by omega) h1,e],by omega,h1,by omega⟩
    · rw [if_neg h1] at h; cases h
theorem atI_get {α:Type} {xs:List α} {i:Int} {v:α} (h:atI xs i = some v):∃ j,seqIndex? i xs.length = some j ∧ xs[j]? = some v ∧ j < xs.length ∧ -(xs.length:Int) ≤ i ∧ i < xs.length:=by
  unfold atI at h
  cases e:ixN xs.length i with
  | none => rw [e] at h; cases h
  | some j =>
    rw [e] at h
    obtain ⟨h1,h2,h3,h4⟩:=ixN_seq e
    exact ⟨j,h1,h,h2,h3,h4⟩
theorem atI_nat {α:Type} {xs:List α} {j:Nat} {v:α} (h:xs[j]? = some v):atI xs (j:Int) = some v:=by
  have hj:j < xs.length:=(List.getElem?_eq_some_iff.mp h).1
  have e:ixN xs.length (j:Int) = some j:=by
    unfold ixN
    rw [if_pos (by omega),if_pos (by omega)]; simp
  unfold atI; rw [e]; exact h
theorem atI_last {α:Type} (xs:List α) (v:α):atI (xs ++ [v]) (-1) = some v:=by
  have hl:(xs ++ [v]).length = xs.length + 1:=by simp
  have e:ixN (xs ++ [v]).length (-1) = some xs.length:=by
    unfold ixN
    rw [hl,if_neg (by decide),if_pos (by omega)]
    congr 1
    omega
  unfold atI
  rw [e]
  show (xs ++ [v])[xs.length]? = some v
  simp
noncomputable def PlainIx (b:Expr):Prop:=∀ o i,subscripted b false o i = operate [o,i] (getItem o i)
noncomputable def IxR (X:Cx) (r:R2):Prop :=
  ∀ (value slice:Expr) (pins:List (Addr × Obj)) (s:Shared) (σ:St) (H:Hp) (x y:V) (v u:Value) (Q:VK),Inv X pins σ H s → RelV x v → RelV y u → r x y H Q →
    subscripted slice false v u = operate [v,u] (getItem v u) → wpAny (model X.prog X.w) X.A (subscriptTail value slice v u) (EP X pins σ Q) X.xe s
noncomputable def MtR (X:Cx) (id:String) (r:V → List V → Hp → VK → Prop):Prop :=
  ∀ (pins:List (Addr × Obj)) (s:Shared) (σ:St) (H:Hp) (x:V) (xs:List V) (v:Value) (us:List Value) (Q:VK),Inv X pins σ H s → RelV x v → Vals xs us → r x xs H Q →
    wpAny (model X.prog X.w) X.A (call (.builtin id) (v :: us)) (EP X pins σ Q) X.xe s
section
variable {X:Cx} {a b:Expr} {ta tb:TE} {pos:Pos}
theorem pe_ix {r:R2} (hr:IxR X r) (ha:PE X a ta) (hb:PE X b tb) (hs:PlainIx b):PE X (.Subscript a b pos) (tOp r ta tb):=by
  intro pins s σ H Q I h
  exact Subscript_ (binT ha hb I h fun v u s2 x y H2 I2 rx ry q => hr a b pins s2 σ H2 x y v u Q I2 rx ry q (hs _ _))
noncomputable def rIxL (K:PySem.W.Frag):R2:=fun x y H Q => ∃ p xs i v,x = .ref p ∧ y = .int i ∧ SqL K H p xs ∧ atI xs i = some v ∧ Q v H
noncomputable def rIxT (K:PySem.W.Frag):R2:=fun x y H Q => ∃ p xs i v,x = .ref p ∧ y = .int i ∧ SqT K H p xs ∧ atI xs i = some v ∧ Q v H
noncomputable def rIxS:R2:=fun x y H Q => ∃ z i c,x = .str z ∧ y = .int i ∧ z.length ≤ sizeLine ∧ atI z.cps.toList i = some c ∧ Q (.str ⟨#[c]⟩) H
theorem ix_list:IxR X (rIxL X.K):=by
  intro value slice pins s σ H x y v u Q I rx ry h hs
  obtain ⟨p,xs,i,z,rfl,rfl,hq,he,q⟩:=h
  cases rx
  obtain ⟨t,rfl⟩:=ry
  obtain ⟨its,r,pl,hz⟩:=I.list hq
  obtain ⟨j,h1,h2,h3,h4,h5⟩:=atI_get he
  obtain ⟨w,ew,rw'⟩:=r.get h2
  have hl:=r.length
  have hn:=line63
  have fin:EP X pins σ Q w s:=⟨z,H,I,rw',q⟩
  by_cases h0:0 ≤ i
  · have hj:i.toNat = j:=by
      rw [seqIndex_of h0 h5] at h1
      exact Option.some.inj h1
    exact item_listR pl.isList h0 (by omega) (by rw [hj]; simpa using ew) fin hs
  · have hj:(i + (its.toArray.size:Int)).toNat = j:=by
      rw [seqIndex_neg (by omega) h4] at h1
      rw [List.size_toArray,← hl]
      exact Option.some.inj h1
    exact subscriptTail_builtinR (x:=w) pl.isList.typeIs slot_list_getitem.lookup
      (wpAny_getItem_list_neg (Q:=fun r s' => r = w ∧ EP X pins σ Q r s') pl.isList (by omega) (by rw [List.size_toArray] <;> omega) (by omega) (by rw [hj]; simpa using ew) ⟨rfl,fin⟩) hs
theorem ix_tup:IxR X (rIxT X.K):=by
  intro value slice pins s σ H x y v u Q I rx ry h hs
  obtain ⟨p,xs,i,z,rfl,rfl,hq,he,q⟩:=h
  cases rx
  obtain ⟨t,rfl⟩:=ry
  obtain ⟨its,r,pl,hz⟩:=I.tuple hq
  obtain ⟨j,h1,h2,h3,h4,h5⟩:=atI_get he
  obtain ⟨w,ew,rw'⟩:=r.get h2
  have hl:=r.length
  have hn:=line63
  have fin:EP X pins σ Q w s:=⟨z,H,I,rw',q⟩
  exact subscriptTail_builtinR (x:=w) pl.typeIs slot_tuple_getitem.lookup
    (getItem_tuple (j:=j) (Q:=fun r s' => r = w ∧ EP X pins σ Q r s') pl (by omega) (by omega) (by rw [List.size_toArray,← hl]; exact h1) (by simpa using ew) ⟨rfl,fin⟩) hs
theorem ix_str:IxR X rIxS:=by
  intro value slice pins s σ H x y v u Q I rx ry h hs
  obtain ⟨z,i,c,rfl,rfl,hz,he,q⟩:=h
  obtain ⟨t,rfl⟩:=rx
  obtain ⟨t',rfl⟩:=ry
  obtain ⟨j,h1,h2,h3,h4,h5⟩:=atI_get he
  have hl:z.cps.toList.length = z.length:=by simp [Str.length]
  rw [hl] at h1 h4 h5
  have hn:=line63
  exact tail_any (typeIs_str s z t) slot_str_getitem.lookup (getItem_str (c:=c) (by
    have e1:decide (i < -(2 ^ 63:Int)) = false:=decide_eq_false (by omega)
    have e2:decide (i ≥ 2 ^ 63) = false:=decide_eq_false (by omega)
    rw [e1,e2,Bool.or_false]) (by rw [h1]; simpa using h2) ⟨.str ⟨#[c]⟩,H,I.tok _,⟨_,rfl⟩,q⟩) hs
theorem slice_bounds (lo hi:Option Int) (n:Nat):(sliceBounds lo hi none n).1 = ((HT.sIx n 0 lo:Nat):Int) ∧ (sliceBounds lo hi none n).2.1 = ((HT.sIx n n hi:Nat):Int) ∧ (sliceBounds lo hi none n).2.2 = 1:=by
  refine ⟨?_,?_,rfl⟩
  · cases lo with
    | none => simp [sliceBounds,HT.sIx]
    | some i =>
      simp only [sliceBounds,HT.sIx,Option.getD_none,show (1:Int) > 0 by decide,if_true]
      by_cases h:i < 0
      · simp only [h,if_true] <;> omega
      · simp only [h,if_false] <;> omega
  · cases hi with
    | none => simp [sliceBounds,HT.sIx]
    | some i =>
      simp only [sliceBounds,HT.sIx,Option.getD_none,show (1:Int) > 0 by decide,if_true]
      by_cases h:i < 0
      · simp only [h,if_true] <;> omega
      · simp only [h,if_false] <;> omega
theorem slicePick_cut (its:List Value) (lo hi:Option Int):slicePick its.toArray lo hi none = ((its.drop (HT.sIx its.length 0 lo)).take (HT.sIx its.length its.length hi - HT.sIx its.length 0 lo)).toArray:=by
  obtain ⟨h1,h2,h3⟩:=slice_bounds lo hi its.toArray.size
  unfold slicePick
  rw [h1,h2,h3]
  simp only [sliceRange_one,pick_run,List.size_toArray] <;> rfl
noncomputable def rSlL (K:PySem.W.Frag):V → Option Int → Option Int → Hp → VK → Prop:=fun x lo hi H Q => ∃ a xs,x = .ref a ∧ SqL K H a xs ∧ ∀ p,H p = none → Q (.ref p) (upd H p (.lst (cutV xs lo hi)))
theorem sl_list:SlR X (rSlL X.K):=by
  intro pins s σ H x v vl vu lo hi sl Q I rx hs pl pu h
  obtain ⟨a,xs,rfl,hx,q⟩:=h
  cases rx
  obtain ⟨its,r,ht,hz⟩:=I.list hx
  have hlen:=r.length
  refine ⟨"list",_,slot_list_getitem.lookup,ht.isList.typeIs,?_⟩
  refine wpAny_getItem_list_slice ht.isList hs pl pu .none (by simp) ?_ (by rw [List.size_toArray] <;> omega)
  rw [slicePick_cut,← hlen]
  refine ⟨.ref s.heap.objs.size,_,I.laid (t':=s.toks) (o:=.lst (cutV xs lo hi)) (fun b ob q => Heap.get?_push_of_some _ q) (Nat.le_refl _) ?_,rfl,q _ (I.hok.fresh (Nat.le_refl _))⟩
  exact ⟨Nat.le_trans (cutV_length xs lo hi) hz,_,0,(r.drop (HT.sIx xs.length 0 lo)).take (HT.sIx xs.length xs.length hi - HT.sIx xs.length 0 lo),Heap.get?_push_size _ rfl⟩
noncomputable def flatV:V → Bool
  | .non => true
  | .bl _ => true
  | .int _ => true
  | .str _ => true
  | _ => false
noncomputable def eqV:V → V → Bool
  | .non,.non => true
  | .bl a,.bl b => a == b
  | .bl a,.int b => (if a then 1 else 0) == b
  | .int a,.bl b => a == (if b then 1 else 0)
  | .int a,.int b => a == b
  | .str a,.str b => a == b
  | _,_ => false
theorem eqAt_V {A:Around} {s:Shared} {y x:V} {u v:Value} (ry:RelV y u) (rx:RelV x v) (fy:flatV y = true) (fx:flatV x = true):SeqAt.EqAt A s u v (eqV y x):=by
  cases y with
  | non =>
    cases ry
    cases x with
    | non => cases rx; exact SeqAt.EqAt.same _
    | bl b => cases rx; exact SeqAt.EqAt.none_bool b
    | int b => obtain ⟨t,rfl⟩:=rx; exact SeqAt.EqAt.none_int b t
    | str b => obtain ⟨t,rfl⟩:=rx; exact SeqAt.EqAt.none_str b t
    | _ => exact absurd (show false = true from fx) Bool.false_ne_true
  | bl a =>
    cases ry
    cases x with
    | non => cases rx; exact SeqAt.EqAt.bool_none a
    | bl b => cases rx; exact SeqAt.EqAt.bool_bool a b
    | int b => obtain ⟨t,rfl⟩:=rx; exact SeqAt.EqAt.bool_int a b t
    | str b => obtain ⟨t,rfl⟩:=rx; exact SeqAt.EqAt.bool_str a b t
    | _ => exact absurd (show false = true from fx) Bool.false_ne_true
  | int a =>
    obtain ⟨t',rfl⟩:=ry
    cases x with
    | non => cases rx; exact SeqAt.EqAt.int_none a t'
    | bl b => cases rx; exact SeqAt.EqAt.int_bool a t' b
    | int b => obtain ⟨t,rfl⟩:=rx; exact SeqAt.EqAt.int_int a t' b t
    | str b => obtain ⟨t,rfl⟩:=rx; exact SeqAt.EqAt.int_str a t' b t
    | _ => exact absurd (show false = true from fx) Bool.false_ne_true
  | str a =>
    obtain ⟨t',rfl⟩:=ry
    cases x with
    | non => cases rx; exact SeqAt.EqAt.str_none a t'
    | bl b => cases rx; exact SeqAt.EqAt.str_bool a t' b
    | int b => obtain ⟨t,rfl⟩:=rx; exact SeqAt.EqAt.str_int a t' b t
    | str b => obtain ⟨t,rfl⟩:=rx; exact SeqAt.EqAt.str_str a t' b t
    | _ => exact absurd (show false = true from fx) Bool.false_ne_true
  | _ => exact absurd (show false = true from fy) Bool.false_ne_true
noncomputable def eqU (x:V) (u:Value):Bool:=match u with
  | .none => eqV .non x
  | .bool b => eqV (.bl b) x
  | .int i _ => eqV (.int i) x
  | .str z _ => eqV (.str z) x
  | _ => false
theorem eqU_of {x y:V} {u:Value} (r:RelV y u) (f:flatV y = true):eqU x u = eqV y x:=by
  cases y with
  | non => cases r; rfl
  | bl b => cases r; rfl
  | int i => obtain ⟨t,rfl⟩:=r; rfl
  | str z => obtain ⟨t,rfl⟩:=r; rfl
  | _ => exact absurd (show false = true from f) Bool.false_ne_true
theorem any_eqU {x:V}:∀ {xs:List V} {us:List Value},Vals xs us → xs.all flatV = true → us.any (eqU x) = xs.any fun y => eqV y x
  | _,_,.nil,_ => rfl
  | y :: xs,u :: us,.cons r t,f => by
    rw [List.all_cons,Bool.and_eq_true] at f
    rw [List.any_cons,List.any_cons,eqU_of r f.1,any_eqU t f.2]
theorem mem_eqAt {A:Around} {s:Shared} {x:V} {v:Value} (rx:RelV x v) (fx:flatV x = true):∀ {xs:List V} {us:List Value},Vals xs us → xs.all flatV = true → ∀ u ∈ us,SeqAt.EqAt A s u v (eqU x u)
  | _,_,.nil,_ => fun u hu => by cases hu
  | y :: xs,u :: us,.cons r t,f => fun u' hu => by
    rw [List.all_cons,Bool.and_eq_true] at f
    rcases List.mem_cons.mp hu with rfl | hu
    · rw [eqU_of r f.1]; exact eqAt_V r rx f.1 fx
    · exact mem_eqAt rx fx t f.2 u' hu
noncomputable def inV (x:V) (xs:List V):Bool:=xs.any fun y => eqV y x
noncomputable def rIn (K:PySem.W.Frag) (neg:Bool):R2:=fun x y H Q => ∃ p xs,y = .ref p ∧ (SqL K H p xs ∨ SqT K H p xs) ∧ flatV x = true ∧ xs.all flatV = true ∧ Q (.bl (if neg then !inV x xs else inV x xs)) H
theorem op_in_seq:OpR X (compareOp .In) (rIn X.K false):=by
  intro pins s σ H x y v u Q I rx ry h
  obtain ⟨p,xs,rfl,hq,fx,fs,q⟩:=h
  cases ry
  rcases hq with hq | hq
  · obtain ⟨its,r,pl,hz⟩:=I.list hq
    refine SeqAt.in_listAt (eqU x) pl.isList (fun w hw => mem_eqAt rx fx r fs w (by simpa using hw)) ⟨.bl _,H,I,rfl,?_⟩
    rw [show its.toArray.any (eqU x) = its.any (eqU x) by simp,any_eqU r fs]
    exact q
  · obtain ⟨its,r,pl,hz⟩:=I.tuple hq
    refine SeqAt.in_tupleAt (eqU x) pl (fun w hw => mem_eqAt rx fx r fs w (by simpa using hw)) ⟨.bl _,H,I,rfl,?_⟩
    rw [show its.toArray.any (eqU x) = its.any (eqU x) by simp,any_eqU r fs]
    exact q
theorem call_len_seq:CallR X (.builtin "len") (fun xs H Q => ∃ p ys,xs = [.ref p] ∧ (SqL X.K H p ys ∨ SqT X.K H p ys) ∧ Q (.int ys.length) H):=by
  intro pins s σ H xs us Q I r h
  obtain ⟨p,ys,rfl,hq,q⟩:=h
  obtain ⟨u,rfl,rx⟩:=vals1 r
  cases rx
  have hn:=line63
  rcases hq with hq | hq
  · obtain ⟨its,r',pl,hz⟩:=I.list hq
    have hlen:=r'.length
    exact Calls.call_len_list pl.isList (by simp only [List.size_toArray] <;> omega) ⟨.int ys.length,H,I.tok _,⟨s.toks + 1,by rw [List.size_toArray,hlen]⟩,q⟩
  · obtain ⟨its,r',pl,hz⟩:=I.tuple hq
    have hlen:=r'.length
    exact len_tuple pl (by simp only [List.size_toArray] <;> omega) ⟨.int ys.length,H,I.tok _,⟨s.toks + 1,by rw [List.size_toArray,hlen]⟩,q⟩
theorem call_list_of:CallR X (.type "list") (fun xs H Q => ∃ p ys,xs = [.ref p] ∧ (SqL X.K H p ys ∨ SqT X.K H p ys) ∧ ∀ l,H l = none → Q (.ref l) (upd H l (.lst ys))):=by
  intro pins s σ H xs us Q I r h
  obtain ⟨p,ys,rfl,hq,q⟩:=h
  obtain ⟨u,rfl,rx⟩:=vals1 r
  cases rx
  have fin:∀ (its:List Value),Vals ys its → ys.length ≤ sizeLine → ∀ (h':Heap) (c':Nat),(∀ b o',s.heap.get? b = some o' → h'.get? b = some o') →
      h'.get? s.heap.objs.size = some { cls:=.type "list",dict:=none,data:=.seq its.toArray c',slots:=#[] } → EP X pins σ Q (.ref s.heap.objs.size) { s with heap:=h' }:=fun its r' hz h' c' kp e =>
    ⟨.ref s.heap.objs.size,_,I.laid (t':=s.toks) kp (Nat.le_refl _) (show ObjOk X.prog X.w _ h' _ (.lst ys) from ⟨hz,its,c',r',e⟩),rfl,q _ (I.hok.fresh (Nat.le_refl _))⟩
  rcases hq with hq | hq
  · obtain ⟨its,r',pl,hz⟩:=I.list hq
    have hlen:=r'.length
    obtain ⟨o,ho,hc,n,hd⟩:=pl.isList
    exact call_list_seq p (.inl rfl) ho hc hd (fun h' c' kp e => fin its r' hz h' c' kp e) (by simp only [List.size_toArray] <;> omega)
  · obtain ⟨its,r',pl,hz⟩:=I.tuple hq
    have hlen:=r'.length
    obtain ⟨o,ho,hc,n,hd⟩:=pl
    exact call_list_seq p (.inr rfl) ho hc hd (fun h' c' kp e => fin its r' hz h' c' kp e) (by simp only [List.size_toArray] <;> omega)
theorem call_tuple_of:CallR X (.type "tuple") (fun xs H Q => ∃ p ys,xs = [.ref p] ∧ ((SqL X.K H p ys ∧ ∀ l,H l = none → Q (.ref l) (upd H l (.tup ys))) ∨ (SqT X.K H p ys ∧ Q (.ref p) H))):=by
  intro pins s σ H xs us Q I r h
  obtain ⟨p,ys,rfl,h⟩:=h
  obtain ⟨u,rfl,rx⟩:=vals1 r
  cases rx
  rcases h with ⟨hq,q⟩ | ⟨hq,q⟩
  · obtain ⟨its,r',pl,hz⟩:=I.list hq
    have hlen:=r'.length
    refine call_tuple_list pl.isList (fun h' kp => ?_) (by simp only [List.size_toArray] <;> omega)
    have I1:Inv X pins σ H { s with heap:=h' }:=I.kept (t':=s.toks) kp
    have I2:Inv X pins σ (upd H h'.objs.size (.tup ys)) { s with heap:=h'.push { cls:=.type "tuple",data:=.seq its.toArray } } :=
      I1.laid (t':=s.toks) (fun b o e => Heap.get?_push_of_some _ e) (Nat.le_refl _) (show ObjOk X.prog X.w _ _ _ (.tup ys) from ⟨hz,its,r',IsTup.new _ _⟩)
    exact ⟨.ref h'.objs.size,_,I2,rfl,q _ (I1.hok.fresh (Nat.le_refl _))⟩
  · obtain ⟨its,r',pl,hz⟩:=I.tuple hq
    exact call_tuple_same pl ⟨.ref p,H,I,rfl,q⟩
noncomputable def tyV (K:PySem.W.Frag) (T:String) (x:V) (H:Hp):Prop:=match x with
  | .str _ => T = "str"
  | .int _ => T = "int"
  | .ref p => (T = "list" ∧ ∃ xs,SqL K H p xs) ∨ (T = "tuple" ∧ ∃ o,K.lookup p = some o ∧ o.cls = .type "tuple" ∧ o.dict = none) ∨
      (T = "dict" ∧ ((∃ kvs,H p = some (.dK kvs)) ∨ ∃ kvs,H p = some (.dT kvs))) ∨ (T = "set" ∧ ∃ S n,H p = some (.set S n))
  | _ => False
theorem tyV_is {pins:List (Addr × Obj)} {σ:St} {H:Hp} {s:Shared} {T:String} {x:V} {v:Value} (I:Inv X pins σ H s) (r:RelV x v) (ty:tyV X.K T x H) :
    s.TypeIs v T ∧ ∀ a,v = .ref a → ∃ ob,s.heap.get? a = some ob ∧ ob.dict = none:=by
  cases x with
  | str z =>
    obtain ⟨t,rfl⟩:=r
    cases (show T = "str" from ty)
    exact ⟨typeIs_str s z t,fun _ e => nomatch e⟩
  | int i =>
    obtain ⟨t,rfl⟩:=r
    cases (show T = "int" from ty)
    exact ⟨typeIs_int s i t,fun _ e => nomatch e⟩
  | ref p =>
    cases r
    rcases ty with ⟨rfl,xs,hq⟩ | ⟨rfl,o,hk,hc,hd⟩ | ⟨rfl,hk⟩ | ⟨rfl,S,n,hk⟩
    · obtain ⟨its,_,pl,_⟩:=I.list hq
      refine ⟨pl.isList.typeIs,fun a e => ?_⟩
      cases e
      obtain ⟨o,n,e,c,hd,_⟩:=pl
      exact ⟨o,e,hd⟩
    · refine ⟨⟨o,I.kIn p o hk,hc⟩,fun a e => ?_⟩
      cases e
      exact ⟨o,I.kIn _ o hk,hd⟩
    · have z:∃ o,s.heap.get? p = some o ∧ o.ExactDict:=by
        rcases hk with ⟨kvs,hk⟩ | ⟨kvs,hk⟩
        · obtain ⟨_,_,_,_,o,_,_,e,ex,_⟩:=I.hok p _ hk
          exact ⟨o,e,ex⟩
        · obtain ⟨_,_,_,_,o,_,_,e,ex,_⟩:=I.hok p _ hk
          exact ⟨o,e,ex⟩
      obtain ⟨o,e,ex⟩:=z
      refine ⟨⟨o,e,ex.1⟩,fun a e2 => ?_⟩
      cases e2
      exact ⟨o,e,ex.2.1⟩
    · obtain ⟨o,_,_,_,e,ex,_⟩:=I.hok p _ hk
      refine ⟨⟨o,e,ex.1⟩,fun a e2 => ?_⟩
      cases e2
      exact ⟨o,e,ex.2.1⟩
  | _ => exact False.elim ty
noncomputable def tBM0 (K:PySem.W.Frag) (T:String) (r:V → List V → Hp → VK → Prop) (to:TE):TE:=fun σ H Q => to σ H fun x H1 => tyV K T x H1 ∧ r x [] H1 Q
noncomputable def tBM (K:PySem.W.Frag) (T:String) (r:V → List V → Hp → VK → Prop) (to:TE) (t:TA):TE:=fun σ H Q => to σ H fun x H1 => tyV K T x H1 ∧ t σ H1 fun xs H2 => r x xs H2 Q
variable {o e:Expr} {es:List Expr} {to:TE} {t:TA} {name:Str} {apos cpos:Pos} {T id:String} {r:V → List V → Hp → VK → Prop}
theorem pe_bm0 (pa:PlainAttrs T) (slot:Slot T name id) (hty:typeOf (.builtin id) = pure (.type "method_descriptor")) (hm:MtR X id r) (ho:PE X o to)
    (hbase:attributeBase o name X.env (eval o X.env) = eval o X.env:=by rfl) (hline:(apos.endLine == cpos.line) = true:=by rfl):PE X (.Call (.Attribute o name apos) [] [] cpos) (tBM0 X.K T r to):=by
  intro pins s σ H Q I h
  refine wpAny_Call_method0_late hbase hline (thn (ho pins s σ H _ I h) fun v s1 ⟨x,H1,I1,r1,ty,q1⟩ => ?_)
  obtain ⟨h1,h2⟩:=tyV_is I1 r1 ty
  exact ⟨T,id,pa,slot,hty,h1,h2,Calls.callWith_builtin rfl (PySem.evalArgs_none (hm pins s1 σ H1 x [] v [] Q I1 r1 .nil q1))⟩
theorem pe_bm (pa:PlainAttrs T) (slot:Slot T name id) (hty:typeOf (.builtin id) = pure (.type "method_descriptor")) (hm:MtR X id r) (ho:PE X o to) (ha:PA X (e :: es) t)
    (hbase:attributeBase o name X.env (eval o X.env) = eval o X.env:=by rfl)
    (hfew:((backTo cpos (starEach (e :: es) X.env)).all (fun x => !x.1) && (backToKw cpos (keywordEach [] X.env)).all (fun x => x.1.isSome)
      && decide ((e :: es).length + ([]:List Keyword).length + (if ([]:List Keyword).isEmpty then 0 else 1) < 30)) = true:=by rfl)
    (hline:(apos.endLine == cpos.line) = true:=by rfl) (hs:starEach (e :: es) X.env = (false,eval e X.env) :: starEach es X.env:=by rfl) (hplain:(backTo cpos (starEach es X.env)).any (·.1) = false:=by rfl) :
    PE X (.Call (.Attribute o name apos) (e :: es) [] cpos) (tBM X.K T r to t):=by
  intro pins s σ H Q I h
  refine wpAny_Call_method_late hbase hfew hline rfl (thn (ho pins s σ H _ I h) fun v s1 ⟨x,H1,I1,r1,ty,q1⟩ => ?_)
  obtain ⟨h1,h2⟩:=tyV_is I1 r1 ty
  refine ⟨T,id,pa,slot,hty,h1,h2,?_⟩
  have hA:=ha cpos pins s1 σ H1 _ I1 q1
  rw [hs] at hA ⊢
  refine Calls.callWith_builtin (by show (false || (backTo cpos (starEach es X.env)).any (·.1)) = false; rw [hplain] <;> rfl) (Calls.evalArgs_plain ?_)
  exact thn hA fun us s2 ⟨vs,H2,I2,r2,q2⟩ => hm pins s2 σ H2 x vs v us Q I2 r1 r2 q2
/- xs.append(e),list.index on a module's tuple .. are MtR facts of 06m -/
end
end L2
namespace L2
open PySem PySem.Spec PyProof.Rows
noncomputable def MtM (X:Cx) (id:String) (r:V → List V → Hp → VK → Prop):Prop :=
  ∀ (pins:List (Addr × Obj)) (s:Shared) (σ:St) (H:Hp) (x:V) (xs:List V) (v:Value) (us:List Value) (Q:VK),Inv X pins σ H s → RelV x v → Vals xs us → r x xs H Q →
    wpAny (model X.prog X.w) X.A (call (.builtin id) (v :: us)) (EP X pins σ Q) X.xe s
theorem Vals.one:∀ {x:V} {us:List Value},Vals [x] us → ∃ u,us = [u] ∧ RelV x u
  | _,_,.cons r .nil => ⟨_,rfl,r⟩
theorem Vals.two:∀ {x y:V} {us:List Value},Vals [x,y] us → ∃ u v,us = [u,v] ∧ RelV x u ∧ RelV y v
  | _,_,_,.cons r (.cons q .nil) => ⟨_,_,rfl,r,q⟩
theorem Vals.zero:∀ {us:List Value},Vals [] us → us = []
  | _,.nil => rfl
theorem Vals.dropLast {xs:List V} {us:List Value} (h:Vals xs us):Vals xs.dropLast us.dropLast:=by
  induction h with
  | nil => exact .nil
  | cons r t ih =>
    cases t with
    | nil => exact .nil
    | cons q t' => exact .cons r ih
theorem erase_last {α:Type} (l:List α):l.eraseIdx (l.length - 1) = l.dropLast:=by
  induction l with
  | nil => rfl
  | cons a r ih =>
    cases r with
    | nil => rfl
    | cons b r =>
      have e:(a :: b :: r).length - 1 = ((b :: r).length - 1) + 1:=by
        have h1:(a :: b :: r).length = r.length + 2:=rfl
        have h2:(b :: r).length = r.length + 1:=rfl
        omega
      rw [e,List.eraseIdx_cons_succ,ih]
      all_goals rfl
section
variable {X:Cx} {pins:List (Addr × Obj)} {σ:St} {H:Hp} {s:Shared} {l b:Addr} {xs ys zs:List V}
theorem Inv.lset {its its':List Value} {n:Nat} {f:Array Value → Array Value} {t':Nat} (I:Inv X pins σ H s) (hH:H l = some (.lst xs))
    (e:s.heap.get? l = some { cls:=.type "list",data:=.seq its.toArray n }) (hf:f its.toArray = its'.toArray) (hv:Vals ys its') (hz:ys.length ≤ sizeLine) :
    Inv X pins σ (upd H l (.lst ys)) { s with heap:=s.heap.update l (Obj.mapSeq f),toks:=t' }:=by
  have q:=PySem.IsL.update e f
  rw [hf] at q
  refine I.write (x:=l) (e:=l) (by rw [hH]; exact trivial) (.inl rfl) (fun b' u hb hu => (Heap.get?_update_other s.heap (Obj.mapSeq f) (Ne.symm hb)).trans hu) ⟨_,q⟩ ?_
  exact ⟨hz,its',_,hv,q⟩
theorem Inv.lnew {its:List Value} {t':Nat} (I:Inv X pins σ H s) (hv:Vals ys its) (hz:ys.length ≤ sizeLine) :
    Inv X pins σ (upd H s.heap.objs.size (.lst ys)) { s with heap:=s.heap.push { cls:=.type "list",data:=.seq its.toArray },toks:=t' } :=
  I.laid (fun _ _ q => Heap.get?_push_of_some _ q) (Nat.le_refl _) ⟨hz,its,0,hv,Heap.get?_push_size _ rfl⟩
theorem Inv.fresh (I:Inv X pins σ H s):H s.heap.objs.size = none:=I.hok.fresh (Nat.le_refl _)
theorem Inv.lstM (I:Inv X pins σ H s) (hH:H l = some (.lst xs)):xs.length ≤ sizeLine ∧ ∃ (its:List Value) (n:Nat),Vals xs its ∧ xs.length = its.length ∧ s.heap.get? l = some { cls:=.type "list",data:=.seq its.toArray n }:=by
  obtain ⟨z,its,n,r,e⟩:=I.hok l _ hH
  exact ⟨z,its,n,r,r.length,e⟩
theorem notLongL {n:Nat} (h:n ≤ sizeLine):Builtin.List.listTooLong n = false:=by
  unfold Builtin.List.listTooLong
  exact decide_eq_false (by omega)
end
section
variable {X:Cx}
noncomputable def rAppend:V → List V → Hp → VK → Prop:=fun x vs H Q => ∃ l xs y,x = .ref l ∧ vs = [y] ∧ H l = some (.lst xs) ∧ xs.length < sizeLine ∧ Q .non (upd H l (.lst (xs ++ [y])))
theorem mt_append:MtM X "list.append" rAppend:=by
  intro pins s σ H x vs v us Q I rx rv h
  obtain ⟨l,xs,y,rfl,rfl,hH,hz,q⟩:=h
  cases rx
  obtain ⟨u,rfl,ru⟩:=rv.one
  obtain ⟨z,its,n,r,hl,e⟩:=I.lstM hH
  refine call_meets F.slot_list_append ⟨_,e,rfl⟩ F.entry_list_append (F.args_list_append_2 _ _) (PySem.list_append l its.toArray n u (by rw [List.size_toArray]; omega)) ⟨e,?_⟩
  refine ⟨.non,_,I.lset (its':=its ++ [u]) hH e (by simp) (r.append (.cons ru .nil)) ?_,rfl,q⟩
  rw [List.length_append,List.length_singleton]
  omega
noncomputable def rPop:V → List V → Hp → VK → Prop:=fun x vs H Q => ∃ l xs y,x = .ref l ∧ vs = [] ∧ H l = some (.lst xs) ∧ xs[xs.length - 1]? = some y ∧ Q y (upd H l (.lst xs.dropLast))
theorem mt_pop:MtM X "list.pop" rPop:=by
  intro pins s σ H x vs v us Q I rx rv h
  obtain ⟨l,xs,y,rfl,rfl,hH,hy,q⟩:=h
  cases rx
  have hus:=rv.zero
  subst hus
  obtain ⟨z,its,n,r,hl,e⟩:=I.lstM hH
  obtain ⟨u,hu,ru⟩:=r.get hy
  have hy':its.toArray[its.toArray.size - 1]? = some u:=by
    show its.toArray[its.length - 1]? = some u
    rw [← Array.getElem?_toList,← hl]
    exact hu
  refine call_meets F.slot_list_pop ⟨_,e,rfl⟩ F.entry_list_pop (F.args_list_pop_1 _) (MeetsSeq.list_pop_last l its.toArray n u hy' (by rw [List.size_toArray]; omega)) ⟨e,?_⟩
  refine ⟨y,_,I.lset (its':=its.dropLast) hH e ?_ r.dropLast ?_,ru,q⟩
  · show its.toArray.eraseIdxIfInBounds (its.toArray.size - 1) = its.dropLast.toArray
    rw [List.size_toArray,List.eraseIdxIfInBounds_toArray,erase_last]
  · rw [List.length_dropLast]
    omega
noncomputable def rCat:R2:=fun x y H Q => ∃ l b xs zs,x = .ref l ∧ y = .ref b ∧ H l = some (.lst xs) ∧ H b = some (.lst zs) ∧ xs.length + zs.length ≤ sizeLine ∧ ∀ p,H p = none → Q (.ref p) (upd H p (.lst (xs ++ zs)))
theorem op_cat:OpR X (binaryOp .Add) rCat:=by
  intro pins s σ H x y v u Q I rx ry h
  obtain ⟨l,b,xs,zs,rfl,rfl,hH,hB,hz,q⟩:=h
  cases rx
  cases ry
  obtain ⟨z,its,n,r,hl,e⟩:=I.lstM hH
  obtain ⟨z2,its2,n2,r2,hl2,e2⟩:=I.lstM hB
  refine PySem.P.add_list e e2 ?_ (by rw [List.size_toArray,List.size_toArray]; omega)
  have ea:its.toArray ++ its2.toArray = (its ++ its2).toArray:=by simp
  rw [ea]
  exact ⟨.ref _,_,I.lnew (t':=s.toks) (r.append r2) (by rw [List.length_append]; omega),rfl,q _ I.fresh⟩
end
section
variable {prog:Program} {w:World} {A:Around} {E:Value → Shared → Prop} {s:Shared}
end
section
variable {X:Cx}
end
end L2
namespace L2
open PySem PySem.Spec PyProof.Rows
section
variable {κ:Type} [DecidableEq κ]
noncomputable def valV (kvs:List (κ × V)) (k:κ):Option V:=(kvs.find? fun kv => decide (kv.1 = k)).map (·.2)
noncomputable def putK (kvs:List (κ × V)) (k:κ) (v:V):List (κ × V) :=
  if (kvs.any fun kv => decide (kv.1 = k)) = true then kvs.map (fun kv => if kv.1 = k then (kv.1,v) else kv) else kvs ++ [(k,v)]
theorem valV_pos {p:κ × V} {r:List (κ × V)} {k:κ} (e:p.1 = k):valV (p :: r) k = some p.2:=by simp [valV,List.find?_cons,e]
theorem valV_neg {p:κ × V} {r:List (κ × V)} {k:κ} (e:¬ p.1 = k):valV (p :: r) k = valV r k:=by simp [valV,List.find?_cons,e]
theorem valV_any (k:κ):∀ kvs:List (κ × V),(kvs.any fun kv => decide (kv.1 = k)) = (valV kvs k).isSome
  | [] => rfl
  | p :: r => by
    rw [List.any_cons]
    by_cases e:p.1 = k
    · simp only [valV_pos e,decide_eq_true e,Bool.true_or,Option.isSome_some]
    · rw [valV_neg e,decide_eq_false e,Bool.false_or]; exact valV_any k r
theorem valV_map (k j:κ) (y:V):∀ kvs:List (κ × V),valV (kvs.map fun kv => if kv.1 = k then (kv.1,y) else kv) j = (valV kvs j).map fun x => if j = k then y else x
  | [] => rfl
  | p :: r => by
    have ih:=valV_map k j y r
    rw [List.map_cons]
    by_cases h:p.1 = k
    · rw [if_pos h]
      by_cases e:p.1 = j
      · rw [valV_pos (p:=(p.1,y)) e,valV_pos e,Option.map_some,if_pos (e.symm.trans h)]
      · rw [valV_neg (p:=(p.1,y)) e,valV_neg e,ih]
    · rw [if_neg h]
      by_cases e:p.1 = j
      · rw [valV_pos (p:=p) e,valV_pos e,Option.map_some,if_neg (fun z => h (e.trans z))]
      · rw [valV_neg (p:=p) e,valV_neg e,ih]
theorem valV_snoc (k j:κ) (y:V):∀ kvs:List (κ × V),valV kvs k = none → valV (kvs ++ [(k,y)]) j = if j = k then some y else valV kvs j
  | [],_ => by
    by_cases e:k = j
    · rw [if_pos e.symm]; exact valV_pos (p:=(k,y)) e
    · rw [if_neg (fun z => e z.symm)]; exact valV_neg (p:=(k,y)) e
  | p :: r,hn => by
    rw [List.cons_append]
    have hk:¬ p.1 = k:=fun z => by rw [valV_pos z] at hn; cases hn
    rw [valV_neg hk] at hn
    have ih:=valV_snoc k j y r hn
    by_cases e:p.1 = j
    · rw [valV_pos e,valV_pos e,if_neg (fun z => hk (e.trans z))]
    · rw [valV_neg e,valV_neg e,ih]
theorem valV_put (kvs:List (κ × V)) (k j:κ) (y:V):valV (putK kvs k y) j = if j = k then some y else valV kvs j:=by
  unfold putK
  by_cases a:(kvs.any fun kv => decide (kv.1 = k)) = true
  · rw [if_pos a,valV_map]
    rw [valV_any] at a
    by_cases e:j = k
    · obtain ⟨x,hx⟩:=Option.isSome_iff_exists.mp a
      rw [if_pos e,e,hx,Option.map_some,if_pos rfl]
    · rw [if_neg e]
      cases valV kvs j with
      | none => rfl
      | some x => rw [Option.map_some,if_neg e]
  · rw [if_neg a]
    refine valV_snoc k j y kvs ?_
    rw [valV_any] at a
    cases q:valV kvs k with
    | none => rfl
    | some x => rw [q] at a; exact (a rfl).elim
theorem length_putK (kvs:List (κ × V)) (k:κ) (v:V):(putK kvs k v).length ≤ kvs.length + 1:=by
  unfold putK
  split
  · rw [List.length_map]; omega
  · rw [List.length_append,List.length_cons,List.length_nil]; omega
theorem putK_new {kvs:List (κ × V)} {k:κ} (v:V) (h:valV kvs k = none):putK kvs k v = kvs ++ [(k,v)]:=by
  unfold putK
  rw [valV_any,h]
  exact if_neg (by decide)
theorem RelO.isSome_eq {o:Option V} {u:Option Value} (r:RelO o u):o.isSome = u.isSome:=by
  cases o with
  | none => cases u with
    | none => rfl
    | some _ => exact (show False from r).elim
  | some _ => cases u with
    | none => exact (show False from r).elim
    | some _ => rfl
theorem RelO.getD {o:Option V} {u:Option Value} {d:V} {d':Value} (r:RelO o u) (rd:RelV d d'):RelV (o.getD d) (u.getD d'):=by
  cases o with
  | none => cases u with
    | none => exact rd
    | some _ => exact (show False from r).elim
  | some _ => cases u with
    | none => exact (show False from r).elim
    | some _ => exact r
theorem KV.val {kvs:List (κ × V)} {vs:List (κ × Value)} (r:KV kvs vs) (k:κ):RelO (valV kvs k) (valueAt vs k):=by
  unfold KV at r
  induction r with
  | nil => exact True.intro
  | @cons p q ps qs h t ih =>
    obtain ⟨h1,h2⟩:=h
    by_cases e:p.1 = k
    · have e':q.1 = k:=h1.symm.trans e
      have b:valueAt (q :: qs) k = some q.2:=by simp [valueAt,List.find?_cons,e']
      rw [valV_pos e,b]; exact h2
    · have e':¬ q.1 = k:=fun z => e (h1.trans z)
      have b:valueAt (q :: qs) k = valueAt qs k:=by simp [valueAt,List.find?_cons,e']
      rw [valV_neg e,b]; exact ih
theorem KV.any {kvs:List (κ × V)} {vs:List (κ × Value)} (r:KV kvs vs) (k:κ):(kvs.any fun kv => decide (kv.1 = k)) = vs.any fun kv => decide (kv.1 = k):=by
  unfold KV at r
  induction r with
  | nil => rfl
  | cons h t ih => rw [List.any_cons,List.any_cons,ih,h.1]
theorem KV.repl {kvs:List (κ × V)} {vs:List (κ × Value)} (r:KV kvs vs) (k:κ) {y:V} {u:Value} (ry:RelV y u) :
    KV (kvs.map fun kv => if kv.1 = k then (kv.1,y) else kv) (vs.map fun kv => if kv.1 = k then (kv.1,u) else kv):=by
  unfold KV at r ⊢
  induction r with
  | nil => exact .nil
  | @cons p q ps qs h t ih =>
    rw [List.map_cons,List.map_cons]
    refine .cons ?_ ih
    obtain ⟨h1,h2⟩:=h
    by_cases e:p.1 = k
    · rw [if_pos e,if_pos (h1.symm.trans e)]; exact ⟨h1,ry⟩
    · rw [if_neg e,if_neg (fun z => e (h1.trans z))]; exact ⟨h1,h2⟩
theorem KV.put {kvs:List (κ × V)} {vs:List (κ × Value)} (r:KV kvs vs) (k:κ) {y:V} {u:Value} (ry:RelV y u):KV (putK kvs k y) (stored vs k u):=by
  unfold putK stored
  rw [r.any k]
  by_cases e:(vs.any fun kv => decide (kv.1 = k)) = true
  · rw [if_pos e,if_pos e]; exact r.repl k ry
  · rw [if_neg e,if_neg e]; exact Paired.snoc r ⟨rfl,ry⟩
theorem KV.length {kvs:List (κ × V)} {vs:List (κ × Value)} (r:KV kvs vs):kvs.length = vs.length:=Paired.length r
end
theorem kV_is {P:Program} {w:World} {k:Key} {u:Value} (r:RelV (kV k) u):(mixKind P w).is k u = true:=by
  cases k with
  | inl i => obtain ⟨t,e⟩:=(show ∃ t,u = Value.int i t from r); subst e; exact mixKind_int P w i t
  | inr x => obtain ⟨t,e⟩:=(show ∃ t,u = Value.str x t from r); subst e; exact mixKind_str P w x t
theorem items_are {P:Program} {w:World}:∀ {ks:List Key} {us:List Value},Vals (ks.map kV) us → ItemsAre (mixKind P w) ks us
  | [],_,r => by rw [List.map_nil] at r; cases r; exact .nil
  | k :: ks,_,r => by
    rw [List.map_cons] at r
    cases r with
    | cons h t => exact .cons (kV_is h) (items_are t)
noncomputable abbrev KT (H:Hp):List (List Key × V) → List (List Key × Addr × Value) → Prop:=Paired fun p q => p.1 = q.1 ∧ H q.2.1 = some (.tup (p.1.map kV)) ∧ RelV p.2 q.2.2
theorem KT.val {H:Hp} {kvs:List (List Key × V)} {xs:List (List Key × Addr × Value)} (r:KT H kvs xs) (k:List Key):RelO (valV kvs k) ((atKey xs k).map (·.2)):=by
  induction r with
  | nil => exact True.intro
  | @cons p q ps qs h t ih =>
    obtain ⟨h1,_,h2⟩:=h
    by_cases e:p.1 = k
    · have e':q.1 = k:=h1.symm.trans e
      have b:atKey (q :: qs) k = some q.2:=by simp [atKey,List.find?_cons,e']
      rw [valV_pos e,b]; exact h2
    · have e':¬ q.1 = k:=fun z => e (h1.trans z)
      have b:atKey (q :: qs) k = atKey qs k:=by simp [atKey,List.find?_cons,e']
      rw [valV_neg e,b]; exact ih
theorem KT.repl {H:Hp} {kvs:List (List Key × V)} {xs:List (List Key × Addr × Value)} (r:KT H kvs xs) (k:List Key) {y:V} {u:Value} (ry:RelV y u) :
    KT H (kvs.map fun kv => if kv.1 = k then (kv.1,y) else kv) (xs.map (putAt k u)):=by
  induction r with
  | nil => exact .nil
  | @cons p q ps qs h t ih =>
    rw [List.map_cons,List.map_cons]
    refine .cons ?_ ih
    obtain ⟨h1,h2,h3⟩:=h
    unfold putAt
    by_cases e:p.1 = k
    · rw [if_pos e,if_pos (h1.symm.trans e)]; exact ⟨h1,h2,ry⟩
    · rw [if_neg e,if_neg (fun z => e (h1.trans z))]; exact ⟨h1,h2,h3⟩
theorem KT.put {H:Hp} {kvs:List (List Key × V)} {xs:List (List Key × Addr × Value)} (r:KT H kvs xs) (k:List Key) {b:Addr} {y:V} {u:Value} (hb:H b = some (.tup (k.map kV))) (ry:RelV y u) :
    KT H (putK kvs k y) (storedH xs k b u):=by
  have e:(kvs.any fun kv => decide (kv.1 = k)) = (atKey xs k).isSome:=by
    rw [valV_any,(r.val k).isSome_eq,Option.isSome_map]
  unfold putK storedH
  rw [e]
  by_cases q:(atKey xs k).isSome = true
  · rw [if_pos q,if_pos q]; exact r.repl k ry
  · rw [if_neg q,if_neg q]; exact Paired.snoc r ⟨rfl,hb,ry⟩
theorem KT.keeps {H H':Hp} {kvs:List (List Key × V)} {xs:List (List Key × Addr × Value)} (r:KT H kvs xs) (ht:∀ b ys,H b = some (.tup ys) → H' b = some (.tup ys)):KT H' kvs xs :=
  Paired.mapP r fun _ _ z => ⟨z.1,ht _ _ z.2.1,z.2.2⟩
section
variable {P:Program} {w:World} {H:Hp} {h:Heap} {a:Addr}
theorem rd_of {u:HO} (ok:HOk P w H h) (e:Rd H a u):ObjOk P w H h a u:=e.ok ok
theorem dk_rd {kvs:List (Key × V)} (ok:HOk P w H h) (e:Rd H a (.dK kvs)):kvs.length ≤ sizeLine ∧ (a == sysModules) = false ∧ ∃ vs,KV kvs vs ∧ h.DictOf (mixKind P w) a vs :=
  show ObjOk P w H h a (.dK kvs) from rd_of ok e
theorem dk_of {kvs:List (Key × V)} (ok:HOk P w H h) (e:H a = some (.dK kvs)):kvs.length ≤ sizeLine ∧ (a == sysModules) = false ∧ ∃ vs,KV kvs vs ∧ h.DictOf (mixKind P w) a vs:=dk_rd ok (.inl e)
theorem key_of {ks:List Key} (ok:HOk P w H h) (e:H a = some (.tup (ks.map kV))):(tupleKind (mixKind P w)).is h ks a:=by
  obtain ⟨_,its,r,o,h1,h2,n,h3⟩:=(show ObjOk P w H h a (.tup (ks.map kV)) from ok a _ e)
  exact ⟨o,its.toArray,n,h1,h2,h3,by simpa using items_are r⟩
theorem dt_rd {kvs:List (List Key × V)} (ok:HOk P w H h) (e:Rd H a (.dT kvs)):kvs.length ≤ sizeLine ∧ (a == sysModules) = false ∧
    ∃ xs,KT H kvs xs ∧ h.DictOfH (tupleKind (mixKind P w)) a xs:=by
  obtain ⟨z,y,xs,r,o,es,ep,h1,h2,h3,h4,h5⟩:=(show ObjOk P w H h a (.dT kvs) from rd_of ok e)
  refine ⟨z,y,xs,r,o,es,ep,h1,h2,h3,h4,fun x hx => ?_,h5⟩
  have all:∀ {l:List (List Key × V)} {m:List (List Key × Addr × Value)},KT H l m → ∀ x ∈ m,(tupleKind (mixKind P w)).is h x.1 x.2.1:=by
    intro l m q
    induction q with
    | nil => intro x hx; exact nomatch hx
    | @cons p q ps qs hq t ih =>
      intro x hx
      rcases List.mem_cons.mp hx with e | hx
      · subst e
        exact key_of ok (by rw [← hq.1]; exact hq.2.1)
      · exact ih x hx
  exact all r x hx
theorem dt_of {kvs:List (List Key × V)} (ok:HOk P w H h) (e:H a = some (.dT kvs)):kvs.length ≤ sizeLine ∧ (a == sysModules) = false ∧
    ∃ xs,KT H kvs xs ∧ h.DictOfH (tupleKind (mixKind P w)) a xs:=dt_rd ok (.inl e)
end
noncomputable def DGet (H:Hp) (a:Addr) (y:V) (r:Option V):Prop :=
  (∃ kvs k,Rd H a (.dK kvs) ∧ y = kV k ∧ r = valV kvs k) ∨ ∃ kvs k b,Rd H a (.dT kvs) ∧ y = .ref b ∧ H b = some (.tup (k.map kV)) ∧ r = valV kvs k
noncomputable def DPut (H:Hp) (a:Addr) (y v:V) (H':Hp):Prop :=
  (∃ kvs k,H a = some (.dK kvs) ∧ y = kV k ∧ kvs.length < sizeLine ∧ H' = upd H a (.dK (putK kvs k v))) ∨
  ∃ kvs k b,H a = some (.dT kvs) ∧ y = .ref b ∧ H b = some (.tup (k.map kV)) ∧ kvs.length < sizeLine ∧ H' = upd H a (.dT (putK kvs k v))
theorem DGet.k {H:Hp} {a:Addr} {kvs:List (Key × V)} {k:Key} (e:H a = some (.dK kvs)):DGet H a (kV k) (valV kvs k):=.inl ⟨kvs,k,.inl e,rfl,rfl⟩
theorem DGet.t {H:Hp} {a b:Addr} {kvs:List (List Key × V)} {k:List Key} (e:H a = some (.dT kvs)) (eb:H b = some (.tup (k.map kV))):DGet H a (.ref b) (valV kvs k):=.inr ⟨kvs,k,b,.inl e,rfl,eb,rfl⟩
theorem DPut.k {H:Hp} {a:Addr} {kvs:List (Key × V)} {k:Key} {v:V} (e:H a = some (.dK kvs)) (hl:kvs.length < sizeLine):DPut H a (kV k) v (upd H a (.dK (putK kvs k v))):=.inl ⟨kvs,k,e,rfl,hl,rfl⟩
theorem DPut.t {H:Hp} {a b:Addr} {kvs:List (List Key × V)} {k:List Key} {v:V} (e:H a = some (.dT kvs)) (eb:H b = some (.tup (k.map kV))) (hl:kvs.length < sizeLine) :
    DPut H a (.ref b) v (upd H a (.dT (putK kvs k v))):=.inr ⟨kvs,k,b,e,rfl,eb,hl,rfl⟩
section
variable {X:Cx} {pins:List (Addr × Obj)} {σ:St} {H:Hp} {s:Shared} {a:Addr} {y v:V} {u r:Value} {o:Option V} {A:Around} {E:Value → Shared → Prop}
theorem Inv.big (I:Inv X pins σ H s):sysModules < s.heap.objs.size:=by
  have h:mainGlobals < s.heap.objs.size:=(I.mod.glob.keeps I.bk).lt
  exact Nat.lt_trans (by decide) h
theorem d_getItem {Q:Value → Shared → Prop} (hu:A.units + 1 < cLine) (I:Inv X pins σ H s) (g:DGet H a y (some v)) (ry:RelV y u) (h:∀ w' s',Inv X pins σ H s' → RelV v w' → Q w' s') :
    wpAny (model X.prog X.w) A (getItem (.ref a) u) Q E s:=by
  rcases g with ⟨kvs,k,e,ey,l⟩ | ⟨kvs,k,b,e,ey,eb,l⟩
  · subst ey
    obtain ⟨z,hd,vs,rel,dd⟩:=dk_rd I.hok e
    obtain ⟨w',hw,rw'⟩:=RelO.some_of (v:=v) (o:=valueAt vs k) (by rw [l]; exact rel.val k)
    exact wpAny_getItem_of (kV_is ry) dd.mapOf hw (h w' _ (I.tok _) rw')
  · subst ey
    cases (show u = Value.ref b from ry)
    obtain ⟨z,hd,xs,rel,dd⟩:=dt_rd I.hok e
    obtain ⟨w',hw,rw'⟩:=RelO.some_of (v:=v) (o:=(atKey xs k).map (·.2)) (by rw [l]; exact rel.val k)
    obtain ⟨p,hp,hp2⟩:=Option.map_eq_some_iff.mp hw
    refine wpAny_getItem_heap (tupleKind_room_in1 hu) (key_of I.hok eb) dd hp ?_
    rw [hp2]
    exact h w' _ (I.tok _) rw'
theorem d_in {Q:Value → Shared → Prop} (hu:A.units + 1 < cLine) (I:Inv X pins σ H s) (g:DGet H a y o) (ry:RelV y u) (h:∀ s',Inv X pins σ H s' → Q (.bool o.isSome) s') :
    wpAny (model X.prog X.w) A (compareOp .In u (.ref a)) Q E s:=by
  rcases g with ⟨kvs,k,e,ey,l⟩ | ⟨kvs,k,b,e,ey,eb,l⟩
  · subst ey
    obtain ⟨z,hd,vs,rel,dd⟩:=dk_rd I.hok e
    refine wpAny_in_of (kV_is ry) hd dd.mapOf ?_
    rw [← (rel.val k).isSome_eq,← l]
    exact h _ (I.tok _)
  · subst ey
    cases (show u = Value.ref b from ry)
    obtain ⟨z,hd,xs,rel,dd⟩:=dt_rd I.hok e
    refine wpAny_in_heap (tupleKind_room_in1 hu) (key_of I.hok eb) hd dd ?_
    have q:=(rel.val k).isSome_eq
    rw [Option.isSome_map] at q
    rw [← q,← l]
    exact h _ (I.tok _)
theorem d_notIn {Q:Value → Shared → Prop} (hu:A.units + 1 < cLine) (I:Inv X pins σ H s) (g:DGet H a y o) (ry:RelV y u) (h:∀ s',Inv X pins σ H s' → Q (.bool (!o.isSome)) s') :
    wpAny (model X.prog X.w) A (compareOp .NotIn u (.ref a)) Q E s:=by
  rcases g with ⟨kvs,k,e,ey,l⟩ | ⟨kvs,k,b,e,ey,eb,l⟩
  · subst ey
    obtain ⟨z,hd,vs,rel,dd⟩:=dk_rd I.hok e
    refine wpAny_notIn_of (kV_is ry) hd dd.mapOf ?_
    rw [← (rel.val k).isSome_eq,← l]
    exact h _ (I.tok _)
  · subst ey
    cases (show u = Value.ref b from ry)
    obtain ⟨z,hd,xs,rel,dd⟩:=dt_rd I.hok e
    refine wpAny_notIn_heap (tupleKind_room_in1 hu) (key_of I.hok eb) hd dd ?_
    have q:=(rel.val k).isSome_eq
    rw [Option.isSome_map] at q
    rw [← q,← l]
    exact h _ (I.tok _)
theorem d_write {h':Heap} {t':Nat} {ob:HO} (I:Inv X pins σ H s) (mu:Mut (H a)) (hs:Heap.SameBut a s.heap h') (he:∃ q,h'.get? a = some q) (new:ObjOk X.prog X.w (upd H a ob) h' a ob) :
    Inv X pins σ (upd H a ob) { s with heap:=h',toks:=t' } :=
  I.write (x:=a) (e:=a) mu (.inl rfl) (fun b q hb z => (hs.2 b hb).trans z) he new
theorem dk_new {P:Program} {w:World} {H':Hp} {h':Heap} {kvs:List (Key × V)} {vs:List (Key × Value)} (z:kvs.length ≤ sizeLine) (hd:(a == sysModules) = false) (rel:KV kvs vs) (dd:h'.DictOf (mixKind P w) a vs) :
    ObjOk P w H' h' a (.dK kvs):=⟨z,hd,vs,rel,dd⟩
theorem d_setItem {H':Hp} {Q:Unit → Shared → Prop} (hu:A.units + 1 < cLine) (I:Inv X pins σ H s) (g:DPut H a y v H') (ry:RelV y u) (rv:RelV v r) (h:∀ s',Inv X pins σ H' s' → Q () s') :
    wpAny (model X.prog X.w) A (setItem (.ref a) u r) Q E s:=by
  rcases g with ⟨kvs,k,e,ey,l,eH⟩ | ⟨kvs,k,b,e,ey,eb,l,eH⟩
  · subst ey eH
    obtain ⟨z,hd,vs,rel,dd⟩:=dk_of I.hok e
    have hz:vs.length ≤ sizeLine:=by rw [← rel.length]; exact z
    have hl:(putK kvs k v).length ≤ sizeLine:=by have:=length_putK kvs k v; omega
    refine wpAny_setItem_pairs (hsz:=hz) (kV_is ry) dd fun h' dd' hs => h _ ?_
    have he:∃ q,h'.get? a = some q:=let ⟨q,_,_,hq,_⟩:=dd'; ⟨q,hq⟩
    exact d_write I (by rw [e]; exact True.intro) hs he (dk_new hl hd (rel.put k rv) dd')
  · subst ey eH
    cases (show u = Value.ref b from ry)
    obtain ⟨z,hd,xs,rel,dd⟩:=dt_of I.hok e
    have hz:xs.length ≤ sizeLine:=by rw [← Paired.length rel]; exact z
    have hl:(putK kvs k v).length ≤ sizeLine:=by have:=length_putK kvs k v; omega
    refine wpAny_setItem_heap (hsz:=hz) (tupleKind_room_in1 hu) (key_of I.hok eb) dd fun h' dd' hs => h _ ?_
    obtain ⟨q,es,ep,hq,h2,h3,h4,_,h5⟩:=dd'
    refine d_write I (by rw [e]; exact True.intro) hs ⟨q,hq⟩ ⟨hl,hd,_,(rel.put k eb rv).keeps fun c ys ec => ?_,q,es,ep,hq,h2,h3,h4,h5⟩
    rw [upd_ne (ne_of ec e (fun z => nomatch z))]
    exact ec
end
section
variable {X:Cx} {pins:List (Addr × Obj)} {σ:St} {H:Hp} {s:Shared} {a:Addr} {kvs:List (Key × V)} {k:Key} {u:Value} {A:Around} {E:Value → Shared → Prop}
end
noncomputable def NoSl (i:Expr):Prop:=∀ ov iv,subscripted i false ov iv = operate [ov,iv] (getItem ov iv)
theorem subD_of {prog:Program} {w:World} {A:Around} {E:Value → Shared → Prop} {s:Shared} {env:Env} {value slice:Expr} {pos:Pos} {T id:String} {Q:Value → Shared → Prop}
    (hl:typeLookup (.type T) "__getitem__" = pure (some (.builtin id))) (hs:NoSl slice)
    (h:wpAny (model prog w) A (eval value env) (fun o s₁ => wpAny (model prog w) A (eval slice env) (fun i s₂ => s₂.TypeIs o T ∧ wpAny (model prog w) A (getItem o i) Q E s₂) E s₁) E s) :
    wpAny (model prog w) A (eval (.Subscript value slice pos) env) Q E s:=by
  refine Subscript_ (wpAny_mono h (fun o s₁ h₁ => wpAny_mono h₁ (fun i s₂ h₂ => ?_) fun _ _ x => x) fun _ _ x => x)
  obtain ⟨hT,h₂⟩:=h₂
  unfold subscriptTail
  refine wpAny_bind ?_
  rw [getitemInPython_of_ne hT.not_modules]
  refine wpAny_bind (wpAny_specialOf hT hl ?_)
  have fin:wpAny (model prog w) A (subscripted slice false o i) (fun r s₃ => wpAny (model prog w) A (letTemporaryGo value o r >>= fun _ => pure r) Q E s₃) E s₂:=by
    rw [hs o i]
    exact wpAny_operating (wpAny_mono h₂ (fun r s₃ h₃ => wpAny_bind (wpAny_letTemporaryGo (wpAny_pure h₃))) fun _ _ x => x)
  first
    | exact wpAny_pure (wpAny_bind fin)
    | exact wpAny_bind (wpAny_pure (wpAny_bind fin))
    | exact wpAny_bind fin
theorem dict_typeIs {X:Cx} {pins:List (Addr × Obj)} {σ:St} {H:Hp} {s:Shared} {a:Addr} {y:V} {o:Option V} (I:Inv X pins σ H s) (g:DGet H a y o):s.TypeIs (.ref a) "dict":=by
  rcases g with ⟨kvs,k,e,_,_⟩ | ⟨kvs,k,b,e,_,_,_⟩
  · obtain ⟨_,_,vs,_,dd⟩:=dk_rd I.hok e
    exact dd.typeIs
  · obtain ⟨_,_,xs,_,dd⟩:=dt_rd I.hok e
    exact dd.typeIs
noncomputable def tDGet (td ty:TE):TE:=fun σ H Q => td σ H fun x H1 => ty σ H1 fun y H2 => ∃ a v,x = .ref a ∧ DGet H2 a y (some v) ∧ Q v H2
noncomputable def tDIn (ty td:TE):TE:=fun σ H Q => ty σ H fun y H1 => td σ H1 fun x H2 => ∃ a o,x = .ref a ∧ DGet H2 a y o ∧ Q (.bl o.isSome) H2
noncomputable def tDNotIn (ty td:TE):TE:=fun σ H Q => ty σ H fun y H1 => td σ H1 fun x H2 => ∃ a o,x = .ref a ∧ DGet H2 a y o ∧ Q (.bl (!o.isSome)) H2
noncomputable def sDPut (td ty tv:TE):TS:=fun D σ H => tv σ H fun v H1 => td σ H1 fun x H2 => ty σ H2 fun y H3 => ∃ a H4,x = .ref a ∧ DPut H3 a y v H4 ∧ D.nx σ H4
section
variable {X:Cx} {o i e value:Expr} {pos pos' tpos:Pos} {td ty tv:TE}
theorem pe_dget (hu:X.A.units + 1 < cLine) (ho:PE X o td) (hi:PE X i ty) (hs:NoSl i):PE X (.Subscript o i pos) (tDGet td ty):=by
  intro pins s σ H Q I h
  refine subD_of PySem.F.slot_dict_getitem.lookup hs (thn (ho pins s σ H _ I h) fun u s1 ⟨x,H1,I1,rx,q1⟩ => thn (hi pins s1 σ H1 _ I1 q1) fun iv s2 ⟨y,H2,I2,ry,a,v,ex,g,q2⟩ => ?_)
  subst ex
  obtain rfl:u = Value.ref a:=rx
  exact ⟨dict_typeIs I2 g,d_getItem hu I2 g ry fun w' s3 I3 rw' => ⟨v,H2,I3,rw',q2⟩⟩
theorem pc_din (hu:X.A.units + 1 < cLine) (hi:PE X i ty) (ho:PE X o td):PC X .In i o (tDIn ty td):=by
  intro pins s σ H Q I h
  refine thn (hi pins s σ H _ I h) fun iv s1 ⟨y,H1,I1,ry,q1⟩ => thn (ho pins s1 σ H1 _ I1 q1) fun u s2 ⟨x,H2,I2,rx,a,ov,ex,g,q2⟩ => ?_
  subst ex
  obtain rfl:u = Value.ref a:=rx
  exact d_in hu I2 g ry fun s3 I3 => ⟨.bl ov.isSome,H2,I3,rfl,q2⟩
theorem pc_dnotin (hu:X.A.units + 1 < cLine) (hi:PE X i ty) (ho:PE X o td):PC X .NotIn i o (tDNotIn ty td):=by
  intro pins s σ H Q I h
  refine thn (hi pins s σ H _ I h) fun iv s1 ⟨y,H1,I1,ry,q1⟩ => thn (ho pins s1 σ H1 _ I1 q1) fun u s2 ⟨x,H2,I2,rx,a,ov,ex,g,q2⟩ => ?_
  subst ex
  obtain rfl:u = Value.ref a:=rx
  exact d_notIn hu I2 g ry fun s3 I3 => ⟨.bl (!ov.isSome),H2,I3,rfl,q2⟩
theorem ps_dput (hu:X.A.units + 1 < cLine) (ho:PE X o td) (hi:PE X i ty) (hv:PE X value tv) (hs:swapsWith value (some (.Subscript o i pos')) pos.line X.env = pure false) :
    PS X (.Assign [.Subscript o i pos'] value pos) (sDPut td ty tv):=by
  intro pins s σ H D I h
  refine wpAny_Assign_Subscript (thn (hv pins s σ H _ I h) fun r s1 ⟨v,H1,I1,rv,q1⟩ => thn (ho pins s1 σ H1 _ I1 q1) fun u s2 ⟨x,H2,I2,rx,q2⟩ => thn (hi pins s2 σ H2 _ I2 q2) fun iv s3 ⟨y,H3,I3,ry,a,H4,ex,g,q3⟩ => ?_) hs
  subst ex
  obtain rfl:u = Value.ref a:=rx
  exact d_setItem hu I3 g ry rv fun s4 I4 => ⟨σ,H4,I4,q3⟩
end
theorem dk_empty {P:Program} {w:World} {H:Hp} (h:Heap) (hb:sysModules < h.objs.size):ObjOk P w H (h.push { cls:=.type "dict",data:=.dict #[] }) h.objs.size (.dK []) :=
  ⟨Nat.zero_le _,beq_eq_false_iff_ne.mpr (Ne.symm (Nat.ne_of_lt hb)),[],.nil,Heap.DictOf.new h⟩
theorem dt_empty {P:Program} {w:World} {H:Hp} (h:Heap) (hb:sysModules < h.objs.size):ObjOk P w H (h.push { cls:=.type "dict",data:=.dict #[] }) h.objs.size (.dT []) :=
  ⟨Nat.zero_le _,beq_eq_false_iff_ne.mpr (Ne.symm (Nat.ne_of_lt hb)),[],.nil,_,#[],0,Heap.get?_push_size _ rfl,⟨rfl,rfl,rfl⟩,rfl,rfl,List.nodup_nil⟩
noncomputable def tDNewK:TE:=fun _ H Q => ∀ p,H p = none → Q (.ref p) (upd H p (.dK []))
noncomputable def tDNewT:TE:=fun _ H Q => ∀ p,H p = none → Q (.ref p) (upd H p (.dT []))
section
variable {X:Cx} {pos:Pos}
theorem pe_dnewK:PE X (.Dict [] [] pos) tDNewK:=fun pins s σ H Q I h =>
  wpAny_Dict_empty ⟨.ref s.heap.objs.size,_,I.laid (a:=s.heap.objs.size) (o:=.dK []) (t':=s.toks) (fun _ _ q => Heap.get?_push_of_some _ q) (Nat.le_refl _) (dk_empty s.heap I.big),rfl,h _ (I.hok.fresh (Nat.le_refl _))⟩
theorem pe_dnewT:PE X (.Dict [] [] pos) tDNewT:=fun pins s σ H Q I h =>
  wpAny_Dict_empty ⟨.ref s.heap.objs.size,_,I.laid (a:=s.heap.objs.size) (o:=.dT []) (t':=s.toks) (fun _ _ q => Heap.get?_push_of_some _ q) (Nat.le_refl _) (dt_empty s.heap I.big),rfl,h _ (I.hok.fresh (Nat.le_refl _))⟩
end
noncomputable def tPairs:List (TE × TE) → St → Hp → (List (V × V) → Hp → Prop) → Prop
  | [],_,H,Q => Q [] H
  | (tk,tv) :: r,σ,H,Q => tk σ H fun x H1 => tv σ H1 fun y H2 => tPairs r σ H2 fun ps H3 => Q ((x,y) :: ps) H3
noncomputable abbrev VV:List (V × V) → List (Value × Value) → Prop:=Paired fun p q => RelV p.1 q.1 ∧ RelV p.2 q.2
noncomputable def PPs (X:Cx) (pos:Pos) (keys:List (Option Expr)) (values:List Expr) (trs:List (TE × TE)):Prop :=
  ∀ (pins:List (Addr × Obj)) (s:Shared) (σ:St) (H:Hp) (Q:List (V × V) → Hp → Prop),Inv X pins σ H s → tPairs trs σ H Q →
    wpAny (model X.prog X.w) X.A (evalPairs (pairTrees keys values X.env pos)) (fun vs s' => ∃ ps H',Inv X pins σ H' s' ∧ VV ps vs ∧ Q ps H') X.xe s
theorem pps_nil {X:Cx} {pos:Pos}:PPs X pos [] [] []:=fun pins s σ H Q I h => pairTrees_nil_walk ⟨[],H,I,.nil,h⟩
theorem pps_cons {X:Cx} {pos:Pos} {k v:Expr} {ks:List (Option Expr)} {vs:List Expr} {tk tv:TE} {trs:List (TE × TE)} (hk:PE X k tk) (hv:PE X v tv) (hr:PPs X pos ks vs trs) :
    PPs X pos (some k :: ks) (v :: vs) ((tk,tv) :: trs):=fun pins s σ H Q I h =>
  pairTrees_cons_walk (thn (hk pins s σ H _ I h) fun u s1 ⟨x,H1,I1,rx,q1⟩ => thn (hv pins s1 σ H1 _ I1 q1) fun w2 s2 ⟨y,H2,I2,ry,q2⟩ =>
    thn (hr pins s2 σ H2 _ I2 q2) fun ws s3 ⟨ps,H3,I3,rel,q3⟩ => ⟨(x,y) :: ps,H3,I3,.cons ⟨rx,ry⟩ rel,q3⟩)
noncomputable def mergeK (kvs more:List (Key × V)):List (Key × V):=more.foldl (fun acc kv => putK acc kv.1 kv.2) kvs
theorem KV.merge:∀ {more:List (Key × V)} {rs:List (Key × Value)} {kvs:List (Key × V)} {vs:List (Key × Value)},KV more rs → KV kvs vs → KV (mergeK kvs more) (merged vs rs):=by
  intro more rs kvs vs r
  unfold KV at r
  induction r generalizing kvs vs with
  | nil => intro q; exact q
  | @cons p q ps qs h t ih =>
    intro r0
    have e:KV (putK kvs p.1 p.2) (stored vs q.1 q.2):=by
      have:=r0.put p.1 h.2
      rw [← h.1]; exact this
    exact ih e
theorem length_mergeK:∀ (more kvs:List (Key × V)),(mergeK kvs more).length ≤ kvs.length + more.length
  | [],kvs => by show kvs.length ≤ kvs.length + 0; omega
  | p :: r,kvs => by
    have h1:=length_mergeK r (putK kvs p.1 p.2)
    have h2:=length_putK kvs p.1 p.2
    show (mergeK (putK kvs p.1 p.2) r).length ≤ _
    rw [List.length_cons]; omega
theorem carries_of {P:Program} {w:World}:∀ {kvs:List (Key × V)} {ws:List (Value × Value)},VV (kvs.map fun kv => (kV kv.1,kv.2)) ws → ∃ rs,Carries (mixKind P w) ws rs ∧ KV kvs rs
  | [],_,r => by rw [List.map_nil] at r; cases r; exact ⟨[],True.intro,.nil⟩
  | p :: kvs,_,r => by
    rw [List.map_cons] at r
    cases r with
    | @cons a b as bs h t =>
      obtain ⟨rs,c,q⟩:=carries_of (P:=P) (w:=w) t
      obtain ⟨b1,b2⟩:=b
      exact ⟨(p.1,b2) :: rs,⟨kV_is h.1,rfl,c⟩,.cons ⟨rfl,h.2⟩ q⟩
noncomputable def tDisp (trs:List (TE × TE)):TE:=fun σ H Q => ∀ p,H p = none → tPairs trs σ (upd H p (.dK [])) fun ps H2 => H2 p = some (.dK []) ∧ ∃ kvs:List (Key × V),ps = kvs.map (fun kv => (kV kv.1,kv.2)) ∧ kvs.length ≤ 15 ∧ Q (.ref p) (upd H2 p (.dK (mergeK [] kvs)))
theorem pe_disp {X:Cx} {pos:Pos} {keys:List (Option Expr)} {values:List Expr} {trs:List (TE × TE)} (h:PPs X pos keys values trs) (hall:keys.all (·.isSome) = true) (hl:keys.length = values.length) (h0:keys ≠ [])
    (h15:keys.length ≤ 15):PE X (.Dict keys values pos) (tDisp trs):=by
  intro pins s σ H Q I q
  have hn:=I.hok.fresh (Nat.le_refl s.heap.objs.size)
  have I1:=I.laid (a:=s.heap.objs.size) (o:=.dK []) (h':=s.heap.push { cls:=.type "dict",data:=.dict #[] }) (t':=s.toks) (fun _ _ q => Heap.get?_push_of_some _ q) (Nat.le_refl _) (dk_empty s.heap I.big)
  refine wpAny_Dict_walk (knd:=mixKind X.prog X.w) hall hl h0 h15 (thn (h pins _ σ _ _ I1 (q _ hn)) fun ws s2 ⟨ps,H2,I2,rel,e,kvs,ep,lk,q2⟩ => ?_)
  subst ep
  obtain ⟨rs,c,rk⟩:=carries_of (P:=X.prog) (w:=X.w) rel
  obtain ⟨z,hd,vs0,r0,dd⟩:=dk_of I2.hok e
  cases r0
  refine ⟨rs,c,dd,fun h' dd' hs => ⟨.ref s.heap.objs.size,_,?_,rfl,q2⟩⟩
  have hz:(mergeK [] kvs).length ≤ sizeLine:=by
    have h1:=length_mergeK kvs []
    rw [List.length_nil] at h1
    rw [sizeLine_eq]; omega
  have he:∃ q,h'.get? s.heap.objs.size = some q:=let ⟨q,_,_,hq,_⟩:=dd'; ⟨q,hq⟩
  exact d_write I2 (by rw [e]; exact True.intro) hs he (dk_new hz hd (rk.merge .nil) dd')
structure M1 (X:Cx) (o:Expr) (m:Str) (apos:Pos) (e:Expr) (cpos:Pos):Prop where
  base:attributeBase o m X.env (eval o X.env) = eval o X.env
  few:((backTo cpos (starEach [e] X.env)).all (fun x => !x.1) && (backToKw cpos (keywordEach [] X.env)).all (fun x => x.1.isSome)
    && decide (([e]:List Expr).length + ([]:List Keyword).length + (if ([]:List Keyword).isEmpty then 0 else 1) < 30)) = true
  line:(apos.endLine == cpos.line) = true
  trees:backTo cpos (starEach [e] X.env) = [(false,eval e X.env)]
structure M2 (X:Cx) (o:Expr) (m:Str) (apos:Pos) (e f:Expr) (cpos:Pos):Prop where
  base:attributeBase o m X.env (eval o X.env) = eval o X.env
  few:((backTo cpos (starEach [e,f] X.env)).all (fun x => !x.1) && (backToKw cpos (keywordEach [] X.env)).all (fun x => x.1.isSome)
    && decide (([e,f]:List Expr).length + ([]:List Keyword).length + (if ([]:List Keyword).isEmpty then 0 else 1) < 30)) = true
  line:(apos.endLine == cpos.line) = true
  trees:backTo cpos (starEach [e,f] X.env) = [(false,eval e X.env),(false,eval f X.env)]
noncomputable def IsD (H:Hp) (a:Addr):Prop:=(∃ kvs,Rd H a (.dK kvs)) ∨ ∃ kvs,Rd H a (.dT kvs)
theorem isD_at {X:Cx} {pins:List (Addr × Obj)} {σ:St} {H:Hp} {s:Shared} {a:Addr} (I:Inv X pins σ H s) (d:IsD H a) :
    s.TypeIs (.ref a) "dict" ∧ (∀ b,Value.ref a = .ref b → ∃ ob,s.heap.get? b = some ob ∧ ob.dict = none) ∧ (a == sysModules) = false:=by
  rcases d with ⟨kvs,e⟩ | ⟨kvs,e⟩
  · obtain ⟨_,hd,vs,_,dd⟩:=dk_rd I.hok e
    refine ⟨dd.typeIs,fun b q => ?_,hd⟩
    cases q
    obtain ⟨ob,_,_,h1,h2,_⟩:=dd
    exact ⟨ob,h1,h2.2.1⟩
  · obtain ⟨_,hd,xs,_,dd⟩:=dt_rd I.hok e
    refine ⟨dd.typeIs,fun b q => ?_,hd⟩
    cases q
    obtain ⟨ob,_,_,h1,h2,_⟩:=dd
    exact ⟨ob,h1,h2.2.1⟩
section
variable {X:Cx} {pins:List (Addr × Obj)} {σ:St} {H:Hp} {s:Shared} {a:Addr} {y d:V} {u r:Value} {o:Option V} {A:Around} {E:Value → Shared → Prop}
theorem d_get2 {Q:Value → Shared → Prop} (hu:A.units + 1 < cLine) (I:Inv X pins σ H s) (g:DGet H a y o) (ry:RelV y u) (rd:RelV d r) (h:∀ w' s',Inv X pins σ H s' → RelV (o.getD d) w' → Q w' s') :
    wpAny (model X.prog X.w) A (call (.builtin "dict.get") [.ref a,u,r]) Q E s:=by
  rcases g with ⟨kvs,k,e,ey,l⟩ | ⟨kvs,k,b,e,ey,eb,l⟩
  · subst ey
    obtain ⟨z,hd,vs,rel,dd⟩:=dk_rd I.hok e
    refine call_meetsIn PySem.F.slot_dict_get dd.typeIs PySem.F.entry_dict_get (PySem.F.args_dict_get_3 _ _ _) (meets_dict_get_default (mixKind X.prog X.w) a (kV_is ry) hd r) ⟨_,dd.mapOf,h _ _ (I.tok _) ?_⟩
    rw [l]
    exact (rel.val k).getD rd
  · subst ey
    cases (show u = Value.ref b from ry)
    obtain ⟨z,hd,xs,rel,dd⟩:=dt_rd I.hok e
    refine call_meetsIn PySem.F.slot_dict_get dd.typeIs PySem.F.entry_dict_get (PySem.F.args_dict_get_3 _ _ _) (meetsH_dict_get_default (tupleKind (mixKind X.prog X.w)) a b hd r) ⟨tupleKind_room_in1 hu,k,xs,key_of I.hok eb,dd,h _ _ (I.tok _) ?_⟩
    rw [l]
    exact (rel.val k).getD rd
end
noncomputable def tDGet2 (td ty tx:TE):TE:=fun σ H Q => td σ H fun x H1 => ∃ a,x = .ref a ∧ IsD H1 a ∧ ty σ H1 fun y H2 => tx σ H2 fun z H3 => ∃ o,DGet H3 a y o ∧ Q (o.getD z) H3
section
variable {X:Cx} {o e f:Expr} {apos cpos:Pos} {td ty tx:TE}
theorem pe_dget2 (hu:X.A.units + 1 < cLine) (ho:PE X o td) (he:PE X e ty) (hf:PE X f tx) (m:M2 X o "get" apos e f cpos):PE X (.Call (.Attribute o "get" apos) [e,f] [] cpos) (tDGet2 td ty tx):=by
  intro pins s σ H Q I h
  refine wpAny_Call_method m.base m.few m.line PySem.F.plainAttrs_dict PySem.F.slot_dict_get PySem.F.type_dict_get (thn (ho pins s σ H _ I h) fun u s1 ⟨x,H1,I1,rx,a,ex,d,q1⟩ => ?_)
  subst ex
  obtain rfl:u = Value.ref a:=rx
  obtain ⟨t1,t2,_⟩:=isD_at I1 d
  refine ⟨t1,t2,?_⟩
  rw [m.trees]
  refine Calls.callWith_builtin rfl (Calls.evalArgs_plain (Calls.spliced_cons (thn (he pins s1 σ H1 _ I1 q1) fun iv s2 ⟨y,H2,I2,ry,q2⟩ =>
    Calls.spliced_cons (thn (hf pins s2 σ H2 _ I2 q2) fun fv s3 ⟨z,H3,I3,rz,ov,g,q3⟩ => Calls.spliced_nil ?_))))
  exact d_get2 hu I3 g ry rz fun w' s4 I4 rw' => ⟨_,H3,I4,rw',q3⟩
end
section
variable {X:Cx} {pins:List (Addr × Obj)} {σ:St} {H:Hp} {s:Shared} {a:Addr} {kvs:List (Key × V)} {A:Around} {E:Value → Shared → Prop}
end
section
variable {X:Cx} {pins:List (Addr × Obj)} {σ:St} {H:Hp} {s:Shared} {a:Addr} {y:V} {u:Value} {A:Around} {E:Value → Shared → Prop}
end
end L2
namespace Att
open PySem PySem.W PySem.Calls PyProof.Rows
theorem ints_of_wellAll {P:Params} {h:Heap}:∀ (ns:List Int) (vs:List Value),WellAll P h vs (ns.map WData.int) → IntsAre vs ns:=by
  intro ns
  induction ns with
  | nil =>
    intro vs w
    rw [List.map_nil] at w
    cases w
    exact .nil
  | cons n ns ih =>
    intro vs w
    rw [List.map_cons] at w
    cases w with
    | cons a b =>
      cases a
      exact .cons _ _ (ih _ b)
theorem script_of {l:OpenLaw} {n:Nat} (hn:l.most = some n) {P:Params} {h:Heap} {args:List WData} {vals:List Value}
    (hpre:l.row.toRowW.claim.pre args = true) (hwl:WellAll P h vals args) :
    ∃ a vs ns,vals = [Value.ref a] ∧ args = [WData.list (ns.map WData.int)] ∧ h.get? a = some { cls:=.type "list",data:=.seq vs.toArray } ∧ IntsAre vs ns ∧ ns.length ≤ n:=by
  have hsh:WShape.hasAll [] args [.list .int] = true:=(pre_splitW hpre).1
  have hc:l.pre.holds [] { args:=args } = true:=(pre_splitW hpre).2
  obtain ⟨d,r,rfl,h1,h2⟩:=hasAllW_cons hsh
  obtain rfl:=hasAllW_nil h2
  obtain ⟨xs,rfl,h3⟩:=hasW_list h1
  obtain ⟨ns,rfl⟩:=items_int h3
  have hlen:ns.length ≤ n:=by
    unfold OpenLaw.pre at hc
    have h4:(WTm.not (.lt (.lit (.int (n:Int))) (.len (.arg 0)))).holds [] { args:=[.list (ns.map .int)] } = true:=by
      have h4:=(holds_andW hc).1
      rw [hn] at h4
      exact h4
    have h5:=condW_of h4 (w_not (w_lt w_lit (w_len_list (w_arg rfl))))
    rw [List.length_map] at h5
    refine Nat.le_of_not_lt fun q => ?_
    have q':(n:Int) < ((ns.length:Nat):Int):=by omega
    first
      | (rw [decide_eq_true q'] at h5; exact absurd h5 (by decide))
      | (simp at h5; omega)
  cases hwl with
  | cons w1 w2 =>
    cases w2
    cases w1 with
    | list ho hall => exact ⟨_,_,ns,rfl,rfl,ho,ints_of_wellAll ns _ hall,hlen⟩
theorem post_true (l:OpenLaw) (args:List WData):l.row.toRowW.claim.post args (.bool true) args = true :=
  postW_of (r:=l.row.toRowW) (X:=(true == true))
    (show WShape.has [] (.bool true) .bool = true by first | rfl | decide | simp [WShape.has,WShape.arms,WShape.armsAll])
    (show (WTm.eq .res (.lit (.bool true))).value [] { args:=args,res:=some (.bool true),after:=args } = some (.bool (true == true)) from w_eq_bool (w_res rfl) w_lit) rfl
theorem attach_call {l:OpenLaw} {n:Nat} {q:Program} {loose:List Str} {XP:(Str → Option Value) → Heap → Prop} {YP:World → Heap → Prop} {d:DefRec}
    (hn:l.most = some n) (hdf:d.params.defaults = [])
    (call:∀ (w:World) (s₀ s₁:Shared) (mg mb:Str → Option Value) (fa:Addr) (o:Obj) (pm cd doc:Value) (a:Addr) (vs:List Value) (ns:List Int),
      Ground q loose [] XP w s₀ mg mb s₁.heap → YP w s₁.heap →
      s₁.heap.get? fa = some o → o.data = .func (docDef d.name d.params d.body d.scope pm cd doc) → s₁.heap.CodeRec cd d.name → mg d.name = some (.ref fa) →
      s₁.heap.get? a = some { cls:=.type "list",data:=.seq vs.toArray } → IntsAre vs ns → ns.length ≤ n → s₁.gens = #[] →
      codeAny (model l.prog w) callerA (.call (.ref fa) ⟨[.ref a],[]⟩) (fun r s' => r = .ok (.ret (.bool true)) ∧ OldK s₁.heap s'.heap ∧ s'.os = s₁.os ∧ AllBare s'.gens) s₁) :
    WalkO q loose XP YP l.row.toRowW d [] (fun f vs => PySem.call f vs):=by
  intro w s₀ s₁ mg mb G Y fa o pm cd doc dV kV ho hd hcd hD hmg hg args vals as hpre hlay hrd hwl hlo
  obtain rfl:dV = .none:=Dflts.none hD hdf
  obtain rfl:kV = .none:=Dflts.noKw hD
  obtain ⟨a,vs,ns,rfl,rfl,hobj,hints,hlen⟩:=script_of hn hpre hwl
  refine enter_call (codeAny_mono (call w s₀ s₁ mg mb fa o pm cd doc a vs ns G Y ho (fd_plain hd) hcd hmg hobj hints hlen hg) fun r s' hq => ?_)
  obtain ⟨rfl,h2,h3,h4⟩:=hq
  exact ⟨.inl ⟨.bool true,.bool true,[],rfl,fun _ => rfl,.bool true,post_true l _,fun _ => ⟨List.Pairwise.nil,fun _ hm => (nomatch hm)⟩⟩,h2,h3,h4⟩
section
variable {prog:Program} {w:World} {A:Around} {E:Value → Shared → Prop} {s:Shared} {K:Frag}
noncomputable def ledger (h:Heap) (L d:Addr):List (Addr × Obj):=(List.range h.objs.size).filterMap fun a => if a = L ∨ a = d then none else (h.get? a).map fun o => (a,o)
end
end Att
namespace L2
open PySem PySem.Spec PyProof.Rows
theorem vals_ints:∀ {vs:List Value} {ns:List Int},IntsAre vs ns → Vals (ns.map V.int) vs
  | _,_,.nil => .nil
  | _,_,.cons n t h => .cons ⟨t,rfl⟩ (vals_ints h)
noncomputable def Only (H:Hp):Prop:=∀ b,H b = none ∨ ∃ o xs,H b = some (.frz o (.lst xs))
theorem law_call {P:Program} {w:World} {K:PySem.W.Frag} {mg mb:Str → Option Value} {CX:CXT} {k:Nat} {fa a:Addr} {fd:FuncData} {x:Str} {sp:Sp} {s₁:Shared} {vs:List Value} {ns:List Int}
    (KX:K.In s₁.heap) (hns:s₁.heap.Ns mainGlobals mg) (hb:s₁.heap.Ns builtinsNs mb) (hbb:∀ x:Str,x ≠ "__name__" → mb x = bootBuiltins x) (hlim:s₁.heap.NoLimit) (hg:s₁.gens = #[])
    (ha:s₁.heap.get? a = some { cls:=.type "list",data:=.seq vs.toArray }) (hi:IntsAre vs ns) (hl:ns.length ≤ sizeLine) (hr:Room k callerA)
    (F:∀ base:Heap,K.In base → base.Ns mainGlobals mg → FnOk P w K mg base CX k fa fd [x] sp) (hbind:∀ (s:Shared) (u:Value),BindsTo s fd ⟨[u],[]⟩ [(x,u)])
    (hsp:∀ H:Hp,Only H → SqL K H a (ns.map V.int) → sp [.ref a] H (fun v _ => v = .bl true) fun _ _ _ => False)
    (hCX:∀ H e s',CX [] H s₁ (fun _ _ _ => False) e s' → False) :
    codeAny (model P w) callerA (.call (.ref fa) ⟨[.ref a],[]⟩) (fun r s' => r = .ok (.ret (.bool true)) ∧ OldK s₁.heap s'.heap ∧ s'.os = s₁.os ∧ AllBare s'.gens) s₁:=by
  have rv:=vals_ints hi
  have lenV:=hi.length
  have core:∀ H:Hp,Only H → SqL K H a (ns.map V.int) → HOk P w H s₁.heap → (∀ b,H b ≠ none → b = a) → (H a ≠ none → K.lookup a = none) →
      codeAny (model P w) callerA (.call (.ref fa) ⟨[.ref a],[]⟩) (fun r s' => r = .ok (.ret (.bool true)) ∧ OldK s₁.heap s'.heap ∧ s'.os = s₁.os ∧ AllBare s'.gens) s₁:=by
    intro H hO hS hok hA hK
    have base_of:∀ {b:Addr} {o:Obj},s₁.heap.get? b = some o → H b = none → (hidT s₁.heap H).get? b = some o:=fun e n => hidT_get e n
    have noA:∀ {b:Addr} {o:Obj} {es:Array DictEntry} {ep:Nat},s₁.heap.get? b = some o → o.data = .dict es ep → H b = none:=fun {b o es ep} e d => by
      cases q:H b with
      | none => rfl
      | some u =>
        have e':b = a:=hA b (by rw [q]; simp)
        subst e'
        rw [ha] at e; cases e
        have d':Data.seq vs.toArray _ = Data.dict es ep:=d
        cases d'
    have nsK:∀ {b:Addr} {m:Str → Option Value},s₁.heap.Ns b m → (hidT s₁.heap H).Ns b m:=fun {b m} ⟨o,es,ep,e,d,r⟩ => ⟨o,es,ep,base_of e (noA e d),d,r⟩
    have hKb:K.In (hidT s₁.heap H):=fun b o e => base_of (KX b o e) (by
      cases q:H b with
      | none => rfl
      | some u =>
        have e':b = a:=hA b (by rw [q]; simp)
        subst e'
        rw [hK (by rw [q]; simp)] at e; cases e)
    have hM:Mod K mg (hidT s₁.heap H):=⟨hKb,nsK hns,⟨mb,nsK hb,hbb⟩,let ⟨mc,h1,h2⟩:=hlim; ⟨mc,nsK h1,h2⟩⟩
    have e0:Env0 P w K mg (hidT s₁.heap H) callerA [] s₁ H:=⟨rfl,hM,fun b o e => of_hidT e,Nat.le_of_eq (hidT_size _ _),trivial,fun b hb => absurd (show b ∈ ([]:List Addr) from hb) (by simp),hok,.of_eq hg⟩
    refine codeAny_mono ((F _ hKb (nsK hns)).run callerA [] s₁ H ⟨[.ref a],[]⟩ [.ref a] [.ref a] _ _ hr e0 (hbind s₁ (.ref a)) (.cons rfl .nil) (hsp H hO hS)) fun r s' h => ?_
    cases r with
    | error e => exact (hCX H e s' h).elim
    | ok fl =>
      cases fl with
      | next => exact False.elim h
      | brk => exact False.elim h
      | cont => exact False.elim h
      | ret u =>
        obtain ⟨v,H',os,bare,un,hok',r',q⟩:=h
        have q':v = .bl true:=q
        subst q'
        obtain rfl:u = Value.bool true:=r'
        refine ⟨rfl,OldK.of_keep fun b o e => ?_,os,bare⟩
        cases q:H b with
        | none => exact un.keep b o e q (by intro z; exact absurd (show b ∈ ([]:List Addr) from z) (by simp)) (by simp)
        | some u =>
          rcases hO b with z | ⟨ob,xs,z⟩
          · rw [q] at z; cases z
          · have z2:=un.frzs b ob _ z
            obtain ⟨e1,_⟩:=hok b _ z
            obtain ⟨e2,_⟩:=hok' b _ z2
            rw [e] at e1; cases e1
            exact e2
  cases hk:K.lookup a with
  | some o =>
    have e:=KX a o hk
    rw [ha] at e
    cases e
    refine core (fun _ => none) (fun _ => .inl rfl) (.inr ⟨_,vs.toArray,_,hk,rfl,rfl,rfl,by rw [List.size_toArray,lenV]; exact hl,by simpa using rv⟩) (fun b u z => by have z':(none:Option HO) = some u:=z; cases z') (fun b z => absurd rfl z) fun z => absurd rfl z
  | none =>
    refine core (fun b => if b = a then some (.frz { cls:=.type "list",data:=.seq vs.toArray } (.lst (ns.map V.int))) else none) (fun b => ?_) (.inl (.inr ⟨{ cls:=.type "list",data:=.seq vs.toArray },if_pos rfl⟩)) (fun b u z => ?_) (fun b z => ?_) fun _ => hk
    · by_cases hb:b = a
      · exact .inr ⟨_,_,if_pos hb⟩
      · exact .inl (if_neg hb)
    · by_cases hb:b = a
      · have z':=(if_pos hb).symm.trans z
        cases z'
        subst hb
        exact ⟨ha,by rw [List.length_map]; exact hl,vs,_,rv,ha⟩
      · have z':=(if_neg hb).symm.trans z
        cases z'
    · by_cases hb:b = a
      · exact hb
      · exact absurd (if_neg hb) z
end L2
namespace L2
open PySem PySem.Spec PyProof.Rows
noncomputable abbrev KOf {K:PySem.W.Frag} {h:Heap} (_:K.In h):PySem.W.Frag:=K
theorem walk_of {l:PySem.W.OpenLaw} {n k:Nat} {q:Program} {loose:List Str} {XP:(Str → Option Value) → Heap → Prop} {YP:World → Heap → Prop} {d:DefRec} {K:Params → PySem.W.Frag} {CX:World → CXT} {sp:World → Sp} {x:Str}
    (hn:l.most = some n) (hn2:n ≤ sizeLine) (hdf:d.params.defaults = []) (hr:Room k callerA)
    (hY:∀ (w:World) (h:Heap),YP w h → (K w.params).In h)
    (F:∀ (w:World) (mg:Str → Option Value) (fa:Addr) (h:Heap),(K w.params).In h → h.Ns mainGlobals mg → mg d.name = some (.ref fa) →
      ∃ fd:FuncData,(∀ (s:Shared) (u:Value),BindsTo s fd ⟨[u],[]⟩ [(x,u)]) ∧
        ∀ base:Heap,(K w.params).In base → base.Ns mainGlobals mg → FnOk l.prog w (K w.params) mg base (CX w) k fa fd [x] (sp w))
    (hsp:∀ (w:World) (H:Hp) (a:Addr) (ns:List Int),ns.length ≤ n → Only H → SqL (K w.params) H a (ns.map V.int) → sp w [.ref a] H (fun v _ => v = .bl true) fun _ _ _ => False)
    (hCX:∀ (w:World) (H:Hp) (s:Shared) (e:Value) (s':Shared),CX w [] H s (fun _ _ _ => False) e s' → False) :
    PySem.W.WalkO q loose XP YP l.row.toRowW d [] (fun f vs => PySem.call f vs):=by
  refine Att.attach_call hn hdf fun w s₀ s₁ mg mb fa o pm cd doc a vs ns G Y ho hd hcd hmg hobj hints hlen hg => ?_
  have KX:=hY w _ Y
  obtain ⟨fd,hb,hF⟩:=F w mg fa _ KX G.T.g hmg
  exact law_call KX G.T.g G.T.b G.T.builtins G.T.nolimit hg hobj hints (Nat.le_trans hlen hn2) hr hF hb (fun H hO hS => hsp w H a ns hlen hO hS) fun H e s' => hCX w H s₁ e s'
end L2
/- THE LAST THEOREM (shape; LID,My.* are yours):
   My.Adr: a structure of the addresses that your layer names (classes,functions); My.Txt K t: a structure (Prop) of the equations over K;
   My.txt_mk:{K} {implicit addresses ..} (e1:nsIn K mainGlobals "law" = some (some (.ref f))) (e2:K.lookup f = some ⟨oc,od,.func (fnOf "law" "law" params body scope dV kV doc pm an cdv ct),sl⟩) (e3:codeIn K cdv "law" = true) ..:∃ t,My.Txt K t
set_option maxRecDepth 100000 in
set_option maxHeartbeats 0 in
theorem PySem.Challenge.cw_LID_holds : PySem.Challenge.rw_LID.Holds := by
  w_on; o_law; k_head; (case hw => w_witness2)
  k_fill
  refine L2.walk_of (l:=PySem.Challenge.rw_LID) (n:=63) (k:=40) (x:="script") (CX:=fun w => ..) (sp:=fun _ => My.sp_law) rfl (by decide) rfl ⟨rfl,by decide,by decide⟩ (fun w h Y => PySem.W.kIn_of Y) ?F ?S ?C
  case F =>
    intro w mg fa h KX G hmg
    have T:∃ t,My.Txt (L2.KOf KX) t:=by
      dsimp only [L2.KOf]                          -- K must stand as «<heap const> w.params» for k_is
      refine' My.txt_mk ?e1 ?e2 ?e3 ..
      (case e1 => PySem.W.k_is)                    -- in the order: a name -> its address -> its object -> its parts
      (case e2 => PySem.W.k_is)
      ..
    obtain ⟨t,T⟩:=T
    have e0:=hmg.symm.trans (PySem.W.mg_of KX G T.law)
    cases e0                                       -- fa is the law's own address
    exact ⟨_,fun s u => .of_eq rfl,fun base kb nb => My.law_fn T kb nb⟩     -- if «.of_eq rfl» comes too early: refine' ⟨_,?b,fun base kb nb => My.law_fn T kb nb⟩; exact fun s u => .of_eq rfl
  case S => exact fun w H a ns hl hO hS => ..
  case C => exact ..
(the tactic k_is has no namespace: write k_is) -/
namespace L2
open PySem PySem.Spec PyProof.Rows
noncomputable def inClass (s:Stmt) (j:Nat):Stmt:=match s with
  | .ClassDef _ _ _ body _ _ _ _ _ _ _ => body.getD j (.Pass ⟨0,0,0,0⟩)
  | _ => .Pass ⟨0,0,0,0⟩
noncomputable def defArgs (s:Stmt):Arguments:=match s with
  | .FunctionDef _ a _ _ _ _ _ _ _ _ => a
  | _ => { posonlyargs:=[],args:=[],vararg:=none,kwonlyargs:=[],kw_defaults:=[],kwarg:=none,defaults:=[] }
noncomputable def defBody (s:Stmt):List Stmt:=match s with
  | .FunctionDef _ _ b _ _ _ _ _ _ _ => b
  | _ => []
noncomputable def defScope (s:Stmt):Scope:=match s with
  | .FunctionDef _ _ _ _ _ _ sc _ _ _ => sc
  | _ => { kind:=.function,names:=[],isGenerator:=false,isCoroutine:=false }
noncomputable abbrev CX0:CXT:=fun _ _ _ _ _ _ => False
noncomputable abbrev E0:XK:=fun _ _ _ => False
theorem pass0 {X:Cx}:Passes CX0 X E0:=fun _ _ _ _ _ _ _ h => h.elim
structure Fun (K:PySem.W.Frag) (x qual:Str) (st:Stmt) (f:Addr) (fd:FuncData):Prop where
  ex:∃ (oc:Value) (od:Option Addr) (kV doc pm:Value) (an:Option Addr) (cdv ct:Value) (osl:Array (Option Value)),
    fd = PySem.W.fnOf x qual (defArgs st) (defBody st) (defScope st) .none kV doc pm an cdv ct ∧ K.lookup f = some ⟨oc,od,.func fd,osl⟩ ∧ PySem.W.codeIn K cdv qual = true
  kp:PySem.W.keepIn K (.ref f) = true
section
variable {P:Program} {w:World} {K:PySem.W.Frag} {mg:Str → Option Value} {base:Heap}
theorem Fun.ok {x qual:Str} {st:Stmt} {f:Addr} {fd:FuncData} {N ps:List Str} {k:Nat} {sp:Sp} (F:Fun K x qual st f fd) (S:FnScope N ps (defScope st)) (len:∀ vs H Q E,sp vs H Q E → vs.length = ps.length)
    (hbody:∀ (cdv:Value) (A:Around) (outer:List Env) (s:Shared) (H:Hp) (vs:List V) (Q:VK) (E:XK),Room k (A.deeper (envOfC qual (defScope st) s.heap.objs.size f cdv)) → sp vs H Q E →
      ∃ t,PSs (cxOf CX0 P w K mg base N qual (defScope st) f cdv A outer s H E).nox (defBody st) t ∧ t { nx:=fun _ H' => Q .non H',rt:=Q } (start N vs) H):FnOk P w K mg base CX0 (k + 1) f fd ps sp:=by
  obtain ⟨oc,od,kV,doc,pm,an,cdv,ct,osl,rfl,lk,hcd⟩:=F.ex
  refine fn_of lk hcd S len fun A outer s H vs Q E hr hsp => ?_
  obtain ⟨t,h,q⟩:=hbody cdv A outer s H vs Q E hr hsp
  exact ⟨t,h.nox,q⟩
theorem Fun.binds {x qual:Str} {st:Stmt} {f:Addr} {fd:FuncData} {ps:List Str} (F:Fun K x qual st f fd)
    (h:∀ (kV doc pm:Value) (an:Option Addr) (cdv ct:Value) (us:List Value),us.length = ps.length → bindArgs (PySem.W.fnOf x qual (defArgs st) (defBody st) (defScope st) .none kV doc pm an cdv ct) ⟨us,[]⟩ = pure (ps.zip us)):Binds K fd ps []:=by
  obtain ⟨oc,od,kV,doc,pm,an,cdv,ct,osl,rfl,lk,hcd⟩:=F.ex
  exact .all (h kV doc pm an cdv ct)
theorem fun_mk {x qual:Str} {st:Stmt} {f:Addr} {oc:Value} {od an:Option Addr} {osl:Array (Option Value)} {kV doc pm cdv ct:Value} (l:K.lookup f = some ⟨oc,od,.func (PySem.W.fnOf x qual (defArgs st) (defBody st) (defScope st) .none kV doc pm an cdv ct),osl⟩)
    (c:PySem.W.codeIn K cdv qual = true) (k:PySem.W.keepIn K (.ref f) = true):Fun K x qual st f (PySem.W.fnOf x qual (defArgs st) (defBody st) (defScope st) .none kV doc pm an cdv ct):=⟨⟨oc,od,kV,doc,pm,an,cdv,ct,osl,rfl,l,c⟩,k⟩
end
theorem hu_of {A:Around} {k:Nat} (hr:Room k A):A.units + 1 < cLine:=Nat.lt_of_le_of_lt (Nat.add_le_add_left (by decide:1 ≤ 64) _) hr.units
theorem small1000 {n:Nat} (h:n ≤ 1000):n < sizeLine:=Nat.lt_of_le_of_lt h (by decide)
section
variable {X:Cx}
theorem pv (i:Nat) {x:Str} {pos:Pos} (hN:X.N[i]? = some x:=by rfl) (hv:Vis X.env.scope x:=by first | exact Or.inl rfl | exact Or.inr (Or.inl rfl) | exact Or.inr (Or.inr rfl)) (hd:(x == ("__debug__":Str)) = false:=by decide)
    (hcd:(x == ("__classdict__":Str)) = false:=by decide):PE X (.Name x pos) (tVar i):=pe_var hN hv hd hcd
end
theorem iteF {A B:Prop} (h:B):if false = true then A else B:=by
  rw [if_neg Bool.false_ne_true]
  exact h
theorem iteT {A B:Prop} (h:A):if true = true then A else B:=by
  rw [if_pos rfl]
  exact h
theorem ite2 {c A B:Prop} [Decidable c] (h1:c → A) (h2:¬ c → B):if c then A else B:=by
  by_cases h:c
  · rw [if_pos h]
    exact h1 h
  · rw [if_neg h]
    exact h2 h
noncomputable def Same (H H':Hp):Prop:=∀ b o,H b = some o → H' b = some o
theorem Same.refl (H:Hp):Same H H:=fun _ _ h => h
theorem Same.trans {H H1 H2:Hp} (a:Same H H1) (b:Same H1 H2):Same H H2:=fun c o h => b c o (a c o h)
theorem Same.free {H H':Hp} (e:Same H H') {l:Addr} (h:H' l = Option.none):H l = Option.none:=by
  cases q:H l with
  | none => rfl
  | some o =>
    rw [e l o q] at h
    cases h
theorem Same.seq {K:PySem.W.Frag} {H H':Hp} {a:Addr} {xs:List V} (e:Same H H') (h:SqL K H a xs):SqL K H' a xs:=by
  rcases h with (h | ⟨o,h⟩) | h
  · exact .inl (.inl (e _ _ h))
  · exact .inl (.inr ⟨o,e _ _ h⟩)
  · exact .inr h
end L2
namespace L2
open PySem PySem.Spec PyProof.Rows
section
variable {X:Cx}
end
end L2
namespace L2
open PySem PySem.Spec PyProof.Rows
section
variable {κ:Type} [DecidableEq κ]
end
end L2
namespace L2
open PySem PySem.Spec PyProof.Rows
section
variable {X:Cx} {tg:Expr}
end
noncomputable abbrev blk (X:Cx) (N':List Str) (sc:Scope) (cl:List (Str × Addr)) (s₀:Shared) (H₀:Hp) (C:Addr) (ex:List Addr):Cx :=
  { X with N:=N',s₀:=s₀,H₀:=H₀,env:=compEnvC sc cl C X.env,outer:=X.stack,ex:=ex,fn:=fun _ => false,xe:=fun _ _ => False }
structure BlkSc (X:Cx) (caps:List Str) (sc:Scope) (cl:List (Str × Addr)):Prop where
  kind:sc.kind = .function
  nocell:∀ y ∈ sc.names,y.2 ≠ .cell
  names:∀ y ∈ sc.names,y.2 = .local → sc.names.lookup y.1 = some .local
  clos:closureFor sc X.env = pure cl
  has:(sc.names.all fun y => y.2 != .free || (cl.lookup y.1).isSome) = true
  sub:∀ y ∈ cl,X.env.cells.lookup y.1 = some y.2
  caps:∀ x ∈ caps,(X.env.kindOf x = some .cell ∨ X.env.kindOf x = some .free) ∧ (cl.lookup x).isSome = true ∧ ((relabel sc X.env).names.lookup x = some .cell ∨ (relabel sc X.env).names.lookup x = some .free)
theorem relabel_inv {env:Env}:∀ {names:List (Str × NameKind)} {x:Str} {k:NameKind},(names.map fun (n,k) => if (k == NameKind.free && env.scope.kind == .function && env.kindOf n == some .cell) then (n,NameKind.cell) else (n,k)).lookup x = some k →
    ∃ k',(x,k') ∈ names ∧ (k' = k ∨ k' = .free)
  | [],_,_,h => by simp at h
  | (n,k0) :: r,x,k,h => by
    have h':List.lookup x ((if (k0 == NameKind.free && env.scope.kind == .function && env.kindOf n == some .cell) = true then (n,NameKind.cell) else (n,k0)) :: (r.map fun (n,k) => if (k == NameKind.free && env.scope.kind == .function && env.kindOf n == some .cell) then (n,NameKind.cell) else (n,k))) = some k:=h
    by_cases hx:x = n
    · subst hx
      refine ⟨k0,List.mem_cons_self,?_⟩
      by_cases hc:(k0 == NameKind.free && env.scope.kind == .function && env.kindOf x == some .cell) = true
      · have hf:(k0 == NameKind.free) = true:=by
          rw [Bool.and_eq_true,Bool.and_eq_true] at hc
          exact hc.1.1
        exact .inr (by cases k0 <;> first | rfl | exact absurd hf (by decide))
      · rw [if_neg hc,List.lookup_cons_self] at h'
        exact .inl (Option.some.inj h')
    · have hb:(x == n) = false:=beq_eq_false_iff_ne.mpr hx
      have h2:(r.map fun (n,k) => if (k == NameKind.free && env.scope.kind == .function && env.kindOf n == some .cell) then (n,NameKind.cell) else (n,k)).lookup x = some k:=by
        split at h' <;> simpa [List.lookup_cons,hb] using h'
      obtain ⟨k',hm,hk⟩:=relabel_inv h2
      exact ⟨k',List.mem_cons_of_mem _ hm,hk⟩
theorem BlkSc.hasc {X:Cx} {caps:List Str} {sc:Scope} {cl:List (Str × Addr)} (S:BlkSc X caps sc cl) {x:Str} (h:(relabel sc X.env).names.lookup x = some .cell ∨ (relabel sc X.env).names.lookup x = some .free):∃ c,cl.lookup x = some c:=by
  have key:(x,NameKind.free) ∈ sc.names:=by
    rcases h with h | h
    · obtain ⟨k',hm,hk⟩:=relabel_inv h
      rcases hk with rfl | rfl
      · exact absurd rfl (S.nocell _ hm)
      · exact hm
    · obtain ⟨k',hm,hk⟩:=relabel_inv h
      rcases hk with rfl | rfl <;> exact hm
  have q:=List.all_eq_true.mp S.has _ key
  have q2:(cl.lookup x).isSome = true:=by simpa using q
  exact Option.isSome_iff_exists.mp q2
theorem BlkSc.subc {X:Cx} {caps:List Str} {sc:Scope} {cl:List (Str × Addr)} (S:BlkSc X caps sc cl) {x:Str} {c:Addr} (h:cl.lookup x = some c):X.env.cells.lookup x = some c:=S.sub _ (PySem.mem_of_lookup h)
noncomputable def blkSt (n:Nat) (κ:List Nat) (σ:St):St:=List.replicate n none ++ κ.map fun k => (σ[k]?).join
noncomputable def CompRun (n:Nat) (κ:List Nat) (g:TG) (tc:TT) (te:TE) (σ:St) (J:It) (H1:Hp) (Q:VK):Prop :=
  ∃ W:Nat → Nat → List V → Hp → Prop,(∃ m,W 0 m [] H1) ∧ ∀ i m ys H2,W i m ys H2 →
    (J.stop i H2 ∧ ∀ D,H2 D = none → Q (.ref D) (upd H2 D (.lst ys))) ∨
    (J.go i H2 ∧ ys.length < sizeLine ∧ ∀ x H3,J.yld i H2 x H3 → g x (blkSt n κ σ) H3 fun σ4 H4 => σ4.drop n = (blkSt n κ σ).drop n ∧
      tc σ4 H4 fun b H5 => if b = true then te σ4 H5 fun v H6 => ∃ m',m' < m ∧ W (i + 1) m' (ys ++ [v]) H6 else ∃ m',m' < m ∧ W (i + 1) m' ys H5)
noncomputable def tComp (n:Nat) (κ:List Nat) (wi:TI) (g:TG) (tc:TT) (te:TE):TE:=fun σ H Q => wi σ H fun J H1 => CompRun n κ g tc te σ J H1 Q
noncomputable def tYes:TT:=fun _ H Q => Q true H
theorem tYes_go {σ:St} {H:Hp} {A B:Hp → Prop} (h:A H):tYes σ H fun b H5 => if b = true then A H5 else B H5:=by
  show (if true = true then A H else B H)
  rw [if_pos rfl]
  exact h
section
variable {X:Cx} {pins:List (Addr × Obj)} {σ:St} {H:Hp} {s:Shared}
theorem Inv.block {caps:List Str} {own:List Str} {κ:List Nat} {sc:Scope} {cl:List (Str × Addr)} {fp:List Addr} {h₁:Heap} {tk:Nat} (S:BlkSc X caps sc cl) (hκ:κ.map (fun k => X.N[k]?) = caps.map some) (I:Inv X pins σ H s)
    (f2:∀ b ∈ fp,FpOk X pins H b) (hfp:∀ b ∈ fp,b < s.heap.objs.size)
    {hp:Heap} {ol:Obj} (ehp:hp = s.heap.push ol) (hns:h₁.Ns hp.objs.size fun _ => none) (old:∀ b o,hp.get? b = some o → h₁.get? b = some o) :
    Inv (blk X (own ++ caps) sc cl { s with heap:=hp } H hp.objs.size (s.heap.objs.size :: fp)) pins (blkSt own.length κ σ) H { s with heap:=h₁,toks:=tk }:=by
  have hsz:hp.objs.size = s.heap.objs.size + 1:=by rw [ehp,Heap.size_push]
  have up:∀ b o,s.heap.get? b = some o → hp.get? b = some o:=fun b o e => by rw [ehp]; exact Heap.get?_push_of_some _ e
  have I3:Inv X pins σ H { s with heap:=hp }:=I.kept (t':=s.toks) up
  have stk:∀ b,b ≠ X.env.locals → b ∉ X.fs → b ∉ frs X.stack:=fun b h1 h2 z => (List.mem_cons.mp (I.stkSub b z)).elim h1 h2
  have dD:s.heap.objs.size ≠ X.env.locals:=Nat.ne_of_gt I.lt
  have cellLt:∀ x c,X.env.cells.lookup x = some c → c < s.heap.objs.size:=fun x c e => by
    obtain ⟨v,q⟩:=I.cell x c e
    exact q.lt
  have ltC:∀ b,b < s.heap.objs.size → b ≠ hp.objs.size:=fun b hb => by rw [hsz]; exact Nat.ne_of_lt (Nat.lt_succ_of_lt hb)
  have cellK:∀ c v,s.heap.IsCell c v → h₁.IsCell c v:=fun c v ⟨o,ho,hd⟩ => ⟨o,old _ _ (up _ _ ho),hd⟩
  refine ⟨⟨I.ok.mod,?_,I.ok.glob,I.ok.blt,Nat.le_refl _,fun x y c h1 h2 => I.ok.inj x y c (S.subc h1) (S.subc h2),fun x h => S.hasc h,fun _ _ z => absurd z Bool.false_ne_true,I.ok.hd,I.ok.frames,.inl rfl,fun b hb => ?_,fun b o e => ⟨up _ _ (I.bs b o e).1,(I.bs b o e).2⟩,
      Nat.le_trans (Nat.le_trans I.ok.bsz I.sz) (by show s.heap.objs.size ≤ hp.objs.size; rw [hsz]; exact Nat.le_succ _),fun b o e hb => ?_,fun b hb => ?_,I3.stack,I.stkFree⟩,
    rfl,I.bare,Un.kept old,⟨_,hns,fun i x v e1 e2 e3 => ?_⟩,fun x c h => ?_,I.hok.fresh (by rw [hsz]; exact Nat.le_succ _),fun x c h => I.freeC x c (S.subc h),fun p hp' => ?_,I.hok.kept fun b u e => old _ _ (up _ _ e),?_⟩
  · show (relabel sc X.env).kind = .function
    exact S.kind
  · show b ≠ hp.objs.size ∧ ∀ x c,cl.lookup x = some c → c ≠ b
    rcases List.mem_cons.mp hb with rfl | hb
    · exact ⟨by rw [hsz]; exact Nat.ne_of_lt (Nat.lt_succ_self _),fun x c h => Nat.ne_of_lt (cellLt x c (S.subc h))⟩
    · exact ⟨ltC b (hfp b hb),fun x c h => (f2 b hb).2.2.2.2.1 x c (S.subc h)⟩
  · have hlt:b < X.s₀.heap.objs.size:=Nat.lt_of_lt_of_le (Heap.lt_size e) I.ok.bsz
    rcases List.mem_cons.mp hb with rfl | hb
    · exact absurd (Nat.lt_of_lt_of_le hlt I.sz) (Nat.lt_irrefl _)
    · rcases (f2 b hb).2.2.2.1 with z | z
      · exact I.ok.noex b o e z
      · exact absurd (Nat.lt_of_lt_of_le hlt z) (Nat.lt_irrefl _)
  · rcases List.mem_cons.mp hb with rfl | hb
    · exact stk _ dD (I.nofs (Nat.le_refl _))
    · exact stk _ (f2 b hb).2.1 (f2 b hb).2.2.1
  · have e1':(own ++ caps)[i]? = some x:=e1
    have hlen:(List.replicate own.length (none:Option V)).length = own.length:=List.length_replicate
    have hge:own.length ≤ i:=by
      refine Nat.le_of_not_lt fun hlt => ?_
      unfold blkSt at e2
      rw [List.getElem?_append_left (by rw [hlen]; exact hlt),List.getElem?_replicate,if_pos hlt] at e2
      cases e2
    unfold blkSt at e2
    rw [List.getElem?_append_right (by rw [hlen]; exact hge),hlen,List.getElem?_map] at e2
    rw [List.getElem?_append_right hge] at e1'
    cases ek:κ[i - own.length]? with
    | none => rw [ek] at e2; cases e2
    | some k =>
      rw [ek] at e2
      have e2':(σ[k]?).join = some v:=Option.some.inj e2
      have e4:σ[k]? = some (some v):=by
        cases eσ:σ[k]? with
        | none => rw [eσ] at e2'; cases e2'
        | some w => rw [eσ] at e2'; exact congrArg some e2'
      have e5:X.N[k]? = some x:=by
        have z:=congrArg (fun l => l[i - own.length]?) hκ
        simp only [List.getElem?_map,ek,e1',Option.map_some] at z
        exact Option.some.inj z
      obtain ⟨c1,c2,c3⟩:=S.caps x (List.mem_of_getElem? e1')
      obtain ⟨m,hn,hl⟩:=I.loc
      obtain ⟨u,r,l⟩:=hl k x v e5 e4 (c1.elim (fun z => .inr (.inl z)) fun z => .inr (.inr z))
      refine ⟨u,r,?_⟩
      rcases l with ⟨hk,_⟩ | ⟨_,c,hc,hcell⟩
      · rcases c1 with z | z <;> (rw [hk] at z; cases z)
      · obtain ⟨c',hc'⟩:=Option.isSome_iff_exists.mp c2
        have ecc:c' = c:=Option.some.inj ((S.subc hc').symm.trans hc)
        subst ecc
        exact .inr ⟨c3,c',hc',cellK _ _ hcell⟩
  · obtain ⟨v,q⟩:=I.cell x c (S.subc h)
    exact ⟨v,cellK c v q⟩
  · obtain ⟨e,n,ne,nf,d⟩:=I.pin p hp'
    exact ⟨old _ _ (up _ _ e),n,ltC _ (Heap.lt_size e),stk _ ne nf,d⟩
  · show (blkSt own.length κ σ).length = (own ++ caps).length
    have z:=congrArg List.length hκ
    rw [List.length_map,List.length_map] at z
    unfold blkSt
    rw [List.length_append,List.length_append,List.length_replicate,List.length_map,z]
theorem Inv.unblock {own caps:List Str} {sc:Scope} {cl:List (Str × Addr)} {fp:List Addr} {H':Hp} {s4:Shared} {σ':St} {pins':List (Addr × Obj)} {hp h':Heap} {ol:Obj} {ys:List V} {its:List Value} {cap:Nat} (I:Inv X pins σ H s)
    (f2:∀ b ∈ fp,FpOk X pins H b) (ehp:hp = s.heap.push ol)
    (J:Inv (blk X (own ++ caps) sc cl { s with heap:=hp } H hp.objs.size (s.heap.objs.size :: fp)) pins' σ' H' s4)
    (hD:s4.heap.get? s.heap.objs.size = some { cls:=.type "list",data:=.seq its.toArray cap }) (nD:H' s.heap.objs.size = none) (r:Vals ys its) (hz:ys.length ≤ sizeLine) (sb:Heap.SameBut hp.objs.size s4.heap h') :
    Inv X pins σ (upd H' s.heap.objs.size (.lst ys)) { s4 with heap:=h' }:=by
  have hsz:hp.objs.size = s.heap.objs.size + 1:=by rw [ehp,Heap.size_push]
  have up:∀ b o,s.heap.get? b = some o → hp.get? b = some o:=fun b o e => by rw [ehp]; exact Heap.get?_push_of_some _ e
  have nDs:H s.heap.objs.size = none:=I.hok.fresh (Nat.le_refl _)
  have neD:∀ b o,s.heap.get? b = some o → b ≠ s.heap.objs.size:=fun b o e => Nat.ne_of_lt (Heap.lt_size e)
  have neC:∀ b o,s.heap.get? b = some o → b ≠ hp.objs.size:=fun b o e => by rw [hsz]; exact Nat.ne_of_lt (Nat.lt_succ_of_lt (Heap.lt_size e))
  have nex:∀ b o,s.heap.get? b = some o → b ∉ fp → b ∉ s.heap.objs.size :: fp:=fun b o e hb z => (List.mem_cons.mp z).elim (neD b o e) hb
  have u:=J.base
  have hDC:s.heap.objs.size ≠ hp.objs.size:=by rw [hsz]; exact Nat.ne_of_lt (Nat.lt_succ_self _)
  have eD:h'.get? s.heap.objs.size = some { cls:=.type "list",data:=.seq its.toArray cap }:=(sb.2 _ hDC).trans hD
  refine I.call' (ch:=fp) J.os ⟨fun b o e n hb hx => ?_,fun b o e n hb hx => ?_,fun b o e n hx => ?_,fun b o e hx => ?_,fun b xs e => ?_,fun b o x e => ?_,fun b ps e => ?_⟩ (fun b o e => ?_) J.bare fun b hb => ?_
  · exact (sb.2 b (neC b o e)).trans (u.keep b o (up _ _ e) n hb (nex b o e hx))
  · obtain ⟨sl,q⟩:=u.slot b o (up _ _ e) n hb (nex b o e hx)
    exact ⟨sl,(sb.2 b (neC b o e)).trans q⟩
  · rw [upd_ne (neD b o e)]
    exact u.free b o (up _ _ e) n (nex b o e hx)
  · obtain ⟨o',q⟩:=u.there b o (up _ _ e) (nex b o e hx)
    exact ⟨o',(sb.2 b (neC b o e)).trans q⟩
  · rw [upd_ne (ne_of_none e nDs)]
    exact u.tups b xs e
  · rw [upd_ne (ne_of_none e nDs)]
    exact u.frzs b o x e
  · rw [upd_ne (ne_of_none e nDs)]
    exact u.tbls b ps e
  · by_cases hb:b = s.heap.objs.size
    · subst hb
      rw [upd_same] at e
      cases e
      exact ⟨hz,its,cap,r,eD⟩
    · rw [upd_ne hb] at e
      have nC:∀ c w,H' c = some w → c ≠ hp.objs.size:=fun c w q => ne_of_none q J.free
      refine (J.hok b o e).stay (fun c v hc q => (sb.2 c ?_).trans q) (fun c q => by rw [upd_ne (ne_of_none q nD)]; exact q) fun c xs q => by rw [upd_ne (ne_of_none q nD)]; exact q
      rcases hc with rfl | hc
      · exact nC c o e
      · exact nC c _ hc
  · obtain ⟨_,f1,_,f3,f4,f5⟩:=f2 b hb
    exact ⟨f3,f1,f4,f5⟩
end
section
variable {X:Cx}
theorem pe_compG {tg elt iter:Expr} {ifs:List Expr} {own caps:List Str} {κ:List Nat} {sc:Scope} {cl:List (Str × Addr)} {pos:Pos} {wi:TI} {g:TG} {tc:TT} {te:TE} (hcalm:X.calm = true) (S:BlkSc X caps sc cl) (hκ:κ.map (fun k => X.N[k]?) = caps.map some)
    (hi:PI X tg iter wi) (hg:∀ s₀ H₀ C ex,PG (blk X (own ++ caps) sc cl s₀ H₀ C ex) tg g)
    (hc:∀ s₀ H₀ C ex (pins:List (Addr × Obj)) (s:Shared) (σ:St) (H:Hp) (Q:Bool → Hp → Prop),Inv (blk X (own ++ caps) sc cl s₀ H₀ C ex) pins σ H s → tc σ H Q →
      wpAny (model X.prog X.w) X.A (forIn ifs true fun c r => if r = true then do let ok ← isTrue c (compEnvC sc cl C X.env) (eval c (compEnvC sc cl C X.env)); pure (ForInStep.yield ok) else pure (ForInStep.yield r)) (TP (blk X (own ++ caps) sc cl s₀ H₀ C ex) pins σ Q) (fun _ _ => False) s)
    (he:∀ s₀ H₀ C ex,PE (blk X (own ++ caps) sc cl s₀ H₀ C ex) elt te)
    (hs:∀ x,foldedSetIterable iter X.env x = pure x:=by intro _; rfl):PE X (.ListComp elt [⟨tg,iter,ifs,0⟩] sc pos) (tComp own.length κ wi g tc te):=by
  intro pins s σ H Q I h
  rw [eval_ListComp]
  refine wpAny_comprehension_free (use:=none) rfl hs S.clos S.kind S.names (thn (hi pins s σ H _ I h) fun v s1 h1 => thn h1 fun itv s2 h2 => ?_)
  obtain ⟨it,fp,tn,J,H2,e,I2,T,st2,f2,W,⟨m0,w0⟩,turn⟩:=h2
  subst e
  have hfp:∀ b ∈ fp,b < s2.heap.objs.size:=fun b hb => by
    obtain ⟨o,e,_⟩:=T.obj _ _ st2 b hb
    exact Heap.lt_size e
  refine wpAny_newObj_type (wpAny_newFunctionEnv S.nocell (fun y hy => nomatch hy) (fun h₁ hns hsb => ?_) S.kind)
  generalize ehp:s2.heap.push { cls:=.type "list",dict:=none,data:=.seq ([]:List Value).toArray } = hp at hns hsb ⊢
  have hsz:hp.objs.size = s2.heap.objs.size + 1:=by rw [← ehp,Heap.size_push]
  have hDC:s2.heap.objs.size ≠ hp.objs.size:=by rw [hsz]; exact Nat.ne_of_lt (Nat.lt_succ_self _)
  have old:∀ b o,hp.get? b = some o → h₁.get? b = some o:=fun b o e => (hsb.2 b (Nat.ne_of_lt (Heap.lt_size e))).trans (Heap.get?_push_of_some _ e)
  have eD:h₁.get? s2.heap.objs.size = some { cls:=.type "list",data:=.seq ([]:List Value).toArray }:=old _ _ (by rw [← ehp]; exact Heap.get?_push_size _ rfl)
  have I0:=Inv.block (own:=own) (h₁:=h₁) (tk:=s2.toks + ([]:List (Str × Value)).length) S hκ I2 f2 hfp ehp.symm hns old
  have stkD:s2.heap.objs.size ∉ frs X.stack:=fun z => (List.mem_cons.mp (I2.stkSub _ z)).elim (Nat.ne_of_gt I2.lt) (I2.nofs (Nat.le_refl _))
  have cellD:∀ x c,cl.lookup x = some c → c ≠ s2.heap.objs.size:=fun x c q => by
    obtain ⟨v,z⟩:=I2.cell x c (S.subc q)
    exact Nat.ne_of_lt z.lt
  have pinD:∀ p ∈ X.pn ++ pins,p.1 ≠ s2.heap.objs.size:=fun p hp => Nat.ne_of_lt (Heap.lt_size (I2.pin p hp).1)
  have stkF:∀ b ∈ fp,b ∉ frs X.stack:=fun b hb z => (List.mem_cons.mp (I2.stkSub _ z)).elim (f2 b hb).2.1 (f2 b hb).2.2.1
  have loop:codeAny (model X.prog X.w) X.A (.compLoop (.ListComp elt [⟨tg,iter,ifs,0⟩] sc pos) 0 (.ref it) (.ref s2.heap.objs.size) (compEnvC sc cl hp.objs.size X.env))
      (compPost (model X.prog X.w) X.A X.xe none (EP X pins σ Q) (.ref s2.heap.objs.size) hp.objs.size) { s2 with heap:=h₁,toks:=s2.toks + ([]:List (Str × Value)).length }:=by
    refine codeAny_loop rfl (fun n s' => ∃ (i:Nat) (ys:List V) (its:List Value) (cap:Nat) (H':Hp),Inv (blk X (own ++ caps) sc cl { s2 with heap:=hp } H2 hp.objs.size (s2.heap.objs.size :: fp)) pins (blkSt own.length κ σ) H' s' ∧ tn i s'.heap ∧ (∀ b ∈ fp,H' b = none) ∧
      s'.heap.get? s2.heap.objs.size = some { cls:=.type "list",data:=.seq its.toArray cap } ∧ H' s2.heap.objs.size = none ∧ Vals ys its ∧ ys.length ≤ sizeLine ∧ W i n ys H') (fun n s3 hI => ?_) m0
      ⟨0,[],[],0,H2,I0,T.keep _ _ _ st2 fun b hb o e => old _ _ (by rw [← ehp]; exact Heap.get?_push_of_some _ e),fun b hb => (f2 b hb).1,eD,I2.hok.fresh (Nat.le_refl _),.nil,Nat.zero_le _,w0⟩
    obtain ⟨i,ys,its,cap,H3,I3,st3,fr3,eD3,nD3,rv,hz,w3⟩:=hI
    show wpAny _ X.A ((compTurn (.ListComp elt [⟨tg,iter,ifs,0⟩] sc pos) 0 (.ref it) (.ref s2.heap.objs.size) (compEnvC sc cl hp.objs.size X.env)).onRaise fun x => do noteFrame x (compEnvC sc cl hp.objs.size X.env); theTreesLotGoes x) _ _ s3
    refine wpAny_noted ?_
    rw [compTurn_list]
    have I3':Inv (blk X (own ++ caps) sc cl { s2 with heap:=hp } H2 hp.objs.size (s2.heap.objs.size :: fp)) (pins ++ [(s2.heap.objs.size,{ cls:=.type "list",data:=.seq its.toArray cap })]) (blkSt own.length κ σ) H3 s3:=by
      refine I3.pins_of fun p hp => (List.mem_append.mp hp).elim (fun z => I3.pin p (List.mem_append_right _ z)) fun z => ?_
      obtain rfl:=List.mem_singleton.mp z
      exact ⟨eD3,nD3,hDC,stkD,fun v q => by cases q⟩
    have fpk:∀ {H':Hp},(∀ b ∈ fp,H' b = none) → ∀ b ∈ fp,FpOk (blk X (own ++ caps) sc cl { s2 with heap:=hp } H2 hp.objs.size (s2.heap.objs.size :: fp)) (pins ++ [(s2.heap.objs.size,{ cls:=.type "list",data:=.seq its.toArray cap })]) H' b:=fun {H'} hn b hb =>
      ⟨hn b hb,by show b ≠ hp.objs.size; rw [hsz]; exact Nat.ne_of_lt (Nat.lt_succ_of_lt (hfp b hb)),stkF b hb,.inl (List.mem_cons_of_mem _ hb),fun x c q => (f2 b hb).2.2.2.2.1 x c (S.subc q),fun p hp => by
        rw [← List.append_assoc] at hp
        rcases List.mem_append.mp hp with z | z
        · exact (f2 b hb).2.2.2.2.2 p z
        · obtain rfl:=List.mem_singleton.mp z
          exact Nat.ne_of_gt (hfp b hb)⟩
    rcases turn i n ys H3 w3 with ⟨stop,fin⟩ | ⟨go,hlt,step⟩
    · refine wpAny_bind (wpAny_standAt (wpAny_bind (thn (T.done (blk X (own ++ caps) sc cl { s2 with heap:=hp } H2 hp.objs.size (s2.heap.objs.size :: fp)) rfl rfl rfl hcalm i _ s3 _ H3 _ I3' (fpk fr3) st3 stop) fun r s4 ⟨hr,I4⟩ => ?_)))
      subst hr
      refine wpAny_pure ?_
      obtain ⟨m,hm,_⟩:=I4.loc
      refine ⟨m,hm,fun h' sb => ?_⟩
      have eD4:=(I4.pin (s2.heap.objs.size,{ cls:=.type "list",data:=.seq its.toArray cap }) (List.mem_append_right _ (List.mem_append_right _ (List.mem_singleton.mpr rfl)))).1
      exact ⟨.ref s2.heap.objs.size,_,Inv.unblock I2 f2 ehp.symm I4 eD4 nD3 rv hz sb,rfl,fin _ nD3⟩
    · refine wpAny_bind (wpAny_standAt (wpAny_bind (thn (T.item (blk X (own ++ caps) sc cl { s2 with heap:=hp } H2 hp.objs.size (s2.heap.objs.size :: fp)) rfl rfl rfl hcalm i _ s3 _ H3 _ I3' (fpk fr3) st3 go) fun r s4 ⟨u,hr,h4⟩ => ?_)))
      subst hr
      refine wpAny_bind (thn h4 fun _ s5 ⟨x,H5,I5,r5,y5,st5,fr5⟩ => ?_)
      have I5':=I5.pinned (fpk fr5) (T.obj _ _ st5)
      refine wpAny_bind (wpAny_mono (hg _ _ _ _ _ s5 _ H5 x u _ I5' r5 (step x H5 y5)) (fun _ s6 ⟨σ6,H6,I6,eσ,q6⟩ => ?_) fun _ _ z => z.elim)
      refine wpAny_bind (wpAny_mono (hc _ _ _ _ _ s6 σ6 H6 _ I6 q6) (fun ok s7 ⟨H7,I7,q7⟩ => ?_) fun _ _ z => z.elim)
      have back:∀ {s8:Shared} {H8:Hp},Inv (blk X (own ++ caps) sc cl { s2 with heap:=hp } H2 hp.objs.size (s2.heap.objs.size :: fp)) ((pins ++ [(s2.heap.objs.size,{ cls:=.type "list",data:=.seq its.toArray cap })]) ++ pinsAt fp s5.heap) σ6 H8 s8 →
          Inv (blk X (own ++ caps) sc cl { s2 with heap:=hp } H2 hp.objs.size (s2.heap.objs.size :: fp)) pins (blkSt own.length κ σ) H8 s8 ∧ tn (i + 1) s8.heap ∧ (∀ b ∈ fp,H8 b = none) ∧ s8.heap.get? s2.heap.objs.size = some { cls:=.type "list",data:=.seq its.toArray cap } ∧ H8 s2.heap.objs.size = none:=by
        intro s8 H8 I8
        have pk:∀ b ∈ fp,∀ o,s5.heap.get? b = some o → s8.heap.get? b = some o ∧ H8 b = none:=fun b hb o e => by
          have z:=I8.pin (b,o) (List.mem_append_right _ (List.mem_append_right _ (mem_pinsAt hb e)))
          exact ⟨z.1,z.2.1⟩
        have zD:=I8.pin (s2.heap.objs.size,{ cls:=.type "list",data:=.seq its.toArray cap }) (List.mem_append_right _ (List.mem_append_left _ (List.mem_append_right _ (List.mem_singleton.mpr rfl))))
        refine ⟨(I8.pins_of fun p hp => I8.pin p (List.mem_append_right _ (List.mem_append_left _ (List.mem_append_left _ hp)))).weak ?_ fun j v e => ?_,T.keep _ _ _ st5 fun b hb o e => (pk b hb o e).1,fun b hb => ?_,zD.1,zD.2.1⟩
        · exact I3.len.trans I8.len.symm
        · have hge:own.length ≤ j:=by
            refine Nat.le_of_not_lt fun q => ?_
            unfold blkSt at e
            rw [List.getElem?_append_left (by rw [List.length_replicate]; exact q),List.getElem?_replicate,if_pos q] at e
            cases e
          have z:=congrArg (fun l => l[j - own.length]?) eσ
          simp only [List.getElem?_drop] at z
          rw [show own.length + (j - own.length) = j by omega] at z
          rw [z]
          exact e
        · obtain ⟨o,e,_⟩:=T.obj _ _ st5 b hb
          exact (pk b hb o e).2
      cases ok with
      | false =>
        obtain ⟨m',hm,w7⟩:=(if_neg Bool.false_ne_true) ▸ q7
        obtain ⟨I8,st8,fr8,e8,n8⟩:=back I7
        exact wpAny_pure ⟨rfl,m',hm,i + 1,ys,its,cap,H7,I8,st8,fr8,e8,n8,rv,hz,w7⟩
      | true =>
        have q7':=(if_pos rfl) ▸ q7
        refine wpAny_bind (wpAny_bind (wpAny_mono (he _ _ _ _ _ s7 σ6 H7 _ I7 q7') (fun y s8 ⟨v8,H8,I8,r8,m',hm,w8⟩ => ?_) fun _ _ z => z.elim))
        obtain ⟨I9,st9,fr9,e9,n9⟩:=back I8
        have hl:=rv.length
        refine wpAny_bind (wpAny_list_append_plain (items:=its.toArray) ⟨cap,e9⟩ (fun h' hl' sb => ?_) (by rw [List.size_toArray,← hl]; exact hz))
        obtain ⟨cap',e'⟩:=hl'
        refine wpAny_pure (wpAny_pure ⟨rfl,m',hm,i + 1,ys ++ [v8],its ++ [y],cap',H8,?_,?_,fr9,?_,n9,Vals.append rv (.cons r8 .nil),?_,w8⟩)
        · exact I9.turned (t':=s8.toks) (fun b o hb e => (sb.2 b hb).trans e) n9 hDC (.inl List.mem_cons_self) cellD pinD
        · exact T.keep _ _ _ st9 fun b hb o e => (sb.2 b (Nat.ne_of_lt (hfp b hb))).trans e
        · rw [e']
          congr 3
          simp
        · rw [List.length_append]
          exact hlt
  exact codeAny_compStart_list loop (T.self _ 0 _ _ _ (T.keep _ _ _ st2 fun b hb o e => old _ _ (by rw [← ehp]; exact Heap.get?_push_of_some _ e)) loop)
theorem pe_comp_if {tg elt iter c:Expr} {own caps:List Str} {κ:List Nat} {sc:Scope} {cl:List (Str × Addr)} {pos:Pos} {wi:TI} {g:TG} {tc:TT} {te:TE} (hcalm:X.calm = true) (S:BlkSc X caps sc cl) (hκ:κ.map (fun k => X.N[k]?) = caps.map some)
    (hi:PI X tg iter wi) (hg:∀ s₀ H₀ C ex,PG (blk X (own ++ caps) sc cl s₀ H₀ C ex) tg g) (hc:∀ s₀ H₀ C ex,PT (blk X (own ++ caps) sc cl s₀ H₀ C ex) c tc) (he:∀ s₀ H₀ C ex,PE (blk X (own ++ caps) sc cl s₀ H₀ C ex) elt te)
    (hs:∀ x,foldedSetIterable iter X.env x = pure x:=by intro _; rfl):PE X (.ListComp elt [⟨tg,iter,[c],0⟩] sc pos) (tComp own.length κ wi g tc te) :=
  pe_compG hcalm S hκ hi hg (fun s₀ H₀ C ex pins s σ H Q I h => wpAny_tests_one (hc s₀ H₀ C ex pins s σ H Q I h)) he hs
end
end L2
namespace L2
open PySem PySem.Spec PyProof.Rows
section
variable {X:Cx}
noncomputable def rSlS:V → Option Int → Option Int → Hp → VK → Prop:=fun x lo hi H Q => ∃ z,x = .str z ∧ z.length ≤ sizeLine ∧ Q (.str (Txt.slice z lo hi)) H
theorem sl_str:SlR X rSlS:=by
  intro pins s σ H x v vl vu lo hi sl Q I rx hs pl pu h
  obtain ⟨z,rfl,hz,q⟩:=h
  obtain ⟨t,rfl⟩:=rx
  have fin:∀ t' k,EP X pins σ Q (.str (Txt.slice z lo hi) t') { s with toks:=k }:=fun t' k => ⟨.str _,H,I.tok _,⟨_,rfl⟩,q⟩
  refine ⟨"str",_,F.slot_str_getitem.lookup,typeIs_str _ _ _,?_⟩
  cases pl with
  | none =>
    cases pu with
    | none => exact wpAny_getItem_str_slice (l:=none) (u:=none) (st:=none) hs rfl (post_val_or_str ⟨Nat.le_trans (Txt.slice_le z _ _) hz,fin⟩)
    | int j tj => exact wpAny_getItem_str_slice (l:=none) (u:=some (j,tj)) (st:=none) hs rfl (post_val_or_str ⟨Nat.le_trans (Txt.slice_le z _ _) hz,fin⟩)
  | int i ti =>
    cases pu with
    | none => exact wpAny_getItem_str_slice (l:=some (i,ti)) (u:=none) (st:=none) hs rfl (post_val_or_str ⟨Nat.le_trans (Txt.slice_le z _ _) hz,fin⟩)
    | int j tj => exact wpAny_getItem_str_slice (l:=some (i,ti)) (u:=some (j,tj)) (st:=none) hs rfl (post_val_or_str ⟨Nat.le_trans (Txt.slice_le z _ _) hz,fin⟩)
theorem bootIsi:bootBuiltins "isinstance" = some (.builtin "isinstance"):=by decide +kernel
end
end L2
namespace L2
open PySem PySem.Spec PyProof.Rows
end L2
namespace L2
open PySem PySem.Spec PyProof.Rows
theorem comp_by {J:It} {xs:List V} {n:Nat} {κ:List Nat} {g:TG} {tc:TT} {te:TE} {σ:St} {H:Hp} {Q:VK} (Pv:Nat → List V → Hp → Prop) (h0:Pv 0 [] H) (hz:xs.length ≤ sizeLine) (hlen:∀ i ys H2,Pv i ys H2 → ys.length ≤ i)
    (hgo:∀ i x ys H2,xs[i]? = some x → Pv i ys H2 → J.go i H2) (hyl:∀ i ys x H2 H',i < xs.length → Pv i ys H2 → J.yld i H2 x H' → H' = H2 ∧ xs[i]? = some x) (hst:∀ ys H2,Pv xs.length ys H2 → J.stop xs.length H2)
    (hs:∀ i x ys H2 (N:List V → Hp → Prop),(∀ ys' H',Pv (i + 1) ys' H' → N ys' H') → xs[i]? = some x → Pv i ys H2 → g x (blkSt n κ σ) H2 fun σ4 H4 => σ4.drop n = (blkSt n κ σ).drop n ∧ tc σ4 H4 fun b H5 => if b = true then te σ4 H5 fun v H6 => N (ys ++ [v]) H6 else N ys H5)
    (hQ:∀ ys H2 D,Pv xs.length ys H2 → H2 D = none → Q (.ref D) (upd H2 D (.lst ys))) :
    CompRun n κ g tc te σ J H Q:=by
  refine ⟨fun i m ys H2 => m = xs.length - i ∧ i ≤ xs.length ∧ Pv i ys H2,⟨xs.length,rfl,Nat.zero_le _,h0⟩,?_⟩
  rintro i m ys H2 ⟨rfl,hi,p⟩
  by_cases hlt:i < xs.length
  · have e:xs[i]? = some xs[i]:=List.getElem?_eq_getElem hlt
    refine .inr ⟨hgo i _ ys H2 e p,Nat.lt_of_le_of_lt (hlen i ys H2 p) (Nat.lt_of_lt_of_le hlt hz),fun x H3 y => ?_⟩
    obtain ⟨rfl,ex⟩:=hyl i ys x H2 H3 hlt p y
    exact hs i x ys _ (fun ys' H' => ∃ m',m' < xs.length - i ∧ m' = xs.length - (i + 1) ∧ i + 1 ≤ xs.length ∧ Pv (i + 1) ys' H') (fun ys' H' p' => ⟨xs.length - (i + 1),by omega,rfl,hlt,p'⟩) ex p
  · obtain rfl:i = xs.length:=by omega
    exact .inl ⟨hst ys H2 p,fun D hD => hQ ys H2 D p hD⟩
noncomputable def rangeV (lo:Int) (n:Nat):List V:=(List.range n).map fun i => V.int (lo + (i:Nat))
theorem rangeV_len (lo:Int) (n:Nat):(rangeV lo n).length = n:=by simp [rangeV]
theorem rangeV_get {lo:Int} {n i:Nat} {x:V}:(rangeV lo n)[i]? = some x ↔ i < n ∧ x = .int (lo + i):=by
  unfold rangeV
  rw [List.getElem?_map]
  by_cases h:i < n
  · rw [List.getElem?_range h]
    simp [h,eq_comm]
  · rw [List.getElem?_eq_none (by simp; omega)]
    simp [h]
theorem itr_go {lo:Int} {n:Nat} {H:Hp} {i:Nat} {x:V} (h:(rangeV lo n)[i]? = some x):(Itr lo n).go i H:=(rangeV_get.mp h).1
theorem itr_yld' {lo:Int} {n:Nat} {H H':Hp} {i:Nat} {x:V} (hi:i < n) (h:(Itr lo n).yld i H x H'):H' = H ∧ (rangeV lo n)[i]? = some x:=⟨h.1,rangeV_get.mpr ⟨hi,h.2⟩⟩
section
variable {X:Cx}
end
end L2
namespace L2
open PySem PySem.Spec PyProof.Rows
mutual
inductive Dat (K:PySem.W.Frag) (H:Hp):V → PyData → Prop
  | non:Dat K H .non .none
  | bl (b:Bool):Dat K H (.bl b) (.bool b)
  | int (i:Int):Dat K H (.int i) (.int i)
  | str (x:Str):Dat K H (.str x) (.str x)
  | tup {a:Addr} {xs:List V} {ds:List PyData}:SqT K H a xs → Dats K H xs ds → Dat K H (.ref a) (.tuple ds)
  | lst {a:Addr} {xs:List V} {ds:List PyData}:SqL K H a xs → Dats K H xs ds → Dat K H (.ref a) (.list ds)
inductive Dats (K:PySem.W.Frag) (H:Hp):List V → List PyData → Prop
  | nil:Dats K H [] []
  | cons {x:V} {d:PyData} {xs:List V} {ds:List PyData}:Dat K H x d → Dats K H xs ds → Dats K H (x :: xs) (d :: ds)
end
theorem Same.tup {K:PySem.W.Frag} {H H':Hp} {a:Addr} {xs:List V} (e:Same H H') (h:SqT K H a xs):SqT K H' a xs:=by
  rcases h with (h | ⟨o,h⟩) | h
  · exact .inl (.inl (e _ _ h))
  · exact .inl (.inr ⟨o,e _ _ h⟩)
  · exact .inr h
mutual
theorem Dat.same {K:PySem.W.Frag} {H H':Hp} (e:Same H H'):∀ {x:V} {d:PyData},Dat K H x d → Dat K H' x d
  | _,_,.non => .non
  | _,_,.bl b => .bl b
  | _,_,.int i => .int i
  | _,_,.str x => .str x
  | _,_,.tup h r => .tup (e.tup h) (Dats.same e r)
  | _,_,.lst h r => .lst (e.seq h) (Dats.same e r)
theorem Dats.same {K:PySem.W.Frag} {H H':Hp} (e:Same H H'):∀ {xs:List V} {ds:List PyData},Dats K H xs ds → Dats K H' xs ds
  | _,_,.nil => .nil
  | _,_,.cons h r => .cons (Dat.same e h) (Dats.same e r)
end
section
variable {X:Cx} {pins:List (Addr × Obj)} {σ:St} {H:Hp} {s:Shared}
mutual
theorem Dat.reads (I:Inv X pins σ H s):∀ {x:V} {d:PyData} {v:Value},Dat X.K H x d → RelV x v → ∃ as,Reads s.heap v d as
  | _,_,_,.non,r => by cases r; exact ⟨_,.none⟩
  | _,_,_,.bl b,r => by cases r; exact ⟨_,.bool b⟩
  | _,_,_,.int i,r => by obtain ⟨t,rfl⟩:=r; exact ⟨_,.int i t⟩
  | _,_,_,.str x,r => by obtain ⟨t,rfl⟩:=r; exact ⟨_,.str x t⟩
  | _,_,_,.tup hq ds,r => by
    cases r
    obtain ⟨its,rv,p,_⟩:=I.tuple hq
    obtain ⟨as,q⟩:=Dats.reads I ds rv
    obtain ⟨o,e,c,n,dt⟩:=p
    exact ⟨as,.tuple e c dt (by simpa using q)⟩
  | _,_,_,.lst hq ds,r => by
    cases r
    obtain ⟨its,rv,p,_⟩:=I.list hq
    obtain ⟨as,q⟩:=Dats.reads I ds rv
    obtain ⟨o,n,e,c,_,dt⟩:=p
    exact ⟨_,.list e c dt (by simpa using q)⟩
theorem Dats.reads (I:Inv X pins σ H s):∀ {xs:List V} {ds:List PyData} {vs:List Value},Dats X.K H xs ds → Vals xs vs → ∃ as,ReadsAll s.heap vs ds as
  | _,_,_,.nil,r => by cases r; exact ⟨_,.nil⟩
  | _,_,_,.cons h t,r => by
    cases r with
    | cons r1 r2 =>
      obtain ⟨as,q⟩:=Dat.reads I h r1
      obtain ⟨bs,q2⟩:=Dats.reads I t r2
      exact ⟨_,.cons q q2⟩
end
end
section
variable {X:Cx}
noncomputable def rEqD (K:PySem.W.Frag) (neg:Bool):R2:=fun x y H Q => ∃ dx dy,Dat K H x dx ∧ Dat K H y dy ∧ SeqAt.shaped dx = true ∧ SeqAt.shaped dy = true ∧ Q (.bl (if neg then !PyData.eqv dx dy else PyData.eqv dx dy)) H
theorem op_eqD (hu:X.A.units + 64 < cLine):OpR X (compareOp .Eq) (rEqD X.K false):=by
  intro pins s σ H x y v u Q I rx ry h
  obtain ⟨dx,dy,hx,hy,sx,sy,q⟩:=h
  obtain ⟨as,ra⟩:=Dat.reads I hx rx
  obtain ⟨bs,rb⟩:=Dat.reads I hy ry
  exact eq_dataH ra rb sx sy hu ⟨.bl _,H,I,rfl,q⟩
theorem op_neD (hu:X.A.units + 64 < cLine):OpR X (compareOp .NotEq) (rEqD X.K true):=by
  intro pins s σ H x y v u Q I rx ry h
  obtain ⟨dx,dy,hx,hy,sx,sy,q⟩:=h
  obtain ⟨as,ra⟩:=Dat.reads I hx rx
  obtain ⟨bs,rb⟩:=Dat.reads I hy ry
  exact ne_dataH ra rb sx sy hu ⟨.bl _,H,I,rfl,q⟩
end
end L2
namespace L2
open PySem PySem.Spec PyProof.Rows
section
variable {X:Cx}
theorem canLayAll_mem {ds:List PyData} (h:PyData.canLayAll0 ds = true) {d:PyData} (hd:d ∈ ds):d.canLay0 = true:=PyData.canLay0_of_mem ds d h hd
theorem readsAll_get {h:Heap}:∀ {vs:List Value} {ds:List PyData} {as:List Addr},ReadsAll h vs ds as → ∀ v ∈ vs,∃ d ∈ ds,∃ bs,Reads h v d bs
  | _,_,_,.nil,v,hv => nomatch hv
  | _,_,_,.cons r t,v,hv => by
    rcases List.mem_cons.mp hv with rfl | hv
    · exact ⟨_,List.mem_cons_self,_,r⟩
    · obtain ⟨d,hd,bs,q⟩:=readsAll_get t v hv
      exact ⟨d,List.mem_cons_of_mem _ hd,bs,q⟩
open Classical in
noncomputable def eqAtD (h:Heap) (d:PyData) (v:Value):Bool:=if q:∃ e,∃ bs,Reads h v e bs then PyData.eqv q.choose d else false
theorem eqAtD_of {h:Heap} {d e:PyData} {v:Value} {as:List Addr} (hl:e.canLay0 = true) (r:Reads h v e as):eqAtD h d v = PyData.eqv e d:=by
  unfold eqAtD
  have q:∃ e,∃ bs,Reads h v e bs:=⟨e,as,r⟩
  rw [dif_pos q]
  obtain ⟨bs,r2⟩:=q.choose_spec
  rw [SeqAt.Reads.unique e _ v as bs hl r r2]
theorem any_eqAtD {h:Heap} {d:PyData}:∀ {vs:List Value} {ds:List PyData} {as:List Addr},ReadsAll h vs ds as → PyData.canLayAll0 ds = true → vs.any (eqAtD h d) = ds.any fun e => PyData.eqv e d
  | _,_,_,.nil,_ => rfl
  | _,_,_,.cons (d:=e) (ds:=es) r t,hl => by
    have hl':e.canLay0 = true ∧ PyData.canLayAll0 es = true:=by simpa only [PyData.canLayAll0,Bool.and_eq_true] using hl
    rw [List.any_cons,List.any_cons,eqAtD_of hl'.1 r,any_eqAtD t hl'.2]
noncomputable def rInD (K:PySem.W.Frag) (neg:Bool):R2:=fun x y H Q => ∃ p xs ds d,y = .ref p ∧ SqL K H p xs ∧ Dats K H xs ds ∧ Dat K H x d ∧ PyData.canLayAll0 ds = true ∧ d.canLay0 = true ∧ d.depth ≤ 60 ∧
  Q (.bl (if neg then !(ds.any fun e => PyData.eqv e d) else ds.any fun e => PyData.eqv e d)) H
theorem inD_items (hu:X.A.units + 64 < cLine) {pins:List (Addr × Obj)} {σ:St} {H:Hp} {s:Shared} {x:V} {v:Value} {p:Addr} {xs:List V} {ds:List PyData} {d:PyData} (I:Inv X pins σ H s) (rx:RelV x v)
    (hq:SqL X.K H p xs) (hds:Dats X.K H xs ds) (hd:Dat X.K H x d) (hl:PyData.canLayAll0 ds = true) (hl2:d.canLay0 = true) (hdp:d.depth ≤ 60) :
    ∃ its:List Value,PlainL s.heap p its.toArray ∧ (∀ y,y ∈ its.toArray → SeqAt.EqAt X.A.in1 s y v (eqAtD s.heap d y)) ∧ its.toArray.any (eqAtD s.heap d) = ds.any fun e => PyData.eqv e d:=by
  obtain ⟨its,rv,pl,_⟩:=I.list hq
  obtain ⟨as,ra⟩:=Dats.reads I hds rv
  obtain ⟨bs,rb⟩:=Dat.reads I hd rx
  refine ⟨its,pl,fun y hy => ?_,?_⟩
  · obtain ⟨e,he,cs,re⟩:=readsAll_get ra y (by simpa using hy)
    have hle:=canLayAll_mem hl he
    rw [eqAtD_of hle re]
    refine SeqAt.eqAt_reads e d X.A.in1 s y v cs bs re rb hle hl2 ?_
    have h1:min e.depth d.depth ≤ d.depth:=Nat.min_le_right _ _
    have h2:X.A.in1.units ≤ X.A.units + 1:=by first | exact Nat.le_refl _ | (show X.A.units + 1 ≤ X.A.units + 1; exact Nat.le_refl _) | (show X.A.units ≤ X.A.units + 1; exact Nat.le_succ _)
    omega
  · rw [show its.toArray.any (eqAtD s.heap d) = its.any (eqAtD s.heap d) by simp]
    exact any_eqAtD ra hl
theorem op_inD (hu:X.A.units + 64 < cLine):OpR X (compareOp .In) (rInD X.K false):=by
  intro pins s σ H x y v u Q I rx ry h
  obtain ⟨p,xs,ds,d,rfl,hq,hds,hd,hl,hl2,hdp,q⟩:=h
  cases ry
  obtain ⟨its,pl,he,ea⟩:=inD_items hu I rx hq hds hd hl hl2 hdp
  refine SeqAt.in_listAt (eqAtD s.heap d) pl.isList he ⟨.bl _,H,I,rfl,?_⟩
  rw [ea]
  exact q
theorem op_notInD (hu:X.A.units + 64 < cLine):OpR X (compareOp .NotIn) (rInD X.K true):=by
  intro pins s σ H x y v u Q I rx ry h
  obtain ⟨p,xs,ds,d,rfl,hq,hds,hd,hl,hl2,hdp,q⟩:=h
  cases ry
  obtain ⟨its,pl,he,ea⟩:=inD_items hu I rx hq hds hd hl hl2 hdp
  refine SeqAt.notIn_listAt (eqAtD s.heap d) pl.isList he ⟨.bl _,H,I,rfl,?_⟩
  rw [ea]
  exact q
theorem op_mulS:OpR X (binaryOp .Mult) (fun x y H Q => ∃ z n,x = .str z ∧ y = .int n ∧ MulOk z n ∧ Q (.str (Txt.mul z n)) H):=by
  intro pins s σ H x y v u Q I rx ry h
  obtain ⟨z,n,rfl,rfl,hm,q⟩:=h
  obtain ⟨t,rfl⟩:=rx
  obtain ⟨t',rfl⟩:=ry
  exact SB.mul hm fun t' k => ⟨.str _,H,I.tok _,⟨_,rfl⟩,q⟩
theorem mulOk_small {z:Str} {n:Int} (h0:0 ≤ n) (h1:n ≤ 1000) (h2:z.length ≤ 1000):MulOk z n:=by
  refine ⟨?_,fun h3 _ => ?_,fun _ _ => ?_⟩
  · rw [decide_eq_false (by omega),decide_eq_false (by omega)] <;> rfl
  · have hn:0 < n:=by omega
    have hm:(z.length:Int) * n ≤ 1000 * 1000:=Int.mul_le_mul (by omega) h1 h0 (by decide)
    have e:(z.length:Int) ≤ (2 ^ 63 - 1) / n:=Int.le_ediv_of_mul_le hn (by omega)
    omega
  · unfold Builtin.Str.tooLong sizeLine
    refine decide_eq_false ?_
    have:z.length * n.toNat ≤ 1000 * 1000:=Nat.mul_le_mul h2 (by omega)
    omega
end
end L2
namespace L2
open PySem PySem.Spec PyProof.Rows
noncomputable def RawD (h:Heap) (d:Addr) (es:Array DictEntry) (ep:Nat):Prop:=∃ o,h.get? d = some o ∧ o.ExactDict ∧ o.data = .dict es ep
theorem RawD.at {h h':Heap} {d:Addr} {es:Array DictEntry} {ep:Nat} (x:RawD h d es ep) (k:∀ o,h.get? d = some o → h'.get? d = some o):RawD h' d es ep:=let ⟨o,e,r⟩:=x; ⟨o,k _ e,r⟩
theorem RawD.lt {h:Heap} {d:Addr} {es:Array DictEntry} {ep:Nat} (x:RawD h d es ep):d < h.objs.size:=let ⟨_,e,_⟩:=x; Heap.lt_size e
section
variable {prog:Program} {w:World} {A:Around} {E:Value → Shared → Prop} {s:Shared}
theorem raw_iter {d:Addr} {es:Array DictEntry} {ep:Nat} {Q:Value → Shared → Prop} (hd:(d == sysModules) = false) (hm:RawD s.heap d es ep)
    (hQ:Q (.ref s.heap.objs.size) { s with heap:=s.heap.push { cls:=.type "dict_keyiterator",data:=.fields #[.ref d,.int 0 0,.int es.size 0,.int ep 0] } }):wpAny (model prog w) A (pyIter (.ref d)) Q E s:=by
  obtain ⟨o,ho,hx,hdat⟩:=hm
  have tyD:s.TypeIs (.ref d) "dict":=⟨o,ho,hx.1⟩
  refine wpAny_pyIter_slot tyD F.slot_dict_iter (wpAny_call_entry F.slot_dict_iter tyD F.entry_dict_iter ?_ (F.args_dict_iter_1 _))
  unfold Builtin.«dict.__iter__» Builtin.Dict.dictSlotNone
  refine wpAny_bind (wpAny_bind (wpAny_notOrdered_dict tyD ?_))
  refine wpAny_pure (show wpAny _ _ (Builtin.Dict.showsAll d >>= _) _ _ s from ?_)
  unfold Builtin.Dict.showsAll
  rw [if_neg (fun z => Bool.false_ne_true (hd.symm.trans z))]
  refine wpAny_bind (wpAny_pure (wpAny_bind (wpAny_dictEntries ho hdat (wpAny_bind (wpAny_dictEpoch ho hdat ?_)))))
  exact wpAny_bind (wpAny_newObj_type (wpAny_pure ⟨_,rfl,"dict_keyiterator",_,⟨_,Heap.get?_push_size _ rfl,rfl⟩,F.slot_dict_keyiterator_next.lookup,hQ⟩))
theorem raw_item {it d:Addr} {i ep:Nat} {es:Array DictEntry} {Q:Option Value → Shared → Prop} (hit:s.heap.IsKeyIter it d i es.size ep) (hm:RawD s.heap d es ep) (hi:i < es.size)
    (hQ:∀ h',h'.IsKeyIter it d (i + 1) es.size ep → Heap.SameBut it s.heap h' → Q (some es[i].key) { s with heap:=h' }):wpAny (model prog w) A (pyNext (.ref it)) Q E s:=by
  have tyI:=hit.typeIs
  obtain ⟨oi,hoi,hci,hdi⟩:=id hit
  obtain ⟨od,hod,_,hdd⟩:=hm
  unfold pyNext
  refine wpAny_bind (wpAny_attempt (wpAny_callSpecial?_slot (name:=Str.ofString "__next__") tyI F.slot_dict_keyiterator_next (wpAny_call_entry F.slot_dict_keyiterator_next tyI F.entry_dict_keyiterator_next ?_ (F.args_dict_keyiterator_next_1 _))))
  refine wpAny_bind (wpAny_pure (wpAny_bind (wpAny_bind ?_)))
  first | refine wpAny_bind (wpAny_typeNameOfWhole_keyiter tyI (wpAny_pure ?_)) | refine wpAny_bind (wpAny_typeNameOf_keyiter tyI (wpAny_pure ?_))
  refine wpAny_bind (wpAny_fieldsOf hoi hdi ?_)
  simp only [show Builtin.Dict_items.ownsTuple "dict_keyiterator" = false from by decide,Bool.false_eq_true,if_false]
  show wpAny _ _ (if (Value.ref d == .none) = true then _ else _) _ _ s
  have ne0:¬ ((Value.ref d == Value.none) = true):=fun z => Bool.false_ne_true z
  rw [if_neg ne0]
  refine wpAny_bind (wpAny_pure (wpAny_bind (wpAny_dictEntries hod hdd ?_)))
  rw [if_neg (by simp)]
  refine wpAny_bind (wpAny_pure (wpAny_bind (wpAny_dictEpoch hod hdd ?_)))
  rw [if_neg (by simp)]
  refine wpAny_pure ?_
  simp only [show ¬ ((i:Int) < 0) from Int.not_lt.mpr (Int.natCast_nonneg i),if_false,Int.toNat_natCast,Array.getElem?_eq_getElem hi]
  refine wpAny_bind ?_
  first | refine wpAny_bind (wpAny_typeNameOfWhole_keyiter tyI (wpAny_pure ?_)) | refine wpAny_bind (wpAny_typeNameOf_keyiter tyI (wpAny_pure ?_))
  refine wpAny_bind (wpAny_isOneOf_keyiter tyI ?_)
  refine (show wpAny _ _ (setField (.ref it) 1 (rawInt ((i:Int) + 1)) >>= _) _ _ s from wpAny_bind (wpAny_setField hoi hdi (by simp) ?_))
  have new:(s.heap.update it (Obj.mapFields (·.setIfInBounds 1 (rawInt ((i:Int) + 1))))).IsKeyIter it d (i + 1) es.size ep :=
    ⟨_,Heap.get?_update_self _ hoi (Obj.isFreed_of_fields (Obj.data_mapFields hdi _)),(Obj.cls_mapFields ..).trans hci,by rw [Obj.data_mapFields hdi]; simp [rawInt]⟩
  refine wpAny_bind (wpAny_holding (wpAny_bind (wpAny_isOneOf_keyiter (s:={ s with heap:=s.heap.update it (Obj.mapFields (·.setIfInBounds 1 (rawInt ((i:Int) + 1)))) }) new.typeIs ?_)))
  exact (show wpAny _ _ (pure es[i].key) _ _ _ from wpAny_pure (wpAny_pure ⟨_,rfl,wpAny_pure (hQ _ new (Heap.SameBut.update ..))⟩))
theorem raw_end {it d:Addr} {i ep:Nat} {es:Array DictEntry} {Q:Option Value → Shared → Prop} (hh:A.handled = none) (hit:s.heap.IsKeyIter it d i es.size ep) (hm:RawD s.heap d es ep) (hi:es.size ≤ i)
    (hF:∀ h',Heap.ExtBut it s.heap h' → Q none { s with heap:=h' }):wpAny (model prog w) A (pyNext (.ref it)) Q E s:=by
  have tyI:=hit.typeIs
  obtain ⟨oi,hoi,hci,hdi⟩:=id hit
  obtain ⟨od,hod,_,hdd⟩:=hm
  unfold pyNext
  refine wpAny_bind (wpAny_attempt (wpAny_callSpecial?_slot (name:=Str.ofString "__next__") tyI F.slot_dict_keyiterator_next (wpAny_call_entry F.slot_dict_keyiterator_next tyI F.entry_dict_keyiterator_next ?_ (F.args_dict_keyiterator_next_1 _))))
  refine wpAny_bind (wpAny_pure (wpAny_bind (wpAny_bind ?_)))
  first | refine wpAny_bind (wpAny_typeNameOfWhole_keyiter tyI (wpAny_pure ?_)) | refine wpAny_bind (wpAny_typeNameOf_keyiter tyI (wpAny_pure ?_))
  refine wpAny_bind (wpAny_fieldsOf hoi hdi ?_)
  simp only [show Builtin.Dict_items.ownsTuple "dict_keyiterator" = false from by decide,Bool.false_eq_true,if_false]
  show wpAny _ _ (if (Value.ref d == .none) = true then _ else _) _ _ s
  have ne0:¬ ((Value.ref d == Value.none) = true):=fun z => Bool.false_ne_true z
  rw [if_neg ne0]
  refine wpAny_bind (wpAny_pure (wpAny_bind (wpAny_dictEntries hod hdd ?_)))
  rw [if_neg (by simp)]
  refine wpAny_bind (wpAny_pure (wpAny_bind (wpAny_dictEpoch hod hdd ?_)))
  rw [if_neg (by simp)]
  refine wpAny_pure ?_
  simp only [show ¬ ((i:Int) < 0) from Int.not_lt.mpr (Int.natCast_nonneg i),if_false,Int.toNat_natCast,Array.getElem?_eq_none hi]
  refine wpAny_bind ?_
  first | refine wpAny_bind (wpAny_typeNameOfWhole_keyiter tyI (wpAny_pure ?_)) | refine wpAny_bind (wpAny_typeNameOf_keyiter tyI (wpAny_pure ?_))
  refine (show wpAny _ _ (setField (.ref it) 0 .none >>= _) _ _ s from wpAny_bind (wpAny_setField hoi hdi (by simp) ?_))
  refine (show wpAny _ _ (newExc (.type "StopIteration") [] >>= _) _ _ _ from wpAny_bind ?_)
  simp only [newExc,newTuple]
  refine wpAny_bind (wpAny_newObj_type (dict:=none) ?_ (by size_fits))
  refine wpAny_bind (m:=firstArgMember _ _) (wpAny_of_eq (a:=Value.none) (by first | rfl | (simp only [firstArgMember]; rfl)) (wpAny_newObj_type ?_ (by size_fits)))
  simp only [raiseNew]
  refine wpAny_bind (m:=_) (wpAny_handled ?_)
  rw [(show A.in1.handled = none from hh)]
  refine wpAny_bind (wpAny_pure (wpAny_throw (wpAny_bind ?_)))
  refine wpAny_isInstance (b:=true) (T:="StopIteration") ⟨_,Heap.get?_push_size _ rfl,rfl⟩ isSubtype_stop ?_
  exact wpAny_pure (hF _ (((Heap.SameBut.update ..).extBut.push _).push _))
theorem Walks.raw (hh:A.handled = none) (I d:Addr) (hne:d ≠ I) (es:Array DictEntry) (ep:Nat) :
    Walks prog w A I [I,d] [I] es.size (fun i v => ∃ e,es[i]? = some e ∧ v = e.key) (fun i h => h.IsKeyIter I d i es.size ep ∧ RawD h d es ep) where
  sub:=fun b hb => List.mem_cons.mpr (.inl (List.mem_singleton.mp hb))
  frame:=fun _ _ _ st hk => ⟨st.1.at fun o e => hk I List.mem_cons_self o e,st.2.at fun o e => hk d (List.mem_cons_of_mem _ List.mem_cons_self) o e⟩
  item:=fun i s Q E hi st hQ => raw_item st.1 st.2 hi fun h' new sb => hQ _ h' s.toks ⟨es[i],Array.getElem?_eq_getElem hi,rfl⟩ ⟨new,st.2.at fun o e => sb.extBut d o hne e⟩ fun b o hb e => sb.extBut b o (fun z => hb (List.mem_singleton.mpr z)) e
  done:=fun s Q E st hQ => raw_end hh st.1 st.2 (Nat.le_refl _) fun h' eb => hQ h' s.toks fun b o hb e => eb b o (fun z => hb (List.mem_singleton.mpr z)) e
  self:=fun _ _ _ _ st q => wpAny_pyIter_keyiter st.1 q
theorem kdl_raw {d:Addr} {es:Array DictEntry} {ep:Nat} (lo:(d == sysModules) = false):PySem.W.KdlSrc prog w "dict" d d es.size (fun i v => ∃ e,es[i]? = some e ∧ v = e.key) (fun h => RawD h d es ep) where
  type:=fun _ hm => let ⟨o,e,x,_⟩:=hm; ⟨o,e,x.1⟩
  there:=fun _ hm => ⟨hm.lt,hm.lt⟩
  keep:=fun _ _ hm hk => hm.at fun o e => hk d (.inl rfl) o e
  notList:=by decide
  notTuple:=by decide
  hint:=fun _ _ _ _ hm hq => PySem.W.kdl_hint_dict (let ⟨o,e,x,_⟩:=hm; ⟨o,e,x.1⟩) hq
  iter:=fun _ _ hh hm => ⟨_,_,(fun _ _ hq => raw_iter lo hm hq),Walks.raw hh _ d (Nat.ne_of_lt hm.lt) es ep,⟨⟨_,Heap.get?_push_size _ rfl,rfl,rfl⟩,hm.at fun o e => Heap.get?_push_of_some _ e⟩⟩
end
end L2
namespace L2
open PySem PySem.Spec PyProof.Rows
section
variable {X:Cx}
theorem call_list_dT (hc:X.calm = true):CallR X (.type "list") (fun xs H Q => ∃ a kvs,xs = [.ref a] ∧ H a = some (.dT kvs) ∧
    ∀ (ks:List Addr) l,H l = none → Paired (fun (p:List Key × V) (k:Addr) => H k = some (.tup (p.1.map kV))) kvs ks → Q (.ref l) (upd H l (.lst (ks.map V.ref)))):=by
  intro pins s σ H xs us Q I r h
  obtain ⟨a,kvs,rfl,ha,q⟩:=h
  obtain ⟨u,rfl,ru⟩:=vals1 r
  cases ru
  obtain ⟨z,hd,ys,rel,o,es,ep,e,ex,dt,eqs,_⟩:=I.hok a _ ha
  have hlen:es.size = ys.length:=by
    have:=congrArg List.length eqs
    rw [List.length_map] at this
    simpa using this
  have hl2:kvs.length = ys.length:=Paired.length rel
  refine PySem.W.kdl_call (kdl_raw hd) (I.ok.hd hc) ⟨o,e,ex,dt⟩ (by rw [hlen,← hl2]; exact z) fun h' tk acc' c' hk hD hacc => ?_
  have eacc:acc'.toList = ys.map fun y => Value.ref y.2.1:=by
    apply List.ext_getElem?
    intro j
    rw [List.getElem?_map]
    by_cases hj:j < ys.length
    · have hj2:j < acc'.size:=by rw [hacc.1,hlen]; exact hj
      obtain ⟨en,hen,hv⟩:=hacc.2 j acc'[j] (Array.getElem?_eq_getElem hj2)
      have e1:es.toList[j]? = some en:=by rw [← hen]; simp
      rw [eqs,List.getElem?_map,List.getElem?_eq_getElem hj] at e1
      have e2:=Option.some.inj e1
      rw [show acc'.toList[j]? = some acc'[j] by simp [hj2],hv,← e2,List.getElem?_eq_getElem hj]
      rfl
    · rw [List.getElem?_eq_none (by rw [Array.length_toList,hacc.1,hlen]; omega),List.getElem?_eq_none (by omega)]
      rfl
  have rk:∀ {kvs:List (List Key × V)} {ys:List (List Key × Addr × Value)},Paired (fun (p:List Key × V) (q:List Key × Addr × Value) => p.1 = q.1 ∧ H q.2.1 = some (.tup (p.1.map kV)) ∧ RelV p.2 q.2.2) kvs ys →
      Paired (fun (p:List Key × V) (k:Addr) => H k = some (.tup (p.1.map kV))) kvs (ys.map fun y => y.2.1):=fun {kvs ys} p => by
    induction p with
    | nil => exact .nil
    | cons h _ ih => exact .cons h.2.1 ih
  have vr:∀ ks:List Addr,Vals (ks.map V.ref) (ks.map Value.ref):=fun ks => by
    induction ks with
    | nil => exact .nil
    | cons k ks ih => exact .cons rfl ih
  refine ⟨.ref s.heap.objs.size,_,I.laid (o:=.lst ((ys.map fun y => y.2.1).map V.ref)) hk (Nat.le_refl _) ?_,rfl,q _ _ (I.hok.fresh (Nat.le_refl _)) (rk rel)⟩
  refine ⟨by rw [List.length_map,List.length_map,← hl2]; exact z,_,c',vr _,?_⟩
  rw [hD,show acc' = ((ys.map fun y => y.2.1).map Value.ref).toArray from by rw [List.map_map,← Array.toArray_toList (xs:=acc'),eacc]; rfl]
end
end L2
namespace Kk
open PySem L2
inductive Kd where
  | num (n:Int)
  | name (q t:Str)
  | pair (a b:Kd)
  deriving DecidableEq
noncomputable def Kd.words:Kd → Nat
  | .num _ => 1
  | .name _ _ => 1
  | .pair a b => 1 + a.words + b.words
noncomputable def Kd.leaves:Kd → List Kd
  | .num n => [.num n]
  | .name q t => [.name q t]
  | .pair a b => a.leaves ++ b.leaves
noncomputable def Kd.leaf:Kd → Bool
  | .pair _ _ => false
  | _ => true
theorem words_leaves:∀ k:Kd,k.words + 1 = 2 * k.leaves.length
  | .num _ => rfl
  | .name _ _ => rfl
  | .pair a b => by
    have h1:=words_leaves a
    have h2:=words_leaves b
    show 1 + a.words + b.words + 1 = 2 * (a.leaves ++ b.leaves).length
    rw [List.length_append]
    omega
theorem leaves_pos:∀ k:Kd,0 < k.leaves.length
  | .num _ => Nat.zero_lt_one
  | .name _ _ => Nat.zero_lt_one
  | .pair a b => by
    have h1:=leaves_pos a
    show 0 < (a.leaves ++ b.leaves).length
    rw [List.length_append]
    omega
inductive KdAt (K:PySem.W.Frag) (H:Hp):V → Kd → Prop
  | num {a:Addr} {n:Int}:SqT K H a [.str "num",.int n] → KdAt K H (.ref a) (.num n)
  | name {a:Addr} {q t:Str}:SqT K H a [.str "name",.str q,.str t] → KdAt K H (.ref a) (.name q t)
  | pair {a:Addr} {x y:V} {k l:Kd}:SqT K H a [.str "pair",x,y] → KdAt K H x k → KdAt K H y l → KdAt K H (.ref a) (.pair k l)
theorem KdAt.same {K:PySem.W.Frag} {H H':Hp} (e:Same H H'):∀ {x:V} {k:Kd},KdAt K H x k → KdAt K H' x k
  | _,_,.num h => .num (e.tup h)
  | _,_,.name h => .name (e.tup h)
  | _,_,.pair h a b => .pair (e.tup h) (a.same e) (b.same e)
inductive KdsAt (K:PySem.W.Frag) (H:Hp):List V → List Kd → Prop
  | nil:KdsAt K H [] []
  | cons {x:V} {k:Kd} {xs:List V} {ks:List Kd}:KdAt K H x k → KdsAt K H xs ks → KdsAt K H (x :: xs) (k :: ks)
theorem KdsAt.same {K:PySem.W.Frag} {H H':Hp} (e:Same H H'):∀ {xs:List V} {ks:List Kd},KdsAt K H xs ks → KdsAt K H' xs ks
  | _,_,.nil => .nil
  | _,_,.cons a b => .cons (a.same e) (b.same e)
theorem KdsAt.length {K:PySem.W.Frag} {H:Hp}:∀ {xs:List V} {ks:List Kd},KdsAt K H xs ks → xs.length = ks.length
  | _,_,.nil => rfl
  | _,_,.cons _ b => congrArg (· + 1) b.length
theorem KdsAt.append {K:PySem.W.Frag} {H:Hp}:∀ {xs ys:List V} {ks ls:List Kd},KdsAt K H xs ks → KdsAt K H ys ls → KdsAt K H (xs ++ ys) (ks ++ ls)
  | _,_,_,_,.nil,h => h
  | _,_,_,_,.cons a b,h => .cons a (b.append h)
end Kk
namespace L2
open PySem PySem.Spec PyProof.Rows
section
variable {α β:Type} {P:Shared → Prop}
noncomputable def Keeps (P:Shared → Prop) (t:Sem α):Prop:=∀ (M:Model) (Γ:PySem.Ctx) (Q:α → Pos → Shared → Prop) (E:Value → Pos → Shared → Prop) (p:Pos) (s:Shared),P s → Sem.wp M Γ t Q E p s →
  Sem.wp M Γ t (fun a p' s' => Q a p' s' ∧ P s') (fun e p' s' => E e p' s' ∧ P s') p s
theorem Keeps.ret (a:α):Keeps P (Pure.pure a:Sem α):=fun _ _ _ _ _ _ h q => ⟨q,h⟩
theorem Keeps.no (x:String):Keeps P (unsupported x:Sem α):=fun _ _ _ _ _ _ _ q => False.elim q
theorem Keeps.then {m:Sem α} {f:α → Sem β} (hm:Keeps P m) (hf:∀ a,Keeps P (f a)):Keeps P (m >>= f):=fun M Γ Q E p s h q => by
  rw [Sem.wp_bind'] at q ⊢
  exact Sem.wp_mono M Γ m (fun a p' s' z => hf a M Γ Q E p' s' z.2 z.1) (fun _ _ _ z => z) p s (hm M Γ _ E p s h q)
theorem Keeps.ld (a:Addr):Keeps P (load a):=fun _ _ _ _ _ _ h ⟨o,e,q⟩ => ⟨o,e,q,h⟩
theorem Keeps.stk:Keeps P stack:=fun _ _ _ _ _ _ h q => ⟨q,h⟩
theorem Keeps.ite {c:Prop} [Decidable c] {a b:Sem α} (ha:Keeps P a) (hb:Keeps P b):Keeps P (if c then a else b):=by split <;> assumption
theorem Keeps.wpAny {t:Sem α} (k:Keeps P t) {M:Model} {A:Around} {Q:α → Shared → Prop} {E:Value → Shared → Prop} {s:Shared} (hp:P s) (h:wpAny M A t Q E s):wpAny M A t (fun a s' => Q a s' ∧ P s') (fun e s' => E e s' ∧ P s') s :=
  fun Γ p hΓ => k M Γ _ _ p s hp (h Γ p hΓ)
noncomputable def DictIs (x:Addr) (d:Option Addr) (s:Shared):Prop:=∃ ob,s.heap.get? x = some ob ∧ ob.dict = d
variable {x:Addr} {d:Option Addr}
theorem Keeps.up {a:Addr} {f:Obj → Obj} (hf:∀ o:Obj,o.isFreed = false → (f o).dict = o.dict ∧ (f o).isFreed = false):Keeps (DictIs x d) (update a f):=fun _ _ _ _ _ s h q => by
  refine ⟨q.1,q.2,?_⟩
  obtain ⟨ob,e,hd⟩:=h
  have hfr:=(Heap.get?_some_iff.mp e).2
  by_cases hx:a = x
  · subst hx
    exact ⟨_,Heap.get?_update_self f e (hf ob hfr).2,(hf ob hfr).1.trans hd⟩
  · exact ⟨ob,(Heap.get?_update_other _ f hx).trans e,hd⟩
theorem Keeps.new {o:Obj}:Keeps (DictIs x d) (alloc o):=fun _ _ _ _ _ s h q => by
  obtain ⟨ob,e,hd⟩:=h
  exact ⟨q,ob,Heap.get?_push_of_some _ e,hd⟩
theorem Keeps.flds {v:Value}:Keeps P (fieldsOf v):=by
  unfold fieldsOf
  split
  · refine Keeps.then (Keeps.ld _) fun o => ?_
    split
    · exact Keeps.ret _
    · exact Keeps.no _
  · exact Keeps.no _
theorem Keeps.fld {v:Value} {i:Nat}:Keeps P (field v i):=by
  unfold field
  refine Keeps.then Keeps.flds fun vs => ?_
  split
  · exact Keeps.ret _
  · exact Keeps.no _
theorem Keeps.setF {v u:Value} {i:Nat}:Keeps (DictIs x d) (setField v i u):=by
  unfold setField
  split
  · unfold updateField
    refine Keeps.then (Keeps.ld _) fun o => ?_
    split
    · refine Keeps.ite (Keeps.up fun o ho => ?_) (Keeps.no _)
      obtain ⟨c,dd,dt,sl⟩:=o
      cases dt <;> exact ⟨rfl,ho⟩
    · exact Keeps.no _
  · exact Keeps.no _
theorem Keeps.flight {e:Value} {f:Option Addr}:Keeps (DictIs x d) (setFlight e f):=by
  unfold setFlight
  exact Keeps.then Keeps.fld fun tb => Keeps.ite Keeps.setF (Keeps.ret _)
theorem Keeps.ready:∀ l:List Env,Keeps (DictIs x d) (readyFrames l)
  | [] => Keeps.ret _
  | env :: outer => by
    unfold readyFrames
    split
    · refine Keeps.then (Keeps.ld _) fun o => Keeps.ite (Keeps.ret _) (Keeps.then ?_ fun im => Keeps.then ?_ fun bk => Keeps.then (Keeps.up fun o ho => ⟨rfl,by obtain ⟨c,dd,dt,sl⟩:=o; cases dt <;> first | rfl | exact ho⟩) fun _ => Keeps.ready outer)
      · unfold behindIsImport
        exact Keeps.ite (Keeps.ret _) (Keeps.ite (Keeps.ret _) (Keeps.then Keeps.fld fun _ => Keeps.ret _))
      · cases outer with
        | nil =>
          unfold keptBack
          refine Keeps.ite (Keeps.ret _) (Keeps.then ?_ fun _ => Keeps.ret _)
          unfold underTheClaimsCaller
          exact Keeps.then Keeps.stk fun _ => Keeps.ret _
        | cons c r => exact Keeps.ret _
    · exact Keeps.no _
theorem Keeps.frame {env:Env}:Keeps (DictIs x d) (PySem.frameOf env):=by
  unfold PySem.frameOf
  refine Keeps.then (Keeps.then Keeps.stk fun _ => Keeps.ret _) fun l => Keeps.then ?_ fun r => ?_
  · generalize l.dropWhile (fun y => y.frame != env.frame) = l2
    cases l2 with
    | nil => exact Keeps.ret _
    | cons e r => exact Keeps.then (Keeps.ready (e :: r)) fun _ => Keeps.ret _
  · split
    · exact Keeps.ret _
    · exact Keeps.no _
theorem Keeps.entry {a b c e f:Value} {pl:List Value}:Keeps (DictIs x d) (EntryCells.newEntry a b c e f pl):=by
  unfold EntryCells.newEntry newFields newObj
  have st:∀ (dt:Data) (dd:Option Addr),Keeps (DictIs x d) (newObjAsIs (.type "traceback") dt dd):=fun dt dd => by
    unfold newObjAsIs
    exact Keeps.then Keeps.new fun a => Keeps.ret _
  exact Keeps.ite (Keeps.then (Keeps.no _) fun _ => st _ _) (st _ _)
theorem Keeps.note {e:Value} {env:Env}:Keeps (DictIs x d) (noteFrame e env):=by
  unfold noteFrame
  split
  · rename_i fr _
    refine Keeps.then Keeps.fld fun hd => ?_
    have go:Keeps (DictIs x d) (do setField e 1 (← EntryCells.newEntry hd (← PySem.frameOf env) .none (rawInt fr) .none (← entryPlaceOf fr (hd != .none)))) :=
      Keeps.then Keeps.frame fun _ => Keeps.then (by
        unfold entryPlaceOf
        refine Keeps.then Keeps.stk fun _ => ?_
        split
        · exact Keeps.ret _
        · exact Keeps.ret _) fun _ => Keeps.then Keeps.entry fun _ => Keeps.setF
    exact Keeps.ite (Keeps.then Keeps.fld fun _ => Keeps.ite (Keeps.ret _) (Keeps.then Keeps.setF fun _ => go)) go
  · exact Keeps.no _
theorem Keeps.leave {e:Value} {env:Env}:Keeps (DictIs x d) (leaving env e):=by
  unfold leaving
  exact Keeps.then Keeps.note fun _ => Keeps.flight
end
end L2
namespace L2
open PySem PySem.Spec PyProof.Rows
section
variable {P:Program} {w:World}
theorem ObjOk.there {H:Hp} {h:Heap} {a:Addr} {o:HO} (x:ObjOk P w H h a o):∃ u,h.get? a = some u:=by
  cases o with
  | lst xs => obtain ⟨_,_,_,_,e⟩:=x; exact ⟨_,e⟩
  | tup xs => obtain ⟨_,_,_,ob,e,_⟩:=x; exact ⟨_,e⟩
  | dK kvs => obtain ⟨_,_,_,_,o,_,_,e,_⟩:=x; exact ⟨_,e⟩
  | dT kvs => obtain ⟨_,_,_,_,o,_,_,e,_⟩:=x; exact ⟨_,e⟩
  | set S n => obtain ⟨o,_,_,_,e,_⟩:=x; exact ⟨_,e⟩
  | ins C dx fs => obtain ⟨_,_,_,e,_⟩:=x; exact ⟨_,e⟩
  | own y => exact x
  | xd fs => obtain ⟨_,⟨_,_,_,e,_⟩,_⟩:=x; exact ⟨_,e⟩
  | rng lo hi => obtain ⟨_,_,_,e⟩:=x; exact ⟨_,e⟩
  | frz ob u => obtain ⟨e,_⟩:=x; exact ⟨_,e⟩
  | tbl ps => exact ⟨_,(show h.get? a = some _ from x)⟩
  | met f y => exact ⟨_,(show h.get? a = some _ from x)⟩
  | ext φ => obtain ⟨_,e,_⟩:=x; exact e
structure Fly (P:Program) (w:World) (outer:List Env) (H:Hp) (s:Shared) (x:Addr) (cls:Value) (H':Hp) (s':Shared):Prop where
  os:s'.os = s.os
  bare:AllBare s'.gens
  un:Un (frs outer) [] H H' s.heap s'.heap
  hok:HOk P w H' s'.heap
  fl:∃ B a0,Heap.FlyingW B outer x cls a0 s'.heap ∧ (∀ b o,H' b = some o → ∃ u,B.get? b = some u) ∧ ∀ b o,s.heap.get? b = some o → b ∉ frs outer → ∃ u,B.get? b = some u
  free:H' x = none
noncomputable def CX1 (P:Program) (w:World):CXT:=fun outer H s E e s' => ∃ x cls d H',e = .ref x ∧ Fly P w outer H s x cls H' s' ∧ DictIs x d s' ∧ E cls d H'
end
section
variable {X:Cx} {pins:List (Addr × Obj)} {σ:St} {H H':Hp} {s s':Shared} {x:Addr} {cls:Value} {E:Value → Shared → Prop} {Q:Unit → Shared → Prop}
theorem Inv.notSt (I:Inv X pins σ H s) {b:Addr} (h1:b ≠ X.env.locals) (h2:b ∉ X.fs):b ∉ frs X.stack:=fun z => (List.mem_cons.mp (I.stkSub b z)).elim h1 h2
theorem Inv.oldL (I:Inv X pins σ H s) {b:Addr} {o:Obj} (e:X.s₀.heap.get? b = some o):b ≠ X.env.locals:=Nat.ne_of_lt (Nat.lt_of_lt_of_le (Heap.lt_size e) I.ok.above)
theorem Fly.leave (I:Inv X pins σ H s) (hst:X.stack = X.env :: X.outer) (hfr:X.env.frame = some X.env.locals) (hex:X.ex = []) (f:Fly X.prog X.w X.stack H s x cls H' s') {d:Option Addr} (hdi:DictIs x d s')
    (hQ:∀ s'',Fly X.prog X.w X.outer X.H₀ X.s₀ x cls H' s'' → DictIs x d s'' → Q () s''):wpAny (model X.prog X.w) X.A (leaving X.env (.ref x)) Q E s':=by
  refine wpAny_mono (Keeps.leave.wpAny (E:=E) (Q:=fun _ s'' => Fly X.prog X.w X.outer X.H₀ X.s₀ x cls H' s'') hdi ?_) (fun _ s'' z => hQ s'' z.1 z.2) fun _ _ z => z.1
  obtain ⟨B,a0,fl,c1,c2⟩:=f.fl
  rw [hst] at fl
  have nx:∀ b:Addr,b ∉ X.ex:=fun b => by rw [hex]; simp
  refine wpAny_leaves_onW (by rw [I.ok.frames,hst]) hfr fl fun h' fl' up => ?_
  have st:∀ b o,B.get? b = some o → h'.get? b = some o:=fl'.1
  have same:∀ b u v,B.get? b = some u → s'.heap.get? b = some v → u = v:=fun b u v h1 h2 => by
    have h3:=fl.1 b u h1
    rw [h2] at h3
    exact (Option.some.inj h3).symm
  have slot:∀ b o,X.s₀.heap.get? b = some o → X.H₀ b = none → b ∈ X.fs → ∃ sl,h'.get? b = some { o with slots:=sl }:=fun b o e n hb => by
    obtain ⟨sl,e1⟩:=I.base.slot b o e n hb (nx b)
    obtain ⟨sl2,e2⟩:=f.un.any e1 (I.base.free b o e n (nx b)) (by simp)
    obtain ⟨_,of,ho,hnf⟩:=I.ok.funs.mem hb
    rw [e] at ho
    cases ho
    obtain ⟨sl3,e3⟩:=up b _ e2 hnf
    exact ⟨sl3,e3⟩
  refine ⟨f.os.trans I.os,f.bare,⟨fun b o e n hb _ => ?_,fun b o e n hb _ => slot b o e n hb,fun b o e n _ => ?_,fun b o e _ => ?_,fun b xs e => f.un.tups b xs (I.base.tups b xs e),fun b o u e => f.un.frzs b o u (I.base.frzs b o u e),fun b ps e => ?_⟩,fun a o e => ?_,⟨B,a0,fl',c1,fun b o e hb => ?_⟩,f.free⟩
  · have e1:=I.base.keep b o e n hb (nx b)
    have n1:=I.base.free b o e n (nx b)
    have hb':=I.notSt (I.oldL e) hb
    have e2:=f.un.keep b o e1 n1 hb' (by simp)
    obtain ⟨u,hu⟩:=c2 b o e1 hb'
    exact same b u o hu e2 ▸ st b u hu
  · obtain ⟨o',e1⟩:=I.base.there b o e (nx b)
    exact f.un.free b o' e1 (I.base.free b o e n (nx b)) (by simp)
  · by_cases hb:b ∈ X.fs
    · obtain ⟨sl,e1⟩:=slot b o e (I.ok.frf b hb) hb
      exact ⟨_,e1⟩
    · obtain ⟨o',e1⟩:=I.base.there b o e (nx b)
      obtain ⟨u,hu⟩:=c2 b o' e1 (I.notSt (I.oldL e) hb)
      exact ⟨u,st b u hu⟩
  · obtain ⟨m1,e1⟩:=I.base.tbls b ps e
    obtain ⟨m2,e2⟩:=f.un.tbls b _ e1
    exact ⟨m1 ++ m2,by rw [e2,Array.append_assoc]⟩
  · refine (f.hok a o e).stay (fun b u hb q => ?_) (fun _ q => q) fun _ _ q => q
    have t:∃ o',H' b = some o':=by
      rcases hb with z | z
      · exact ⟨o,by rw [z]; exact e⟩
      · exact ⟨_,z⟩
    obtain ⟨o',e'⟩:=t
    obtain ⟨v,hv⟩:=c1 b o' e'
    exact same b v u hv q ▸ st b v hv
  · obtain ⟨o',e1⟩:=I.base.there b o e (nx b)
    exact c2 b o' e1 (I.notSt (I.oldL e) hb)
theorem Fly.first {oe:Obj} {vs:Array Value} {a0:Value} (I:Inv X pins σ H s) (hst:X.stack = X.env :: X.outer) (hfr:X.env.frame = some X.env.locals) (hex:X.ex = []) (hx:s.heap.get? x = some oe) (hcl:oe.cls = cls) (hdt:oe.data = .fields vs)
    (h1:vs[1]? = some .none) (h0:vs[0]? = some a0) (hn:X.s₀.heap.get? x = none) (hH:H x = none)
    (hQ:∀ s'',Fly X.prog X.w X.outer X.H₀ X.s₀ x cls H s'' → DictIs x oe.dict s'' → Q () s''):wpAny (model X.prog X.w) X.A (leaving X.env (.ref x)) Q E s:=by
  have nx:∀ b:Addr,b ∉ X.ex:=fun b => by rw [hex]; simp
  refine wpAny_mono (Keeps.leave.wpAny (E:=E) (Q:=fun _ s'' => Fly X.prog X.w X.outer X.H₀ X.s₀ x cls H s'') ⟨oe,hx,rfl⟩ ?_) (fun _ s'' z => hQ s'' z.1 z.2) fun _ _ z => z.1
  have hl:s.heap.FunFrames (PySem.W.hideAll s.heap (x :: frs X.stack)) (X.env :: X.outer) :=
    PySem.W.funFrames_hide (base:=X.base) (by rw [← hst]; exact I.stack) fun env he a hf => by
      rw [hst]
      exact .tail _ (List.mem_filterMap.mpr ⟨env,he,hf⟩)
  have hen:(PySem.W.hideAll s.heap (x :: frs X.stack)).get? x = none:=PySem.W.hideAll_none _ (.head _)
  refine wpAny_leaving_firstW (a0:=a0) (by rw [I.ok.frames,hst]) hl hfr hx (fun b o q => PySem.W.of_hideAll _ q) hen hdt h1 h0 fun h' hL => ?_
  obtain ⟨k1,⟨_,_,k2⟩,k3,up⟩:=hL
  rw [hcl] at k3
  have st:∀ b o,s.heap.get? b = some o → b ∉ frs X.stack → b ≠ x → h'.get? b = some o:=fun b o e hb hbx => k1 b o (PySem.W.hideAll_get _ e fun z => (List.mem_cons.mp z).elim hbx hb)
  have old:∀ b o,X.s₀.heap.get? b = some o → b ≠ x:=fun b o e z => by rw [z,hn] at e; cases e
  have slot:∀ b o,X.s₀.heap.get? b = some o → X.H₀ b = none → b ∈ X.fs → ∃ sl,h'.get? b = some { o with slots:=sl }:=fun b o e n hb => by
    obtain ⟨sl,e1⟩:=I.base.slot b o e n hb (nx b)
    obtain ⟨_,of,ho,hnf⟩:=I.ok.funs.mem hb
    rw [e] at ho
    cases ho
    obtain ⟨sl3,e3⟩:=up b _ e1 hnf
    exact ⟨sl3,e3⟩
  have trk:∀ b o,H b = some o → b ∉ frs X.stack ∧ b ≠ x:=fun b o e => ⟨fun z => (by rw [I.stkFree b z] at e; cases e),fun z => (by rw [z,hH] at e; cases e)⟩
  refine ⟨I.os,I.bare,⟨fun b o e n hb _ => st b o (I.base.keep b o e n hb (nx b)) (I.notSt (I.oldL e) hb) (old b o e),fun b o e n hb _ => slot b o e n hb,fun b o e n _ => I.base.free b o e n (nx b),fun b o e _ => ?_,I.base.tups,I.base.frzs,I.base.tbls⟩,fun a o e => ?_,⟨_,_,⟨k1,hen,k2,k3⟩,fun b o e => ?_,fun b o e hb => ?_⟩,hH⟩
  · by_cases hb:b ∈ X.fs
    · obtain ⟨sl,e1⟩:=slot b o e (I.ok.frf b hb) hb
      exact ⟨_,e1⟩
    · obtain ⟨o',e1⟩:=I.base.there b o e (nx b)
      exact ⟨o',st b o' e1 (I.notSt (I.oldL e) hb) (old b o e)⟩
  · refine (I.hok a o e).stay (fun b u hb q => ?_) (fun _ q => q) fun _ _ q => q
    have hb':∃ o',H b = some o':=by
      rcases hb with z | z
      · exact ⟨o,by rw [z]; exact e⟩
      · exact ⟨_,z⟩
    obtain ⟨o',e'⟩:=hb'
    exact st b u q (trk b o' e').1 (trk b o' e').2
  · obtain ⟨u,hu⟩:=(I.hok b o e).there
    exact ⟨u,PySem.W.hideAll_get _ hu fun z => (List.mem_cons.mp z).elim (trk b o e).2 (trk b o e).1⟩
  · obtain ⟨o',e1⟩:=I.base.there b o e (nx b)
    exact ⟨o',PySem.W.hideAll_get _ e1 fun z => (List.mem_cons.mp z).elim (old b o e) (I.notSt (I.oldL e) hb)⟩
theorem Fly.made {h1:Heap} {vs:List Value} (I:Inv X pins σ H s) (hst:X.stack = X.env :: X.outer) (hfr:X.env.frame = some X.env.locals) (hex:X.ex = []) (hx:Heap.MadeExcOf s.heap h1 x cls vs)
    (hQ:∀ s'',Fly X.prog X.w X.outer X.H₀ X.s₀ x cls H s'' → DictIs x none s'' → Q () s''):wpAny (model X.prog X.w) X.A (leaving X.env (.ref x)) Q E { s with heap:=h1 }:=by
  obtain ⟨t,he,_,_⟩:=hx.there
  have I1:Inv X pins σ H { s with heap:=h1 }:=I.kept hx.keeps
  refine Fly.first I1 hst hfr hex he rfl rfl rfl rfl ?_ ?_ hQ
  · cases q:X.s₀.heap.get? x with
    | none => rfl
    | some o =>
      obtain ⟨u,hu⟩:=I.base.there x o q (by rw [hex]; simp)
      have:=hx.new
      rw [hu] at this
      cases this
  · cases q:H x with
    | none => rfl
    | some o =>
      obtain ⟨u,hu⟩:=(I.hok x o q).there
      have:=hx.new
      rw [hu] at this
      cases this
end
section
variable {P:Program} {w:World} {K:PySem.W.Frag} {mg:Str → Option Value} {base:Heap} {N:List Str} {qual:Str} {scope:Scope} {f:Addr} {cd:Value} {A:Around} {outer:List Env} {s:Shared} {H:Hp} {E:XK}
theorem pass1:Passes (CX1 P w) (cxOf (CX1 P w) P w K mg base N qual scope f cd A outer s H E) E:=fun pins σ H1 s1 e s' I h => by
  obtain ⟨x,cls,d,H',rfl,fl,hd,hE⟩:=h
  exact Fly.leave I rfl rfl rfl fl hd fun s'' g gd => ⟨x,cls,d,H',rfl,g,gd,hE⟩
end
theorem ownExc_of {K:PySem.W.Frag} {h:Heap} {mg:Str → Option Value} {c:Str} {C:Addr} {bmB:List Value} {newId:String} (kin:K.In h) (hm:mg c = some (.ref C)) (q:PySem.W.excIn K C bmB newId = true):OwnCls c C bmB newId mg h:=by
  refine ⟨hm,?_⟩
  unfold PySem.W.excIn at q
  split at q
  next ddx cdx slx look =>
    split at q
    next C2 tl z0 z1 z2 z3 nn z5 hmro hsl =>
      simp only [Bool.not_eq_true',Bool.and_eq_true,beq_iff_eq] at q
      obtain ⟨⟨⟨⟨⟨e1,e2⟩,hdel⟩,htl⟩,hok⟩,hni⟩:=q
      obtain ⟨nm,bs,mro,ns,qn,hd,sn,sub,ab,col,del⟩:=cdx
      obtain ⟨sll⟩:=slx
      dsimp only at hmro hdel hok hni hsl
      subst e1 e2 hmro hdel hsl
      exact ⟨tl,ns,nm,qn,bs,hd,sn,sub,ab,col,ddx,z0,z1,z2,z3,z5,_,kin _ _ look,.of_isNs (PySem.W.isNs_of_in kin hok),PySem.W.nsMap_none_of_in kin hok hni,PySem.W.tail_of_in kin htl⟩
    next => cases q
  next => cases q
noncomputable abbrev bmVE:List Value:=[.type "ValueError",.type "Exception",.type "BaseException",.type "object"]
theorem ps_raise {X:Cx} {c:Str} {C:Addr} {e₀:Expr} {es:List Expr} {np cpos pos:Pos} {ta:TA} {W:St → Hp → Prop} (hc:X.calm = true) (hg:Gl X c) (hm:X.mg c = some (.ref C)) (q:PySem.W.excIn X.K C bmVE "ValueError.__new__" = true)
    (ha:PA X (e₀ :: es) ta) (hW:∀ (pins:List (Addr × Obj)) (σ:St) (H:Hp) (s:Shared) (e:Addr) (h1:Heap) (vs:List Value),Inv X pins σ H s → W σ H → Heap.MadeExcOf s.heap h1 e (.ref C) vs → X.xe (.ref e) { s with heap:=h1 })
    (hd:(c == ("__debug__":Str)) = false:=by decide) (he:starEach (e₀ :: es) X.env = (false,eval e₀ X.env) :: starEach es X.env:=by rfl) (hpl:(backTo cpos (starEach es X.env)).any (·.1) = false:=by rfl) :
    PS X (.Raise (some (.Call (.Name c np) (e₀ :: es) [] cpos)) none pos) (fun _ σ H => ta σ H fun vs H1 => vs.length ≤ sizeLine ∧ W σ H1):=by
  intro pins s σ H D I h
  obtain ⟨tl,N,nm,qq,bs,hdct,sn,sub,ab,col,dd,k0,k1,k2,k3,k5,mN,hC,hN,hni,T⟩:=(ownExc_of I.mod.kin hm q).obj
  refine wpAny_Raise_call_subU (C:=C) (nm:=nm) (q:=qq) (N:=N) (bs:=bs) (bm:=tl) (hdct:=hdct) (sn:=sn) (sub:=sub) (ab:=ab) (col:=col) (dd:=dd) (k0:=k0) (k1:=k1) (k2:=k2) (k3:=k3) (k5:=k5)
    PySem.F.excBase_ValueError (by decide +kernel) PySem.F.excBase_ValueError (mN:=mN) (T.hasType PySem.F.excBase_ValueError.hasBase) (I.ok.hd hc) ?_ hni (ld_glob I hg hm ⟨rfl,?_⟩ hd)
  · rw [he]
    show (false || (backTo cpos (starEach es X.env)).any (·.1)) = false
    rw [hpl]
    rfl
  · have h2:=ha cpos pins s σ H _ I h
    rw [he] at h2 ⊢
    refine Calls.evalArgs_plain (wpAny_mono h2 (fun us s2 ⟨vs,H1,I1,rv,hl,hw⟩ => ⟨rfl,?_,I1.bk _ _ hC,hN.keeps I1.bk,T.keeps I1.bk,fun h' e hx => hW pins σ H1 s2 e h' us I1 hw hx⟩) fun _ _ z => z)
    rw [← rv.length]
    exact hl
section
variable {P:Program} {w:World} {K:PySem.W.Frag} {mg:Str → Option Value} {base:Heap}
theorem ps_raise1 {N:List Str} {qual:Str} {scope:Scope} {f:Addr} {cd:Value} {A:Around} {outer:List Env} {s:Shared} {H:Hp} {E:XK} {c:Str} {C:Addr} {e₀:Expr} {es:List Expr} {np cpos pos:Pos} {ta:TA}
    (hg:Gl (cxOf (CX1 P w) P w K mg base N qual scope f cd A outer s H E) c) (hm:mg c = some (.ref C)) (q:PySem.W.excIn K C bmVE "ValueError.__new__" = true) (ha:PA (cxOf (CX1 P w) P w K mg base N qual scope f cd A outer s H E) (e₀ :: es) ta)
    (hd:(c == ("__debug__":Str)) = false:=by decide) (he:starEach (e₀ :: es) (envOfC qual scope s.heap.objs.size f cd) = (false,eval e₀ (envOfC qual scope s.heap.objs.size f cd)) :: starEach es (envOfC qual scope s.heap.objs.size f cd):=by rfl)
    (hpl:(backTo cpos (starEach es (envOfC qual scope s.heap.objs.size f cd))).any (·.1) = false:=by rfl) :
    PS (cxOf (CX1 P w) P w K mg base N qual scope f cd A outer s H E) (.Raise (some (.Call (.Name c np) (e₀ :: es) [] cpos)) none pos) (fun _ σ H => ta σ H fun vs H1 => vs.length ≤ sizeLine ∧ E (.ref C) none H1) :=
  ps_raise (X:=cxOf (CX1 P w) P w K mg base N qual scope f cd A outer s H E) (W:=fun _ H1 => E (.ref C) none H1) rfl hg hm q ha (fun pins σ H s e h1 vs I hw hx => Fly.made I rfl rfl rfl hx fun s'' g gd => ⟨e,.ref C,none,H,rfl,g,gd,hw⟩) hd he hpl
theorem Fun.okX {x qual:Str} {st:Stmt} {f:Addr} {fd:FuncData} {N ps:List Str} {k:Nat} {sp:Sp} (F:Fun K x qual st f fd) (S:FnScope N ps (defScope st)) (len:∀ vs H Q E,sp vs H Q E → vs.length = ps.length)
    (hbody:∀ (cdv:Value) (A:Around) (outer:List Env) (s:Shared) (H:Hp) (vs:List V) (Q:VK) (E:XK),Room k (A.deeper (envOfC qual (defScope st) s.heap.objs.size f cdv)) → sp vs H Q E →
      ∃ t,PSs (cxOf (CX1 P w) P w K mg base N qual (defScope st) f cdv A outer s H E) (defBody st) t ∧ t { nx:=fun _ H' => Q .non H',rt:=Q } (start N vs) H):FnOk P w K mg base (CX1 P w) (k + 1) f fd ps sp:=by
  obtain ⟨oc,od,kV,doc,pm,an,cdv,ct,osl,rfl,lk,hcd⟩:=F.ex
  exact fn_of lk hcd S len fun A outer s H vs Q E hr hsp => hbody cdv A outer s H vs Q E hr hsp
end
end L2
namespace L2
open PySem PySem.Spec PyProof.Rows
section
variable {X:Cx} {pins:List (Addr × Obj)} {σ:St} {H H':Hp} {s s':Shared} {x:Addr} {cls:Value}
theorem Fly.on {h':Heap} (f:Fly X.prog X.w X.stack H s x cls H' s') (I:Inv X pins σ H s) {B:Heap} {a0 a1:Value} (fl:Heap.FlyingW B X.stack x cls a0 s'.heap) (c1:∀ b o,H' b = some o → ∃ u,B.get? b = some u)
    (c2:∀ b o,s.heap.get? b = some o → b ∉ frs X.stack → ∃ u,B.get? b = some u) (fl':Heap.FlyingW B X.stack x cls a1 h') (up:s'.heap.UpToSlots h'):Fly X.prog X.w X.stack H s x cls H' { s' with heap:=h' }:=by
  have st:∀ b o,B.get? b = some o → h'.get? b = some o:=fl'.1
  have same:∀ b u v,B.get? b = some u → s'.heap.get? b = some v → u = v:=fun b u v h1 h2 => by
    have h3:=fl.1 b u h1
    rw [h2] at h3
    exact (Option.some.inj h3).symm
  have slot:∀ b o,s.heap.get? b = some o → H b = none → b ∈ frs X.stack → ∃ sl,h'.get? b = some { o with slots:=sl }:=fun b o e n hb => by
    obtain ⟨sl2,e2⟩:=f.un.any e n (by simp)
    obtain ⟨_,of,ho,hnf⟩:=I.stack.mem hb
    rw [e] at ho
    cases ho
    obtain ⟨sl3,e3⟩:=up b _ e2 hnf
    exact ⟨sl3,e3⟩
  refine ⟨f.os,f.bare,⟨fun b o e n hb _ => ?_,fun b o e n hb _ => slot b o e n hb,f.un.free,fun b o e _ => ?_,f.un.tups,f.un.frzs,f.un.tbls⟩,fun a o e => ?_,⟨B,a1,fl',c1,c2⟩,f.free⟩
  · have e2:=f.un.keep b o e n hb (by simp)
    obtain ⟨u,hu⟩:=c2 b o e hb
    exact same b u o hu e2 ▸ st b u hu
  · by_cases hb:b ∈ frs X.stack
    · obtain ⟨sl,e1⟩:=slot b o e (I.stkFree b hb) hb
      exact ⟨_,e1⟩
    · obtain ⟨u,hu⟩:=c2 b o e hb
      exact ⟨u,st b u hu⟩
  · refine (f.hok a o e).stay (fun b u hb q => ?_) (fun _ q => q) fun _ _ q => q
    have t:∃ o',H' b = some o':=by
      rcases hb with z | z
      · exact ⟨o,by rw [z]; exact e⟩
      · exact ⟨_,z⟩
    obtain ⟨o',e'⟩:=t
    obtain ⟨v,hv⟩:=c1 b o' e'
    exact same b v u hv q ▸ st b v hv
theorem Fly.inv (f:Fly X.prog X.w X.stack H s x cls H' s') (I:Inv X pins σ H s):Inv X pins σ H' s':=I.call' (ch:=[]) f.os f.un f.hok f.bare fun b z => absurd z (by simp)
theorem Fly.there (f:Fly X.prog X.w X.stack H s x cls H' s'):∃ ob,s'.heap.get? x = some ob ∧ ob.cls = cls:=by
  obtain ⟨B,a0,fl,_⟩:=f.fl
  exact fl.there
theorem Fly.again {A:Around} {E:Value → Shared → Prop} {Q:Unit → Shared → Prop} (f:Fly X.prog X.w X.stack H s x cls H' s') (I:Inv X pins σ H s) {d:Option Addr} (hdi:DictIs x d s') (hQ:∀ s'',Fly X.prog X.w X.stack H s x cls H' s'' → DictIs x d s'' → Q () s'') :
    wpAny (model X.prog X.w) A (setFlight (.ref x) none) Q E s':=by
  refine wpAny_mono (Keeps.flight.wpAny (E:=E) (Q:=fun _ s'' => Fly X.prog X.w X.stack H s x cls H' s'') hdi ?_) (fun _ s'' z => hQ s'' z.1 z.2) fun _ _ z => z.1
  obtain ⟨B,a0,fl,c1,c2⟩:=f.fl
  exact lands_againW fl fun h' fl' up => f.on I fl c1 c2 fl' up
theorem Fly.look {E E2:Value → Shared → Prop} {Q:Unit → Shared → Prop} (f:Fly X.prog X.w X.stack H s x cls H' s') (I:Inv X pins σ H s) (hst:X.stack = X.env :: X.outer) (hfr:X.env.frame = some X.env.locals) {d:Option Addr} (hdi:DictIs x d s')
    (hQ:∀ s'',Fly X.prog X.w X.stack H s x cls H' s'' → DictIs x d s'' → Q () s''):wpAny (model X.prog X.w) X.A (noteFrame (.ref x) X.env) (fun _ s2 => wpAny (model X.prog X.w) X.A (setFlight (.ref x) none) Q E2 s2) E s':=by
  obtain ⟨B,a0,fl,c1,c2⟩:=f.fl
  have fl0:=fl
  rw [hst] at fl
  refine wpAny_mono (Keeps.note.wpAny (E:=E) (Q:=fun _ s2 => wpAny (model X.prog X.w) X.A (setFlight (.ref x) none) (fun _ s'' => Fly X.prog X.w X.stack H s x cls H' s'') E2 s2) hdi ?_) (fun _ s2 z => ?_) fun _ _ z => z.1
  · refine wpAny_looks_onW (by rw [I.ok.frames,hst]) hfr fl fun h' hd up => ?_
    refine wpAny_landsW hd fun h2 fl2 up2 => ?_
    rw [← hst] at fl2
    exact f.on I fl0 c1 c2 fl2 (up.trans up2)
  · exact wpAny_mono (Keeps.flight.wpAny z.2 z.1) (fun _ s'' y => hQ s'' y.1 y.2) fun _ _ y => y.1
end
noncomputable abbrev Cx.inE (X:Cx) (e:Addr):Cx:={ X with A:=X.A.mark (some (.ref e)),calm:=false }
section
variable {X:Cx} {pins:List (Addr × Obj)} {σ:St} {H:Hp} {s:Shared}
theorem Cx.Ok.inE {e:Addr} (ok:X.Ok):(X.inE e).Ok:=⟨ok.mod,ok.kind,ok.glob,ok.blt,ok.above,ok.inj,ok.has,ok.cab,fun z => absurd z (by simp),ok.frames,ok.stk,ok.exf,ok.bs,ok.bsz,ok.noex,ok.exfs,ok.funs,ok.frf⟩
theorem Inv.inE {e:Addr} (I:Inv X pins σ H s):Inv (X.inE e) pins σ H s:=⟨I.ok.inE,I.os,I.bare,I.base,I.loc,I.cell,I.free,I.freeC,I.pin,I.hok,I.len⟩
theorem Inv.outE {e:Addr} {E:Value → Shared → Prop} (ok:X.Ok) (I:Inv ((X.inE e).wish E) pins σ H s):Inv X pins σ H s:=⟨ok,I.os,I.bare,I.base,I.loc,I.cell,I.free,I.freeC,I.pin,I.hok,I.len⟩
theorem SP.outE {e:Addr} {E:Value → Shared → Prop} {D:Ends} {f:Flow} {s':Shared} (ok:X.Ok) (h:SP ((X.inE e).wish E) pins D f s'):SP X pins D f s':=by
  cases f with
  | next => obtain ⟨σ',H',I,q⟩:=h; exact ⟨σ',H',I.outE ok,q⟩
  | brk => obtain ⟨σ',H',I,q⟩:=h; exact ⟨σ',H',I.outE ok,q⟩
  | cont => obtain ⟨σ',H',I,q⟩:=h; exact ⟨σ',H',I.outE ok,q⟩
  | ret u => obtain ⟨v,σ',H',I,r,q⟩:=h; exact ⟨v,σ',H',I.outE ok,r,q⟩
end
noncomputable abbrev TH:=Ends → Value → Option Addr → Addr → St → Hp → Prop
noncomputable def PH (X:Cx) (hs:List ExceptHandler) (t:TH):Prop :=
  ∀ (pins:List (Addr × Obj)) (σ:St) (H H':Hp) (s s':Shared) (D:Ends) (cls:Value) (d:Option Addr) (e:Addr),Inv X pins σ H s → Fly X.prog X.w X.stack H s e cls H' s' → DictIs e d s' → t D cls d e σ H' →
    wpAny (model X.prog X.w) X.A (handleBy (.ref e) X.env hs) (SP X pins D) X.xe s'
theorem ph_nil {X:Cx}:PH X [] (fun _ _ _ _ _ _ => False):=fun _ _ _ _ _ _ _ _ _ _ _ _ _ h => h.elim
noncomputable def etry (X:Cx) (hs:List ExceptHandler) (pins:List (Addr × Obj)) (D:Ends):Value → Shared → Prop:=fun e s1 =>
  wpAny (model X.prog X.w) X.A (noteFrame e X.env) (fun _ s2 => wpAny (model X.prog X.w) X.A (setFlight e none) (fun _ s3 => wpAny (model X.prog X.w) X.A (handleBy e X.env hs) (SP X pins D) X.xe s3) X.xe s2) X.xe s1
noncomputable abbrev Cx.tryIn (X:Cx) (hs:List ExceptHandler) (pins:List (Addr × Obj)) (D:Ends):Cx:={ X with pn:=X.pn ++ pins,xe:=etry X hs pins D }
section
variable {X:Cx} {hs:List ExceptHandler} {pins pins':List (Addr × Obj)} {D D':Ends} {σ:St} {H:Hp} {s:Shared}
theorem Cx.Ok.tryIn (ok:X.Ok):(X.tryIn hs pins D).Ok:=⟨ok.mod,ok.kind,ok.glob,ok.blt,ok.above,ok.inj,ok.has,ok.cab,ok.hd,ok.frames,ok.stk,ok.exf,ok.bs,ok.bsz,ok.noex,ok.exfs,ok.funs,ok.frf⟩
theorem Cx.Ok.tryOut (ok:(X.tryIn hs pins D).Ok):X.Ok:=⟨ok.mod,ok.kind,ok.glob,ok.blt,ok.above,ok.inj,ok.has,ok.cab,ok.hd,ok.frames,ok.stk,ok.exf,ok.bs,ok.bsz,ok.noex,ok.exfs,ok.funs,ok.frf⟩
theorem Inv.tryIn (I:Inv X pins σ H s):Inv (X.tryIn hs pins D) [] σ H s:=⟨I.ok.tryIn,I.os,I.bare,I.base,I.loc,I.cell,I.free,I.freeC,fun p hp => I.pin p (by simpa using hp),I.hok,I.len⟩
theorem Inv.tryOut (I:Inv (X.tryIn hs pins D) pins' σ H s):Inv X pins σ H s:=⟨I.ok.tryOut,I.os,I.bare,I.base,I.loc,I.cell,I.free,I.freeC,fun p hp => I.pin p (List.mem_append_left _ hp),I.hok,I.len⟩
theorem SP.tryOut {f:Flow} {s':Shared} (h:SP (X.tryIn hs pins D') [] D f s'):SP X pins D f s':=by
  cases f with
  | next => obtain ⟨σ',H',I,q⟩:=h; exact ⟨σ',H',I.tryOut,q⟩
  | brk => obtain ⟨σ',H',I,q⟩:=h; exact ⟨σ',H',I.tryOut,q⟩
  | cont => obtain ⟨σ',H',I,q⟩:=h; exact ⟨σ',H',I.tryOut,q⟩
  | ret u => obtain ⟨v,σ',H',I,r,q⟩:=h; exact ⟨v,σ',H',I.tryOut,r,q⟩
end
theorem ps_try {X:Cx} {body:List Stmt} {h₀:ExceptHandler} {hs:List ExceptHandler} {pos:Pos} {tb:Ends → TS} (hb:∀ pins D,PSs (X.tryIn (h₀ :: hs) pins D) body (tb D)):PS X (.Try body (h₀ :: hs) [] [] pos) (fun D σ H => tb D D σ H):=by
  intro pins s σ H D I h
  refine wpAny_Try_except (wpAny_mono (hb pins D [] s σ H D I.tryIn h) (fun f s1 q => ?_) fun _ _ z => z)
  have q':=SP.tryOut q
  cases f with
  | next => exact wpAny_execs_nil q'
  | brk => exact q'
  | cont => exact q'
  | ret u => exact q'
theorem passT {X:Cx} {hs:List ExceptHandler} {pins:List (Addr × Obj)} {D:Ends} {th:TH} (hst:X.stack = X.env :: X.outer) (hfr:X.env.frame = some X.env.locals) (hh:PH X hs th) :
    ∀ (pins':List (Addr × Obj)) (σ:St) (H:Hp) (s:Shared) (e:Value) (s':Shared),Inv (X.tryIn hs pins D) pins' σ H s → CX1 X.prog X.w X.stack H s (fun cls d H' => ∀ x,H' x = none → th D cls d x σ H') e s' → (X.tryIn hs pins D).xe e s':=by
  intro pins' σ H s e s' I h
  obtain ⟨x,cls,d,H',rfl,f,hdi,hE⟩:=h
  have I0:Inv X pins σ H s:=I.tryOut
  exact Fly.look f I0 hst hfr hdi fun s'' f2 d2 => hh pins σ H H' s s'' D cls d x I0 f2 d2 (hE x f.free)
section
variable {X:Cx} {CX:CXT} {k:Nat} {f C:Addr} {fd:FuncData} {ps:List Str} {sp:Sp} {dvs:List V} {ds:List Value} {E:St → XK} {x m:Str} {p pos apos:Pos} {e o:Expr} {es:List Expr} {ta:TE} {t:TA}
theorem pe_callE (F:FnOk X.prog X.w X.K X.mg X.base CX k f fd ps sp) (hr:Room k X.A) (hg:Gl X x) (hm:X.mg x = some (.ref f)) (hk:PySem.W.keepIn X.K (.ref f) = true) (hb:Binds X.K fd ps ds) (hd:Vals dvs ds)
    (hx:∀ (pins:List (Addr × Obj)) (σ:St) (H:Hp) (s:Shared) (e:Value) (s':Shared),Inv X pins σ H s → CX X.stack H s (E σ) e s' → X.xe e s') (ha:PA X (e :: es) t)
    (hdb:(x == ("__debug__":Str)) = false:=by decide) (he:starEach (e :: es) X.env = (false,eval e X.env) :: starEach es X.env:=by rfl) (hpl:(backTo pos (starEach es X.env)).any (·.1) = false:=by rfl) :
    PE X (.Call (.Name x p) (e :: es) [] pos) (fun σ H Q => t σ H fun vs H1 => sp (vs ++ dvs) H1 Q (E σ)):=by
  intro pins s σ H Q I h
  refine wpAny_Call_Name_kw (ld_glob I hg hm ?_ hdb)
  refine PySem.W.callWith_K (h₀:=X.base) I.ok.mod.kin hk (thn (ha pos pins s σ H _ I h) fun us s1 ⟨vs,H1,I1,r,q⟩ => ⟨I1.kIn,?_⟩) he hpl
  have r2:Vals (vs ++ dvs) (us ++ ds):=r.append hd
  have hl:(us ++ ds).length = ps.length:=by rw [← r2.length]; exact F.len _ _ _ _ q
  refine wpAny_call (codeAny_mono (F.run X.A X.stack s1 H1 ⟨us,[]⟩ (us ++ ds) (vs ++ dvs) Q (E σ) hr I1.env0 (hb s1 us I1.kIn hl) r2 q) fun r s' hq => ?_)
  cases r with
  | error e => exact hx pins σ H1 s1 e s' I1 hq
  | ok fl =>
    cases fl with
    | ret u => exact I1.after hq
    | next => exact False.elim hq
    | brk => exact False.elim hq
    | cont => exact False.elim hq
end
end L2
namespace L2
open PySem PySem.Spec PyProof.Rows
section
variable {X:Cx} {pos:Pos} {e:Expr} {es:List Expr} {te:TE}
noncomputable abbrev TJ:=St → Hp → (Hp → Prop) → Prop
noncomputable def PJ (X:Cx) (es:List Expr) (t:TJ):Prop :=
  ∀ (pins:List (Addr × Obj)) (s:Shared) (σ:St) (H:Hp) (acc:Str) (Z:Hp → Prop),acc.length + 2000000 * es.length ≤ sizeLine → Inv X pins σ H s → t σ H Z →
    Joins (model X.prog X.w) X.A X.xe (evalEach es X.env) acc (fun out s1 => out.length ≤ sizeLine ∧ ∃ H1,Inv X pins σ H1 s1 ∧ Z H1) s
theorem pj_nil:PJ X [] (fun _ H Z => Z H):=fun _ _ _ H _ _ hz I h => ⟨Nat.le_trans (Nat.le_add_right _ _) hz,H,I,h⟩
theorem pj_cons {tj:TJ} (he:PE X e te) (hr:PJ X es tj):PJ X (e :: es) (fun σ H Z => te σ H fun v H1 => ∃ y:Str,v = .str y ∧ y.length ≤ 2000000 ∧ tj σ H1 Z):=by
  intro pins s σ H acc Z hz I h
  refine thn (he pins s σ H _ I h) fun u s1 ⟨v,H1,I1,r,y,hv,hy,q⟩ => ?_
  subst hv
  obtain ⟨t,rfl⟩:=r
  have e1:(acc ++ y).length = acc.length + y.length:=by
    show Array.size (acc.cps ++ y.cps) = _
    rw [Array.size_append]
    rfl
  have e2:(e :: es).length = es.length + 1:=rfl
  rw [e2] at hz
  refine ⟨y,t,rfl,by omega,hr pins s1 σ H1 (acc ++ y) Z (by omega) I1 q⟩
theorem pe_fstr {v1 v2:Expr} {rest:List Expr} {tj:TJ} (hj:PJ X (v1 :: v2 :: rest) tj) (hl:(v1 :: v2 :: rest).length ≤ 8) :
    PE X (.JoinedStr (v1 :: v2 :: rest) pos) (fun σ H Q => tj σ H fun H1 => ∀ z:Str,z.length ≤ sizeLine → Q (.str z) H1):=by
  intro pins s σ H Q I h
  have hz:Str.empty.length + 2000000 * (v1 :: v2 :: rest).length ≤ sizeLine:=by
    have e0:Str.empty.length = 0:=rfl
    rw [sizeLine_eq,e0]
    rw [Nat.zero_add]
    exact Nat.le_trans (Nat.mul_le_mul_left _ hl) (Nat.le_of_ble_eq_true rfl)
  refine wpAny_JoinedStr ?_
  have j:=hj pins s σ H Str.empty _ hz I h
  exact joins_mono _ _ (fun out s1 ⟨h1,H1,I1,q⟩ => ⟨h1,.str out,H1,I1.tok _,⟨_,rfl⟩,q out h1⟩) _ j
where joins_mono {M:Model} {A:Around} {E:Value → Shared → Prop}:∀ (parts:List (Sem Value)) (acc:Str) {Q Q':Str → Shared → Prop},(∀ out s,Q out s → Q' out s) → ∀ s,Joins M A E parts acc Q s → Joins M A E parts acc Q' s
  | [],acc,_,_,hq,s,h => hq _ _ h
  | x :: rest,acc,_,_,hq,s,h => thn (show wpAny _ _ _ _ _ _ from h) fun v s1 ⟨y,t,e1,e2,e3⟩ => ⟨y,t,e1,e2,joins_mono rest (acc ++ y) hq s1 e3⟩
theorem pe_fv (he:PE X e te):PE X (.FormattedValue e (-1) none pos) (fun σ H Q => te σ H fun v H1 => (∃ y:Str,v = .str y ∧ y.length ≤ sizeLine ∧ Q (.str y) H1) ∨ ∃ i:Int,v = .int i ∧ i.natAbs.log2 < 1920 ∧ Q (.str (toString i)) H1):=by
  intro pins s σ H Q I h
  refine FormattedValue_plain (thn (he pins s σ H _ I h) fun u s1 ⟨v,H1,I1,r,q⟩ => ?_)
  rcases q with ⟨y,rfl,hy,q⟩ | ⟨i,rfl,hi,q⟩
  · obtain ⟨t,rfl⟩:=r
    exact formatField_str (fun t' tk => ⟨.str y,H1,I1.tok _,⟨_,rfl⟩,q⟩) hy
  · obtain ⟨t,rfl⟩:=r
    exact formatField_int_small hi ⟨.str _,H1,I1.tok _,⟨_,rfl⟩,q⟩
theorem pe_fr (he:PE X e te):PE X (.FormattedValue e 114 none pos) (fun σ H Q => te σ H fun v H1 => ∃ y:Str,v = .str y ∧ PyData.strOk y = true ∧ y.length ≤ 9000 ∧ ∀ z:Str,z.length ≤ 100000 → Q (.str z) H1):=by
  intro pins s σ H Q I h
  refine wpAny_FormattedValue_repr (thn (he pins s σ H _ I h) fun u s1 ⟨v,H1,I1,r,y,hv,hok,hy,q⟩ => ?_)
  subst hv
  obtain ⟨t,rfl⟩:=r
  have hl:=StrLaws.reprText_len y fun c hc => by
    have h1:y.cps.all (· < 0x110000) = true:=hok
    rw [Array.all_eq_true_iff_forall_mem] at h1
    have h2:=h1 c (by simpa using hc)
    have h3:c < 0x110000:=by simpa using h2
    exact Nat.lt_trans h3 (by decide)
  have hz:(reprText y).length ≤ sizeLine:=Nat.le_trans hl (by rw [sizeLine_eq]; omega)
  refine wpAny_pyReprObj_str ?_ hz
  exact formatField_str (fun t' tk => ⟨.str _,H1,(I1.tok _).tok _,⟨_,rfl⟩,q _ (by omega)⟩) hz
end
end L2
namespace L2
open PySem PySem.Spec PyProof.Rows
section
variable {prog:Program} {w:World} {A:Around} {s:Shared} {E:Value → Shared → Prop} {K:Type} [DecidableEq K] {knd:KeyKind prog w K}
end
section
variable {X:Cx}
theorem valV_nodup {kvs:List (Key × V)} (hn:(kvs.map (·.1)).Nodup):∀ p ∈ kvs,valV kvs p.1 = some p.2:=by
  intro p hp
  induction kvs with
  | nil => cases hp
  | cons q r ih =>
    have hn:=List.nodup_cons.mp (List.map_cons ▸ hn)
    unfold valV
    rw [List.find?_cons]
    by_cases e:q.1 = p.1
    · have eq:q = p:=by
        rcases List.mem_cons.mp hp with z | z
        · exact z.symm
        · exact absurd (List.mem_map.mpr ⟨p,z,e.symm⟩) hn.1
      rw [decide_eq_true e,eq] <;> rfl
    · rw [decide_eq_false e]
      have hp':p ∈ r:=(List.mem_cons.mp hp).resolve_left fun z => e (by rw [z])
      exact ih hn.2 hp'
theorem call_dict_dK:CallR X (.type "dict") (fun xs H Q => ∃ a kvs,xs = [.ref a] ∧ H a = some (.dK kvs) ∧ ∀ l,H l = none → Q (.ref l) (upd H l (.dK kvs))):=by
  intro pins s σ H xs us Q I r h
  obtain ⟨a,kvs,rfl,ha,q⟩:=h
  obtain ⟨u,rfl,ru⟩:=vals1 r
  cases ru
  obtain ⟨z,hd,vs,rel,dd⟩:=dk_of I.hok ha
  refine PySem.kt_call_dict hd dd (by rw [← rel.length]; exact z) fun h' dd' hs => ?_
  have keep:∀ b o,s.heap.get? b = some o → h'.get? b = some o:=fun b o e => (hs.2 b (Nat.ne_of_lt (Heap.lt_size e))).trans (Heap.get?_push_of_some _ e)
  refine ⟨.ref s.heap.objs.size,_,I.laid (o:=.dK kvs) (t':=s.toks) keep (Nat.le_refl _) ⟨z,beq_eq_false_iff_ne.mpr (Ne.symm (Nat.ne_of_lt I.big)),vs,rel,dd'⟩,rfl,q _ (I.hok.fresh (Nat.le_refl _))⟩
theorem dK_nodup {pins:List (Addr × Obj)} {σ:St} {H:Hp} {s:Shared} {a:Addr} {kvs:List (Key × V)} (I:Inv X pins σ H s) (e:H a = some (.dK kvs)):(kvs.map (·.1)).Nodup:=by
  obtain ⟨_,_,vs,rel,dd⟩:=dk_of I.hok e
  obtain ⟨_,_,_,_,_,_,_,_,hn⟩:=dd
  have ek:∀ {l:List (Key × V)} {m:List (Key × Value)},KV l m → l.map (·.1) = m.map (·.1):=fun {l m} p => by
    unfold KV at p
    induction p with
    | nil => rfl
    | cons h _ ih => rw [List.map_cons,List.map_cons,ih,h.1]
  rw [ek rel]
  exact hn
noncomputable def rSameD (neg:Bool):R2:=fun x y H Q => ∃ a b kvs,x = .ref a ∧ y = .ref b ∧ H a = some (.dK kvs) ∧ H b = some (.dK kvs) ∧ (∀ p ∈ kvs,∃ c,p.2 = .ref c) ∧ Q (.bl (!neg)) H
theorem keq_all {A:Around} {s:Shared} {H:Hp} {kvs:List (Key × V)} {vs us:List (Key × Value)} (r1:KV kvs us) (hr:∀ p ∈ kvs,∃ c,p.2 = .ref c) (hn:(kvs.map (·.1)).Nodup):∀ {l:List (Key × V)} {m:List (Key × Value)},KV l m → (∀ p ∈ l,p ∈ kvs) → PySem.W.KeqHits A s us m true:=by
  intro l m p
  unfold KV at p
  induction p with
  | nil => intro _; exact .nil
  | @cons a b as bs h t ih =>
    intro hm
    have ha:=hm a List.mem_cons_self
    obtain ⟨c,hc⟩:=hr a ha
    have hv:=valV_nodup hn a ha
    have hx:=r1.val a.1
    rw [hv,hc] at hx
    obtain ⟨b1,b2⟩:=b
    obtain ⟨e1,e2⟩:=h
    rw [hc] at e2
    have e3:b2 = Value.ref c:=e2
    have e1':a.1 = b1:=e1
    rw [e1'] at hx
    obtain ⟨y,hy,ry⟩:=RelO.some_of (v:=V.ref c) (o:=valueAt us b1) hx
    have e4:y = Value.ref c:=ry
    subst e3 e4
    exact PySem.W.KeqHits.hit (e:=true) (b:=true) hy (SeqAt.EqAt.same _) (ih fun p hp => hm p (List.mem_cons_of_mem _ hp))
theorem op_eqSame (hu:X.A.units + 1 < cLine):OpR X (compareOp .Eq) (rSameD false):=by
  intro pins s σ H x y v u Q I rx ry h
  obtain ⟨a,b,kvs,rfl,rfl,ha,hb,hr,q⟩:=h
  cases rx
  cases ry
  obtain ⟨za,ka,va,ra,da⟩:=dk_of I.hok ha
  obtain ⟨zb,kb,vb,rb,db⟩:=dk_of I.hok hb
  refine PySem.W.keq_eq ka kb da db (by omega) (fun _ => keq_all (H:=H) (vs:=va) rb hr (dK_nodup I ha) ra fun p hp => hp) ?_
  rw [← ra.length,← rb.length,beq_self_eq_true]
  exact ⟨.bl _,H,I,rfl,q⟩
end
end L2
namespace L2
open PySem PySem.Spec PyProof.Rows
structure ExcCls (K:PySem.W.Frag) (D:Addr):Prop where
  is:(match K.lookup D with | some ⟨_,_,.cls _,_⟩ => true | _ => false) = true
  ga:PySem.W.findIn K (.ref D) "__getattribute__" = some (some (.builtin "BaseException.__getattribute__"))
  gh:PySem.W.findIn K (.ref D) "__getattr__" = some none
  cl:PySem.W.findIn K (.ref D) "__class__" = some (some (.builtin "object.__class__"))
  sp:PySem.W.specialIn K (.builtin "object.__class__") "__get__" = some (some (.builtin "getset_descriptor.__get__"))
  tk:PySem.W.takesIn K (.builtin "object.__class__") = some true
  ob:PySem.W.mroIn K D (.type "object") = some true
  be:PySem.W.mroIn K D (.type "BaseException") = some true
section
variable {prog:Program} {w:World} {A:Around} {E:Value → Shared → Prop} {s:Shared} {K:PySem.W.Frag} {x D:Addr}
theorem find_data {M:Model} {h:Heap} {a g:Value} {nm:Str} (X:K.In h) (ha:PySem.W.findIn K (.ref D) nm = some (some a)) (hg:PySem.W.specialIn K a "__get__" = some (some g)) (ht:PySem.W.takesIn K a = some true) :
    PySem.W.Looks M h (Builtin.ObjectAttr.find (.ref x) (.ref D) nm) (.bind g a):=by
  have z1:=PySem.W.looks_findIn (M:=M) X ha
  have z2:PySem.W.Looks M h (Builtin.ObjectAttr.getOf (some a)) (some g):=PySem.W.looks_specialIn X hg
  have z3:=PySem.W.looks_takesIn (M:=M) X ht
  have z4:PySem.W.Looks M h (Builtin.ObjectAttr.dataDescriptor? (some a) (some g)) (some (g,a)):=z3.andThen .now
  exact z1.andThen (z2.andThen (z4.andThen (PySem.W.Looks.tag .now)))
theorem exc_get {tp:Value} {R:Result → Shared → Prop} (X:K.In s.heap) (LT:PySem.W.Looks (model prog w) s.heap (typeOf (.ref x)) (.ref D)) (hm:PySem.W.mroIn K D (.type "object") = some true) (h:R (.ok (.ret (.ref D))) s) :
    codeAny (model prog w) A (.call (.builtin "getset_descriptor.__get__") ⟨[.builtin "object.__class__",.ref x,tp],[]⟩) R s:=by
  obtain ⟨hh,gs,dr,tt,oss⟩:=s
  have LM:=PySem.W.looks_mroIn (M:=model prog w) X hm
  refine codeAny_call_builtin PySem.W.KF.slot_gs.plain PySem.W.KF.entry_gs (PySem.W.KF.slot_gs.check _ _ _ _ _ _ _ _ PySem.W.KF.type_class (PySem.W.KF.args_gs _ _ _) ?_)
  unfold Builtin.«getset_descriptor.__get__» Builtin.Getset_descriptor.descrGet
  rw [PySem.W.dga_obj]
  refine wpAny_bind (wpAny_pure ?_)
  unfold Builtin.Getset_descriptor.descrGetter Builtin.Getset_descriptor.descrCheckInstance Builtin.Getset_descriptor.descrNameAndClass isInstance
  simp only [PySem.W.KF.owner_class]
  repeat lk
  refine ⟨Code.quiet_builtin _ (by decide +kernel),codeAny_builtin PySem.W.KF.entry_class ?_⟩
  unfold Builtin.«object.__class__» shownTypeOf
  repeat lk
  exact h
theorem exc_gaCall {tk:Tok} {R:Result → Shared → Prop} (c:ExcCls K D) (X:K.In s.heap) (LT:PySem.W.Looks (model prog w) s.heap (typeOf (.ref x)) (.ref D)) (h:R (.ok (.ret (.ref D))) s) :
    codeAny (model prog w) A (.call (.builtin "BaseException.__getattribute__") ⟨[.ref x,.str "__class__" tk],[]⟩) R s:=by
  obtain ⟨hh,gs,dr,tt,oss⟩:=s
  have LF:=find_data (M:=model prog w) (x:=x) X c.cl c.sp c.tk
  have LI:PySem.W.Looks (model prog w) hh (isInstance (.ref x) (.type "BaseException")) true:=LT.andThen (PySem.W.looks_mroIn (M:=model prog w) X c.be)
  have hk:builtinKind "BaseException.__getattribute__" = some Manifest.AttrKind.slot:=by decide +kernel
  have hsp:splitId "BaseException.__getattribute__" = some ("BaseException","__getattribute__"):=by decide +kernel
  refine codeAny_call_builtin PySem.F.attr_ValueError.ga.plain PySem.F.entry_bexc_ga ?_
  simp only [checkBuiltinCall,hk,hsp]
  have hargs:=PySem.F.args_bexc_ga (.ref x) (.str "__class__" tk)
  refine wpAny_bind (LI.at ?_)
  first
    | (rw [if_neg (by decide)]; refine wpAny_of_eq hargs ?_)
    | refine wpAny_of_eq hargs ?_
  unfold Builtin.«object.__getattribute__»
  refine wpAny_bind (wpAny_pure (wpAny_bind (wpAny_pure (wpAny_bind (LT.at (wpAny_bind (LF.at ?_)))))))
  show wpAny _ _ (holding [.builtin "object.__class__"] (call (.builtin "getset_descriptor.__get__") [.builtin "object.__class__",.ref x,.ref D]) >>= ret) _ _ _
  exact wpAny_bind (wpAny_holding (wpAny_call (exc_get X LT c.ob (wpAny_pure h))))
theorem exc_class {Q:Option Value → Shared → Prop} (c:ExcCls K D) (X:K.In s.heap) (LT:PySem.W.Looks (model prog w) s.heap (typeOf (.ref x)) (.ref D)) (h:Q (some (.ref D)) { s with toks:=s.toks + 1 }) :
    wpAny (model prog w) A (getAttr? (.ref x) "__class__") Q E s:=by
  obtain ⟨hh,gs,dr,tt,oss⟩:=s
  have LG:=PySem.W.looks_findIn (M:=model prog w) X c.ga
  have LH:=PySem.W.looks_findIn (M:=model prog w) X c.gh
  have hb:=PySem.F.attr_ValueError.ga.bind (.ref x)
  unfold getAttr? getAttrBy? getAttrBy
  refine wpAny_bind (wpAny_mkText (wpAny_bind (wpAny_attempt (wpAny_holding (wpAny_bind (LT.at (wpAny_bind (LG.at ?_))))))))
  show wpAny _ _ (getAttrByItsOwn _ _ _ _ _ _) _ _ _
  unfold getAttrByItsOwn hookBefore
  refine wpAny_bind (LH.at ?_)
  refine wpAny_bind (wpAny_attempt (wpAny_holding ?_))
  show wpAny _ _ (boundAndCalled _ _ _) _ _ _
  unfold boundAndCalled
  refine wpAny_bind (wpAny_of_eq hb ?_)
  show wpAny _ _ (call (.builtin "BaseException.__getattribute__") [.ref x,.str "__class__" tt]) _ _ _
  refine wpAny_call (exc_gaCall (s:=⟨hh,gs,dr,tt + 1,oss⟩) c X LT ?_)
  refine PySem.W.handed_on rfl ?_
  exact wpAny_pure h
noncomputable def excAt (x:Addr) (cls:Value) (d:Option Addr) (h:Heap):Prop:=∃ o vs,h.get? x = some o ∧ o.cls = cls ∧ o.dict = d ∧ o.data = .fields vs
theorem excAt_ty {cls:Value} {d:Option Addr} (M:Model) (h:Heap) (p:excAt x cls d h):PySem.W.Looks M h (typeOf (.ref x)) cls:=by
  obtain ⟨o,vs,h1,h2,_⟩:=p
  rw [← h2]
  exact (PySem.W.Looks.ld h1).andThen .now
theorem kitx_exc {d:Option Addr} (c:ExcCls K D):PySem.W.KitX K (.ref x) (.ref D) (excAt x (.ref D) d) where
  ty:=fun M h _ p => excAt_ty M h p
  it:=fun _ _ X _ => by
    have q:=c.is
    split at q
    · rename_i ho
      intro A' Q' E' s' k z
      unfold isType loadHead
      exact wpAny_bind (wpAny_loadPart (k _ _ (X _ _ ho)) (wpAny_pure z))
    · cases q
  ne:=fun _ t _ _ _ _ X ht => by
    cases hb:(Value.ref D == Value.ref t) with
    | false => rfl
    | true =>
      obtain rfl:D = t:=Value.ref.inj (beq_iff_eq.mp hb)
      have q:=c.is
      split at q
      · next ho => exact nomatch (X _ _ ho).symm.trans ht
      · cases q
  ca:=fun X p k => exc_class c X (excAt_ty _ _ p) k
end
section
variable {X:Cx}
theorem call_isiX {D:Addr} (c:ExcCls X.K D):CallR X (.builtin "isinstance") (fun xs H Q => ∃ e d y u b,xs = [.ref e,y] ∧ RelV y u ∧ (∀ u',RelV y u' → u' = u) ∧ H e = some (.ext (excAt e (.ref D) d)) ∧ PySem.W.kitOne X.K (.ref D) u = some b ∧ Q (.bl b) H):=by
  intro pins s σ H xs us Q I rv h
  obtain ⟨e,d,y,u,b,rfl,_,hu,he,hk,q⟩:=h
  obtain ⟨u1,u2,rfl,r1,r2⟩:=rv.two
  cases r1
  rw [hu u2 r2]
  obtain ⟨p,_,_⟩:=(show ObjOk X.prog X.w H s.heap e (.ext (excAt e (.ref D) d)) from I.hok e _ he)
  exact PySem.W.kia_one (kitx_exc c) I.kIn p hk (fun z => nomatch z) fun tk => ⟨.bl b,H,I.tok _,rfl,q⟩
end
section
variable {X:Cx} {pins:List (Addr × Obj)} {σ:St} {H H':Hp} {s s':Shared} {x:Addr} {cls:Value}
theorem Fly.new (I:Inv X pins σ H s) (f:Fly X.prog X.w X.stack H s x cls H' s'):s.heap.get? x = none:=by
  cases e:s.heap.get? x with
  | none => rfl
  | some o =>
    obtain ⟨B,a0,fl,c1,c2⟩:=f.fl
    by_cases hb:x ∈ frs X.stack
    · obtain ⟨_,of,ho,hnf⟩:=fl.2.2.1.mem hb
      obtain ⟨oe,vs,hoe,_,hd,_⟩:=fl.first
      rw [ho] at hoe
      cases hoe
      exact absurd hd (hnf vs)
    · obtain ⟨u,hu⟩:=c2 x o e hb
      have:=fl.2.1
      rw [hu] at this
      cases this
theorem Inv.track {o:HO} (I:Inv X pins σ H s) (hn:X.s₀.heap.get? x = none) (hl:x ≠ X.env.locals) (hc:∀ y c,X.env.cells.lookup y = some c → c ≠ x) (hp:∀ p ∈ X.pn ++ pins,p.1 ≠ x) (hx:H x = none) (ho:ObjOk X.prog X.w (upd H x o) s.heap x o) :
    Inv X pins σ (upd H x o) s:=by
  have ne:∀ b u,H b = some u → b ≠ x:=fun b u e z => by rw [z,hx] at e; cases e
  have old:∀ b ob,X.s₀.heap.get? b = some ob → b ≠ x:=fun b ob e z => by rw [z,hn] at e; cases e
  refine ⟨I.ok,I.os,I.bare,⟨I.base.keep,I.base.slot,fun b ob e n hb => by rw [upd_ne (old b ob e)]; exact I.base.free b ob e n hb,I.base.there,fun b xs e => ?_,fun b ob u e => ?_,fun b ps e => ?_⟩,I.loc,I.cell,by rw [upd_ne (Ne.symm hl)]; exact I.free,fun y c e => by rw [upd_ne (hc y c e)]; exact I.freeC y c e,fun p hpp => ?_,fun b u e => ?_,I.len⟩
  · have z:=I.base.tups b xs e
    rw [upd_ne (ne _ _ z)]
    exact z
  · have z:=I.base.frzs b ob u e
    rw [upd_ne (ne _ _ z)]
    exact z
  · obtain ⟨m,z⟩:=I.base.tbls b ps e
    exact ⟨m,by rw [upd_ne (ne _ _ z)]; exact z⟩
  · obtain ⟨a1,a2,a3,a4,a5⟩:=I.pin p hpp
    exact ⟨a1,by rw [upd_ne (hp p hpp)]; exact a2,a3,a4,a5⟩
  · by_cases eb:b = x
    · subst eb
      rw [upd_same] at e
      cases e
      exact ho
    · rw [upd_ne eb] at e
      refine (I.hok b u e).stay (fun _ _ _ q => q) (fun c q => ?_) fun c xs q => ?_
      · rw [upd_ne (ne _ _ q)]; exact q
      · rw [upd_ne (ne _ _ q)]; exact q
theorem Fly.track {d:Option Addr} (I:Inv X pins σ H s) (hex:X.ex = []) (f:Fly X.prog X.w X.stack H s x cls H' s') (hdi:DictIs x d s'):Inv X pins σ (upd H' x (.ext (excAt x cls d))) s':=by
  have hn:=f.new I
  have I1:=f.inv I
  obtain ⟨B,a0,fl,_⟩:=f.fl
  obtain ⟨ob,vs,hob,hcl,hdt,_⟩:=fl.first
  obtain ⟨ob',hob',hdd⟩:=hdi
  obtain rfl:ob = ob':=Option.some.inj (hob.symm.trans hob')
  have ne:∀ b o,s.heap.get? b = some o → b ≠ x:=fun b o e z => by rw [z,hn] at e; cases e
  refine I1.track ?_ ?_ ?_ ?_ f.free ⟨⟨ob,vs,hob,hcl,hdd,hdt⟩,⟨ob,hob⟩,fun h1 h2 p k => ?_⟩
  · cases e:X.s₀.heap.get? x with
    | none => rfl
    | some o =>
      obtain ⟨o',e1⟩:=I.base.there x o e (by rw [hex]; simp)
      rw [hn] at e1
      cases e1
  · obtain ⟨m,⟨o,_,_,ho,_⟩,_⟩:=I.loc
    exact (ne _ _ ho).symm
  · intro y c e
    obtain ⟨v,o,ho,_⟩:=I.cell y c e
    exact ne _ _ ho
  · intro p hp
    exact ne _ _ (I.pin p hp).1
  · obtain ⟨o,ws,e1,e2⟩:=p
    exact ⟨o,ws,k o e1,e2⟩
theorem unbind_ok {M:Model} {A:Around} {E:Value → Shared → Prop} {i:Nat} {n:Str} {v:V} {Q:Unit → Shared → Prop} (I:Inv X pins σ H s) (hN:X.N.Nodup) (hi:X.N[i]? = some n) (hk:X.env.scope.names.lookup n = some .local) (hv:σ[i]? = some (some v))
    (h:∀ s',Inv X pins (σ.set i none) H s' → Q () s'):wpAny M A (unbindName X.env n) Q E s:=by
  obtain ⟨m,hn,hl⟩:=id I.loc
  obtain ⟨u,r,lk⟩:=hl i n v hi hv (.inl hk)
  have kk:X.env.kindOf n = some .local:=hk
  have hcls:(X.env.scope.kind == .class || (X.env.scope.kind == .module && X.env.locals != X.env.globals)) = false:=by rw [I.ok.kind]; rfl
  have hiσ:i < σ.length:=by rw [I.len]; exact (List.getElem?_eq_some_iff.mp hi).1
  have cne:=I.cne
  have e0:m n = some u:=by
    rcases lk with ⟨_,e⟩ | ⟨k,_⟩
    · exact e
    · rw [kk] at k
      rcases k with z | z <;> cases z
  refine wpAny_unbindName_local kk hn e0 hcls fun h' u' hn' hs => ?_
  obtain ⟨oL,_,_,hoL,_⟩:=id hn
  refine h _ ⟨I.ok,I.os,I.bare,⟨fun b o e nn hb hx => ?_,fun b o e nn hb hx => ?_,I.base.free,fun b o e hx => ?_,I.base.tups,I.base.frzs,I.base.tbls⟩,⟨_,hn',fun j y v' e1 e2 e3 => ?_⟩,fun y c e => ?_,I.free,I.freeC,fun p hp => ?_,fun b ob e => ?_,by rw [List.length_set]; exact I.len⟩
  · exact (hs.2 b (Nat.ne_of_lt (Nat.lt_of_lt_of_le (Heap.lt_size e) I.ok.above))).trans (I.base.keep b o e nn hb hx)
  · obtain ⟨sl,e1⟩:=I.base.slot b o e nn hb hx
    exact ⟨sl,(hs.2 b (Nat.ne_of_lt (Nat.lt_of_lt_of_le (Heap.lt_size e) I.ok.above))).trans e1⟩
  · obtain ⟨o',e1⟩:=I.base.there b o e hx
    exact ⟨o',(hs.2 b (Nat.ne_of_lt (Nat.lt_of_lt_of_le (Heap.lt_size e) I.ok.above))).trans e1⟩
  · by_cases hj:j = i
    · subst hj
      rw [List.getElem?_set_self hiσ] at e2
      cases e2
    · rw [List.getElem?_set_ne (Ne.symm hj)] at e2
      obtain ⟨u2,r2,q⟩:=hl j y v' e1 e2 e3
      refine ⟨u2,r2,?_⟩
      rcases q with ⟨k,e⟩ | ⟨k,c,e,z⟩
      · refine .inl ⟨k,?_⟩
        have:y ≠ n:=fun e => hj (nodup_ix hN e1 (e ▸ hi))
        simp [this,e]
      · exact .inr ⟨k,c,e,z.sameBut hs (cne y c e)⟩
  · obtain ⟨w',z⟩:=I.cell y c e
    exact ⟨w',z.sameBut hs (cne y c e)⟩
  · obtain ⟨e,nn,ne,nf,d⟩:=I.pin p hp
    exact ⟨(hs.2 p.1 ne).trans e,nn,ne,nf,d⟩
  · refine (I.hok b ob e).stay (fun c w' hc q => (hs.2 c ?_).trans q) (fun _ q => q) fun _ _ q => q
    rintro rfl
    rcases hc with rfl | hc
    · rw [I.free] at e; cases e
    · rw [I.free] at hc; cases hc
noncomputable def Ends.gone (D:Ends) (i:Nat):Ends:={ nx:=fun σ H => D.nx (σ.set i none) H,rt:=D.rt,bk:=fun σ H => D.bk (σ.set i none) H,ct:=fun σ H => D.ct (σ.set i none) H }
theorem gone_ok {A:Around} {E:Value → Shared → Prop} {i:Nat} {n:Str} {pos:Pos} {D:Ends} {f:Flow} (hN:X.N.Nodup) (hi:X.N[i]? = some n) (hk:X.env.scope.names.lookup n = some .local) (h:SP X pins (D.gone i) f s) :
    wpAny (model X.prog X.w) A (do bindName X.env n .none; unbindBehindTheSuite X.env n pos) (fun _ s3 => SP X pins D f s3) E s:=by
  have go:∀ {σ':St} {H':Hp} {Z:Shared → Prop},Inv X pins σ' H' s → (∀ s2,Inv X pins (σ'.set i none) H' s2 → Z s2) →
      wpAny (model X.prog X.w) A (do bindName X.env n .none; unbindBehindTheSuite X.env n pos) (fun _ s3 => Z s3) E s:=fun {σ' H' Z} I hz => by
    have hiσ:i < σ'.length:=by rw [I.len]; exact (List.getElem?_eq_some_iff.mp hi).1
    refine wpAny_bind (wpAny_bindName (store_ok I hN hi (.inl hk) (v:=.non) rfl (fun s1 I1 => ?_) (.inr hk)))
    unfold unbindBehindTheSuite
    refine wpAny_onRaise (unbind_ok I1 hN hi hk (by rw [List.getElem?_set_self hiσ]) fun s2 I2 => ?_)
    rw [List.set_set] at I2
    exact hz s2 I2
  cases f with
  | next => obtain ⟨σ',H',I,q⟩:=h; exact go I fun s2 I2 => ⟨_,H',I2,q⟩
  | brk => obtain ⟨σ',H',I,q⟩:=h; exact go I fun s2 I2 => ⟨_,H',I2,q⟩
  | cont => obtain ⟨σ',H',I,q⟩:=h; exact go I fun s2 I2 => ⟨_,H',I2,q⟩
  | ret u => obtain ⟨v,σ',H',I,r,q⟩:=h; exact go I fun s2 I2 => ⟨v,_,H',I2,r,q⟩
end
theorem ph_as {X:Cx} {d n:Str} {i:Nat} {vd:Value} {np pos:Pos} {b₀:Stmt} {suite:List Stmt} {rest:List ExceptHandler} {th:TS} {tr:TH} (hex:X.ex = []) (hN:X.N.Nodup) (hi:X.N[i]? = some n) (hk:X.env.scope.names.lookup n = some .local)
    (hg:Gl X d) (hm:X.mg d = some vd) (hb:∀ e,PSs (X.inE e).nox (b₀ :: suite) th) (hr:PH X rest tr) (hd:(d == ("__debug__":Str)) = false:=by decide) :
    PH X (.ExceptHandler (some (.Name d np)) (some n) (b₀ :: suite) pos :: rest)
      (fun D cls dd e σ H => ∃ b,PySem.W.exmOne X.K cls vd = some b ∧ if b = true then th (D.gone i) (σ.set i (some (.ref e))) (upd H e (.ext (excAt e cls dd))) else tr D cls dd e σ H):=by
  intro pins σ H H' s s' D cls dd e I f hdi h
  obtain ⟨b,hx,h⟩:=h
  have I1:=f.inv I
  obtain ⟨ob,hob,hcl⟩:=f.there
  have LT:PySem.W.Looks (model X.prog X.w) s'.heap (typeOf (.ref e)) cls:=by
    rw [← hcl]
    exact (PySem.W.Looks.ld hob).andThen .now
  refine wpAny_handleBy_cons (codeAny_handlers_test (Calls.Name_function_global I1.ok.kind hg (Calls.loadGlobal_global (by rw [I1.ok.glob]; exact I1.mod.glob.keeps I1.bk) hm ?_) hd)) (by intro q; cases q)
  refine (PySem.W.exm_one I1.kIn LT hx).here ?_
  cases b with
  | false => exact hr pins σ H H' s s' D cls dd e I f hdi h
  | true =>
    refine codeAny_handlers_suite_as (f.again I hdi fun s2 f2 d2 => ?_)
    have I2:=f2.track I hex d2
    refine store_ok I2 hN hi (.inl hk) (v:=.ref e) rfl (fun s3 I3 => ?_) (.inr hk)
    exact wpAny_mono (hb e pins s3 _ _ (D.gone i) (I3.inE.wish _) h) (fun fl s4 q => gone_ok hN hi hk (SP.outE I1.ok q)) fun _ _ z => False.elim z
end L2
namespace L2
open PySem PySem.Spec PyProof.Rows
structure FunD (K:PySem.W.Frag) (x qual:Str) (st:Stmt) (dV:Value) (f:Addr) (fd:FuncData):Prop where
  ex:∃ (oc:Value) (od:Option Addr) (kV doc pm:Value) (an:Option Addr) (cdv ct:Value) (osl:Array (Option Value)),
    fd = PySem.W.fnOf x qual (defArgs st) (defBody st) (defScope st) dV kV doc pm an cdv ct ∧ K.lookup f = some ⟨oc,od,.func fd,osl⟩ ∧ PySem.W.codeIn K cdv qual = true
  kp:PySem.W.keepIn K (.ref f) = true
section
variable {P:Program} {w:World} {K:PySem.W.Frag} {mg:Str → Option Value} {base:Heap}
theorem FunD.okX {x qual:Str} {st:Stmt} {dV:Value} {f:Addr} {fd:FuncData} {N ps:List Str} {k:Nat} {sp:Sp} (F:FunD K x qual st dV f fd) (S:FnScope N ps (defScope st)) (len:∀ vs H Q E,sp vs H Q E → vs.length = ps.length)
    (hbody:∀ (cdv:Value) (A:Around) (outer:List Env) (s:Shared) (H:Hp) (vs:List V) (Q:VK) (E:XK),Room k (A.deeper (envOfC qual (defScope st) s.heap.objs.size f cdv)) → sp vs H Q E →
      ∃ t,PSs (cxOf (CX1 P w) P w K mg base N qual (defScope st) f cdv A outer s H E) (defBody st) t ∧ t { nx:=fun _ H' => Q .non H',rt:=Q } (start N vs) H):FnOk P w K mg base (CX1 P w) (k + 1) f fd ps sp:=by
  obtain ⟨oc,od,kV,doc,pm,an,cdv,ct,osl,rfl,lk,hcd⟩:=F.ex
  exact fn_of lk hcd S len fun A outer s H vs Q E hr hsp => hbody cdv A outer s H vs Q E hr hsp
theorem FunD.binds {x qual:Str} {st:Stmt} {T:Addr} {f:Addr} {fd:FuncData} {ps:List Str} {oT:Value} {dT:Option Addr} {its:Array Value} {nT:Nat} {sT:Array (Option Value)} {ds:List Value} (F:FunD K x qual st (.ref T) f fd) (lT:K.lookup T = some ⟨oT,dT,.seq its nT,sT⟩)
    (h:∀ (kV doc pm:Value) (an:Option Addr) (cdv ct:Value) (us:List Value),(us ++ ds).length = ps.length → ∃ k:Option (Array Value) → Sem (List (Str × Value)),
      bindArgs (PySem.W.fnOf x qual (defArgs st) (defBody st) (defScope st) (.ref T) kV doc pm an cdv ct) ⟨us,[]⟩ = seqItems? (.ref T) >>= k ∧ k (some its) = pure (ps.zip (us ++ ds))):Binds K fd ps ds:=by
  obtain ⟨oc,od,kV,doc,pm,an,cdv,ct,osl,rfl,lk,hcd⟩:=F.ex
  intro s us kin hl
  obtain ⟨k,h1,h2⟩:=h kV doc pm an cdv ct us hl
  exact BindsTo.of_defaults rfl (kin _ _ lT) rfl h1 h2
end
end L2
namespace L2
open PySem PySem.Spec PyProof.Rows
section
variable {X:Cx}
theorem ps_compG {i0:Nat} {y0:Str} {py0 spos:Pos} {tg elt iter:Expr} {ifs:List Expr} {own caps:List Str} {κ:List Nat} {sc:Scope} {cl:List (Str × Addr)} {pos:Pos} {wi:TI} {g:TG} {tc:TT} {te:TE} (hN:X.N.Nodup) (hi0:X.N[i0]? = some y0) (hy0:Loc X.env.scope y0) (hcalm:X.calm = true) (S:BlkSc X caps sc cl) (hκ:κ.map (fun k => X.N[k]?) = caps.map some)
    (hi:PI X tg iter wi) (hg:∀ s₀ H₀ C ex,PG (blk X (own ++ caps) sc cl s₀ H₀ C ex) tg g)
    (hc:∀ s₀ H₀ C ex (pins:List (Addr × Obj)) (s:Shared) (σ:St) (H:Hp) (Q:Bool → Hp → Prop),Inv (blk X (own ++ caps) sc cl s₀ H₀ C ex) pins σ H s → tc σ H Q →
      wpAny (model X.prog X.w) X.A (forIn ifs true fun c r => if r = true then do let ok ← isTrue c (compEnvC sc cl C X.env) (eval c (compEnvC sc cl C X.env)); pure (ForInStep.yield ok) else pure (ForInStep.yield r)) (TP (blk X (own ++ caps) sc cl s₀ H₀ C ex) pins σ Q) (fun _ _ => False) s)
    (he:∀ s₀ H₀ C ex,PE (blk X (own ++ caps) sc cl s₀ H₀ C ex) elt te)
    (hs:∀ x,foldedSetIterable iter X.env x = pure x:=by intro _; rfl) (hsw:swapsWith (.ListComp elt [⟨tg,iter,ifs,0⟩] sc pos) (some (.Name y0 py0)) spos.line X.env = pure true:=by rfl)
    (hf0:X.fn y0 = true ∨ X.env.scope.names.lookup y0 = some .local:=by first | exact .inl rfl | exact .inr rfl | assumption) :
    PS X (.Assign [.Name y0 py0] (.ListComp elt [⟨tg,iter,ifs,0⟩] sc pos) spos) (tAsg (tComp own.length κ wi g tc te) (gName i0)):=by
  intro pins s σ H D0 I h
  rw [exec_Assign_Name_used _ _ _ _ hsw]
  refine wpAny_bind (wpAny_standAt (wpAny_bind ?_))
  show wpAny _ X.A (do let _ ← comprehension (.ListComp elt [⟨tg,iter,ifs,0⟩] sc pos) sc X.env _ (newList []) false (eval iter X.env) (some (assign (.Name y0 py0) X.env))) _ _ s
  refine wpAny_bind (wpAny_mono (wpAny_comprehension_free (use:=some (assign (.Name y0 py0) X.env)) (Q:=fun _ s' => SP X pins D0 .next s') rfl hs S.clos S.kind S.names (thn (hi pins s σ H _ I h) fun v s1 h1 => thn h1 fun itv s2 h2 => ?_))
    (fun _ s' hq => wpAny_pure (wpAny_pure hq)) fun _ _ e => e)
  obtain ⟨it,fp,tn,J,H2,e,I2,T,st2,f2,W,⟨m0,w0⟩,turn⟩:=h2
  subst e
  have hfp:∀ b ∈ fp,b < s2.heap.objs.size:=fun b hb => by
    obtain ⟨o,e,_⟩:=T.obj _ _ st2 b hb
    exact Heap.lt_size e
  refine wpAny_newObj_type (wpAny_newFunctionEnv S.nocell (fun y hy => nomatch hy) (fun h₁ hns hsb => ?_) S.kind)
  generalize ehp:s2.heap.push { cls:=.type "list",dict:=none,data:=.seq ([]:List Value).toArray } = hp at hns hsb ⊢
  have hsz:hp.objs.size = s2.heap.objs.size + 1:=by rw [← ehp,Heap.size_push]
  have hDC:s2.heap.objs.size ≠ hp.objs.size:=by rw [hsz]; exact Nat.ne_of_lt (Nat.lt_succ_self _)
  have old:∀ b o,hp.get? b = some o → h₁.get? b = some o:=fun b o e => (hsb.2 b (Nat.ne_of_lt (Heap.lt_size e))).trans (Heap.get?_push_of_some _ e)
  have eD:h₁.get? s2.heap.objs.size = some { cls:=.type "list",data:=.seq ([]:List Value).toArray }:=old _ _ (by rw [← ehp]; exact Heap.get?_push_size _ rfl)
  have I0:=Inv.block (own:=own) (h₁:=h₁) (tk:=s2.toks + ([]:List (Str × Value)).length) S hκ I2 f2 hfp ehp.symm hns old
  have stkD:s2.heap.objs.size ∉ frs X.stack:=fun z => (List.mem_cons.mp (I2.stkSub _ z)).elim (Nat.ne_of_gt I2.lt) (I2.nofs (Nat.le_refl _))
  have cellD:∀ x c,cl.lookup x = some c → c ≠ s2.heap.objs.size:=fun x c q => by
    obtain ⟨v,z⟩:=I2.cell x c (S.subc q)
    exact Nat.ne_of_lt z.lt
  have pinD:∀ p ∈ X.pn ++ pins,p.1 ≠ s2.heap.objs.size:=fun p hp => Nat.ne_of_lt (Heap.lt_size (I2.pin p hp).1)
  have stkF:∀ b ∈ fp,b ∉ frs X.stack:=fun b hb z => (List.mem_cons.mp (I2.stkSub _ z)).elim (f2 b hb).2.1 (f2 b hb).2.2.1
  have loop:codeAny (model X.prog X.w) X.A (.compLoop (.ListComp elt [⟨tg,iter,ifs,0⟩] sc pos) 0 (.ref it) (.ref s2.heap.objs.size) (compEnvC sc cl hp.objs.size X.env))
      (compPost (model X.prog X.w) X.A X.xe (some (assign (.Name y0 py0) X.env)) (fun _ s' => SP X pins D0 .next s') (.ref s2.heap.objs.size) hp.objs.size) { s2 with heap:=h₁,toks:=s2.toks + ([]:List (Str × Value)).length }:=by
    refine codeAny_loop rfl (fun n s' => ∃ (i:Nat) (ys:List V) (its:List Value) (cap:Nat) (H':Hp),Inv (blk X (own ++ caps) sc cl { s2 with heap:=hp } H2 hp.objs.size (s2.heap.objs.size :: fp)) pins (blkSt own.length κ σ) H' s' ∧ tn i s'.heap ∧ (∀ b ∈ fp,H' b = none) ∧
      s'.heap.get? s2.heap.objs.size = some { cls:=.type "list",data:=.seq its.toArray cap } ∧ H' s2.heap.objs.size = none ∧ Vals ys its ∧ ys.length ≤ sizeLine ∧ W i n ys H') (fun n s3 hI => ?_) m0
      ⟨0,[],[],0,H2,I0,T.keep _ _ _ st2 fun b hb o e => old _ _ (by rw [← ehp]; exact Heap.get?_push_of_some _ e),fun b hb => (f2 b hb).1,eD,I2.hok.fresh (Nat.le_refl _),.nil,Nat.zero_le _,w0⟩
    obtain ⟨i,ys,its,cap,H3,I3,st3,fr3,eD3,nD3,rv,hz,w3⟩:=hI
    show wpAny _ X.A ((compTurn (.ListComp elt [⟨tg,iter,ifs,0⟩] sc pos) 0 (.ref it) (.ref s2.heap.objs.size) (compEnvC sc cl hp.objs.size X.env)).onRaise fun x => do noteFrame x (compEnvC sc cl hp.objs.size X.env); theTreesLotGoes x) _ _ s3
    refine wpAny_noted ?_
    rw [compTurn_list]
    have I3':Inv (blk X (own ++ caps) sc cl { s2 with heap:=hp } H2 hp.objs.size (s2.heap.objs.size :: fp)) (pins ++ [(s2.heap.objs.size,{ cls:=.type "list",data:=.seq its.toArray cap })]) (blkSt own.length κ σ) H3 s3:=by
      refine I3.pins_of fun p hp => (List.mem_append.mp hp).elim (fun z => I3.pin p (List.mem_append_right _ z)) fun z => ?_
      obtain rfl:=List.mem_singleton.mp z
      exact ⟨eD3,nD3,hDC,stkD,fun v q => by cases q⟩
    have fpk:∀ {H':Hp},(∀ b ∈ fp,H' b = none) → ∀ b ∈ fp,FpOk (blk X (own ++ caps) sc cl { s2 with heap:=hp } H2 hp.objs.size (s2.heap.objs.size :: fp)) (pins ++ [(s2.heap.objs.size,{ cls:=.type "list",data:=.seq its.toArray cap })]) H' b:=fun {H'} hn b hb =>
      ⟨hn b hb,by show b ≠ hp.objs.size; rw [hsz]; exact Nat.ne_of_lt (Nat.lt_succ_of_lt (hfp b hb)),stkF b hb,.inl (List.mem_cons_of_mem _ hb),fun x c q => (f2 b hb).2.2.2.2.1 x c (S.subc q),fun p hp => by
        rw [← List.append_assoc] at hp
        rcases List.mem_append.mp hp with z | z
        · exact (f2 b hb).2.2.2.2.2 p z
        · obtain rfl:=List.mem_singleton.mp z
          exact Nat.ne_of_gt (hfp b hb)⟩
    rcases turn i n ys H3 w3 with ⟨stop,fin⟩ | ⟨go,hlt,step⟩
    · refine wpAny_bind (wpAny_standAt (wpAny_bind (thn (T.done (blk X (own ++ caps) sc cl { s2 with heap:=hp } H2 hp.objs.size (s2.heap.objs.size :: fp)) rfl rfl rfl hcalm i _ s3 _ H3 _ I3' (fpk fr3) st3 stop) fun r s4 ⟨hr,I4⟩ => ?_)))
      subst hr
      refine wpAny_pure ?_
      obtain ⟨m,hm,_⟩:=I4.loc
      have eD4:=(I4.pin (s2.heap.objs.size,{ cls:=.type "list",data:=.seq its.toArray cap }) (List.mem_append_right _ (List.mem_append_right _ (List.mem_singleton.mpr rfl)))).1
      have I5:Inv X pins σ (upd H3 s2.heap.objs.size (.lst ys)) { s4 with heap:=s4.heap }:=Inv.unblock I2 f2 ehp.symm I4 eD4 nD3 rv hz (Heap.SameBut.refl ..)
      have neL:hp.objs.size ≠ X.env.locals:=by rw [hsz]; exact Nat.ne_of_gt (Nat.lt_succ_of_lt I2.lt)
      have neC:∀ x c,X.env.cells.lookup x = some c → c ≠ hp.objs.size:=fun x c q => by
        obtain ⟨v,z⟩:=I2.cell x c q
        rw [hsz]
        exact Nat.ne_of_lt (Nat.lt_succ_of_lt z.lt)
      have frC:upd H3 s2.heap.objs.size (.lst ys) hp.objs.size = none:=by rw [upd_ne (Ne.symm hDC)]; exact I4.free
      show wpAny (model X.prog X.w) X.A (assign (.Name y0 py0) X.env (.ref s2.heap.objs.size)) _ X.xe s4
      refine wpAny_assign_Name (store_ok2 (v:=.ref s2.heap.objs.size) I5 hN hi0 hy0 rfl (fun s5 I6 ⟨a,sb,ha⟩ => ?_) hf0)
      have hCa:hp.objs.size ≠ a:=by
        rcases ha with ha | ha
        · rw [ha]; exact neL
        · exact Ne.symm (neC _ _ ha)
      refine ⟨m,hm.sameBut sb hCa,fun h' sb' => ⟨_,_,I6.turned (t':=s5.toks) (fun b o hb e => (sb'.2 b hb).trans e) frC neL (.inr ?_) neC (fun p hp' => ?_),fin _ nD3⟩⟩
      · exact Nat.le_trans I2.sz (by rw [hsz]; exact Nat.le_succ _)
      · have:=Heap.lt_size (I2.pin p hp').1
        rw [hsz]
        exact Nat.ne_of_lt (Nat.lt_succ_of_lt this)
    · refine wpAny_bind (wpAny_standAt (wpAny_bind (thn (T.item (blk X (own ++ caps) sc cl { s2 with heap:=hp } H2 hp.objs.size (s2.heap.objs.size :: fp)) rfl rfl rfl hcalm i _ s3 _ H3 _ I3' (fpk fr3) st3 go) fun r s4 ⟨u,hr,h4⟩ => ?_)))
      subst hr
      refine wpAny_bind (thn h4 fun _ s5 ⟨x,H5,I5,r5,y5,st5,fr5⟩ => ?_)
      have I5':=I5.pinned (fpk fr5) (T.obj _ _ st5)
      refine wpAny_bind (wpAny_mono (hg _ _ _ _ _ s5 _ H5 x u _ I5' r5 (step x H5 y5)) (fun _ s6 ⟨σ6,H6,I6,eσ,q6⟩ => ?_) fun _ _ z => z.elim)
      refine wpAny_bind (wpAny_mono (hc _ _ _ _ _ s6 σ6 H6 _ I6 q6) (fun ok s7 ⟨H7,I7,q7⟩ => ?_) fun _ _ z => z.elim)
      have back:∀ {s8:Shared} {H8:Hp},Inv (blk X (own ++ caps) sc cl { s2 with heap:=hp } H2 hp.objs.size (s2.heap.objs.size :: fp)) ((pins ++ [(s2.heap.objs.size,{ cls:=.type "list",data:=.seq its.toArray cap })]) ++ pinsAt fp s5.heap) σ6 H8 s8 →
          Inv (blk X (own ++ caps) sc cl { s2 with heap:=hp } H2 hp.objs.size (s2.heap.objs.size :: fp)) pins (blkSt own.length κ σ) H8 s8 ∧ tn (i + 1) s8.heap ∧ (∀ b ∈ fp,H8 b = none) ∧ s8.heap.get? s2.heap.objs.size = some { cls:=.type "list",data:=.seq its.toArray cap } ∧ H8 s2.heap.objs.size = none:=by
        intro s8 H8 I8
        have pk:∀ b ∈ fp,∀ o,s5.heap.get? b = some o → s8.heap.get? b = some o ∧ H8 b = none:=fun b hb o e => by
          have z:=I8.pin (b,o) (List.mem_append_right _ (List.mem_append_right _ (mem_pinsAt hb e)))
          exact ⟨z.1,z.2.1⟩
        have zD:=I8.pin (s2.heap.objs.size,{ cls:=.type "list",data:=.seq its.toArray cap }) (List.mem_append_right _ (List.mem_append_left _ (List.mem_append_right _ (List.mem_singleton.mpr rfl))))
        refine ⟨(I8.pins_of fun p hp => I8.pin p (List.mem_append_right _ (List.mem_append_left _ (List.mem_append_left _ hp)))).weak ?_ fun j v e => ?_,T.keep _ _ _ st5 fun b hb o e => (pk b hb o e).1,fun b hb => ?_,zD.1,zD.2.1⟩
        · exact I3.len.trans I8.len.symm
        · have hge:own.length ≤ j:=by
            refine Nat.le_of_not_lt fun q => ?_
            unfold blkSt at e
            rw [List.getElem?_append_left (by rw [List.length_replicate]; exact q),List.getElem?_replicate,if_pos q] at e
            cases e
          have z:=congrArg (fun l => l[j - own.length]?) eσ
          simp only [List.getElem?_drop] at z
          rw [show own.length + (j - own.length) = j by omega] at z
          rw [z]
          exact e
        · obtain ⟨o,e,_⟩:=T.obj _ _ st5 b hb
          exact (pk b hb o e).2
      cases ok with
      | false =>
        obtain ⟨m',hm,w7⟩:=(if_neg Bool.false_ne_true) ▸ q7
        obtain ⟨I8,st8,fr8,e8,n8⟩:=back I7
        exact wpAny_pure ⟨rfl,m',hm,i + 1,ys,its,cap,H7,I8,st8,fr8,e8,n8,rv,hz,w7⟩
      | true =>
        have q7':=(if_pos rfl) ▸ q7
        refine wpAny_bind (wpAny_bind (wpAny_mono (he _ _ _ _ _ s7 σ6 H7 _ I7 q7') (fun y s8 ⟨v8,H8,I8,r8,m',hm,w8⟩ => ?_) fun _ _ z => z.elim))
        obtain ⟨I9,st9,fr9,e9,n9⟩:=back I8
        have hl:=rv.length
        refine wpAny_bind (wpAny_list_append_plain (items:=its.toArray) ⟨cap,e9⟩ (fun h' hl' sb => ?_) (by rw [List.size_toArray,← hl]; exact hz))
        obtain ⟨cap',e'⟩:=hl'
        refine wpAny_pure (wpAny_pure ⟨rfl,m',hm,i + 1,ys ++ [v8],its ++ [y],cap',H8,?_,?_,fr9,?_,n9,Vals.append rv (.cons r8 .nil),?_,w8⟩)
        · exact I9.turned (t':=s8.toks) (fun b o hb e => (sb.2 b hb).trans e) n9 hDC (.inl List.mem_cons_self) cellD pinD
        · exact T.keep _ _ _ st9 fun b hb o e => (sb.2 b (Nat.ne_of_lt (hfp b hb))).trans e
        · rw [e']
          congr 3
          simp
        · rw [List.length_append]
          exact hlt
  exact codeAny_compStart_list loop (T.self _ 0 _ _ _ (T.keep _ _ _ st2 fun b hb o e => old _ _ (by rw [← ehp]; exact Heap.get?_push_of_some _ e)) loop)
theorem ps_comp {i0:Nat} {y0:Str} {py0 spos:Pos} {tg elt iter:Expr} {own caps:List Str} {κ:List Nat} {sc:Scope} {cl:List (Str × Addr)} {pos:Pos} {wi:TI} {g:TG} {te:TE} (hN:X.N.Nodup) (hi0:X.N[i0]? = some y0) (hy0:Loc X.env.scope y0) (hcalm:X.calm = true) (S:BlkSc X caps sc cl) (hκ:κ.map (fun k => X.N[k]?) = caps.map some)
    (hi:PI X tg iter wi) (hg:∀ s₀ H₀ C ex,PG (blk X (own ++ caps) sc cl s₀ H₀ C ex) tg g) (he:∀ s₀ H₀ C ex,PE (blk X (own ++ caps) sc cl s₀ H₀ C ex) elt te)
    (hs:∀ x,foldedSetIterable iter X.env x = pure x:=by intro _; rfl) (hsw:swapsWith (.ListComp elt [⟨tg,iter,[],0⟩] sc pos) (some (.Name y0 py0)) spos.line X.env = pure true:=by rfl)
    (hf0:X.fn y0 = true ∨ X.env.scope.names.lookup y0 = some .local:=by first | exact .inl rfl | exact .inr rfl | assumption) :
    PS X (.Assign [.Name y0 py0] (.ListComp elt [⟨tg,iter,[],0⟩] sc pos) spos) (tAsg (tComp own.length κ wi g tYes te) (gName i0)) :=
  ps_compG hN hi0 hy0 hcalm S hκ hi hg (fun s₀ H₀ C ex pins s σ H Q I h => wpAny_tests_nil ⟨H,I,h⟩) he hs hsw hf0
theorem ps_comp_if {i0:Nat} {y0:Str} {py0 spos:Pos} {tg elt iter c:Expr} {own caps:List Str} {κ:List Nat} {sc:Scope} {cl:List (Str × Addr)} {pos:Pos} {wi:TI} {g:TG} {tc:TT} {te:TE} (hN:X.N.Nodup) (hi0:X.N[i0]? = some y0) (hy0:Loc X.env.scope y0) (hcalm:X.calm = true) (S:BlkSc X caps sc cl) (hκ:κ.map (fun k => X.N[k]?) = caps.map some)
    (hi:PI X tg iter wi) (hg:∀ s₀ H₀ C ex,PG (blk X (own ++ caps) sc cl s₀ H₀ C ex) tg g) (hc:∀ s₀ H₀ C ex,PT (blk X (own ++ caps) sc cl s₀ H₀ C ex) c tc) (he:∀ s₀ H₀ C ex,PE (blk X (own ++ caps) sc cl s₀ H₀ C ex) elt te)
    (hs:∀ x,foldedSetIterable iter X.env x = pure x:=by intro _; rfl) (hsw:swapsWith (.ListComp elt [⟨tg,iter,[c],0⟩] sc pos) (some (.Name y0 py0)) spos.line X.env = pure true:=by rfl)
    (hf0:X.fn y0 = true ∨ X.env.scope.names.lookup y0 = some .local:=by first | exact .inl rfl | exact .inr rfl | assumption) :
    PS X (.Assign [.Name y0 py0] (.ListComp elt [⟨tg,iter,[c],0⟩] sc pos) spos) (tAsg (tComp own.length κ wi g tc te) (gName i0)) :=
  ps_compG hN hi0 hy0 hcalm S hκ hi hg (fun s₀ H₀ C ex pins s σ H Q I h => wpAny_tests_one (hc s₀ H₀ C ex pins s σ H Q I h)) he hs hsw hf0
end
end L2
namespace L2
open PySem PySem.Spec PyProof.Rows
section
variable {X:Cx} {pins:List (Addr × Obj)} {σ:St} {H:Hp} {s:Shared} {h':Heap}
end
section
variable {X:Cx} {tg:Expr}
end
section
variable {prog:Program} {w:World} {A:Around} {E:Value → Shared → Prop} {s:Shared}
open AutoSeq1 (wpAny_loadPart') in
end
section
variable {X:Cx}
end
end L2
namespace L2
open PySem PySem.Spec PyProof.Rows
theorem key_rel {P:Program} {w:World} {k:Key} {u:Value} (h:(mixKind P w).is k u = true):RelV (kV k) u:=by
  rw [mixKind_is] at h
  rcases keyIs_shape h with ⟨i,t,rfl,rfl⟩ | ⟨x,t,rfl,rfl⟩
  · exact ⟨t,rfl⟩
  · exact ⟨t,rfl⟩
section
variable {X:Cx} {pins:List (Addr × Obj)} {σ:St} {H H':Hp} {s:Shared} {h':Heap}
theorem Inv.laids {t':Nat} (I:Inv X pins σ H s) (k:∀ b u,s.heap.get? b = some u → h'.get? b = some u) (old:∀ b,b < s.heap.objs.size → H' b = H b)
    (new:∀ b u,s.heap.objs.size ≤ b → H' b = some u → ObjOk X.prog X.w H' h' b u):Inv X pins σ H' { s with heap:=h',toks:=t' }:=by
  have lt:∀ b u,H b = some u → b < s.heap.objs.size:=fun b u q => Nat.lt_of_not_le fun z => by rw [I.hok.fresh z] at q; cases q
  refine I.step (g':=s.gens) (d':=s.drawn) (ch:=[]) (fun _ z => nomatch z) (fun b ob _ _ _ q _ => k b ob q) (fun b ob _ _ _ q _ => ⟨ob.slots,k b ob q⟩) (fun b ob _ q n => by rw [old b (Heap.lt_size q)]; exact n)
    (fun b ob _ q => ⟨ob,k b ob q⟩) (fun b xs q => by rw [old b (lt _ _ q)]; exact q) (fun b ob u q => by rw [old b (lt _ _ q)]; exact q) (fun b ps q => ⟨#[],by rw [old b (lt _ _ q),q]; simp⟩) (fun m hm => ?_) (fun b u q => ?_) I.bare
  · obtain ⟨ob,es,ep,q,r⟩:=hm
    exact ⟨ob,es,ep,k _ ob q,r⟩
  · by_cases hb:b < s.heap.objs.size
    · rw [old b hb] at q
      exact (I.hok b u q).stay (fun c v _ z => k c v z) (fun c z => by rw [old c (lt _ _ z)]; exact z) fun c xs z => by rw [old c (lt _ _ z)]; exact z
    · exact new b u (Nat.le_of_not_lt hb) q
end
noncomputable def layT (H:Hp):List Addr → List (Key × V) → Hp
  | a :: as,p :: ps => upd (layT H as ps) a (.tup [kV p.1,p.2])
  | _,_ => H
theorem layT_old {H:Hp} {b:Addr}:∀ {as:List Addr} {ps:List (Key × V)},b ∉ as → layT H as ps b = H b
  | [],_,_ => rfl
  | _ :: _,[],_ => rfl
  | a :: as,p :: ps,h => by
    show upd (layT H as ps) a _ b = H b
    rw [upd_ne (fun e => h (by rw [e]; exact List.mem_cons_self))]
    exact layT_old fun z => h (List.mem_cons_of_mem _ z)
theorem layT_at {H:Hp}:∀ {as:List Addr} {ps:List (Key × V)} {b:Addr} {u:HO},b ∈ as → as.length = ps.length → layT H as ps b = some u → ∃ (j:Nat) (p:Key × V),as[j]? = some b ∧ ps[j]? = some p ∧ u = .tup [kV p.1,p.2]
  | [],_,_,_,h,_,_ => nomatch h
  | _ :: _,[],_,_,_,h,_ => nomatch h
  | a :: as,p :: ps,b,u,hb,hl,h => by
    by_cases e:b = a
    · subst e
      have h':upd (layT H as ps) b (.tup [kV p.1,p.2]) b = some u:=h
      rw [upd_same] at h'
      cases h'
      exact ⟨0,p,rfl,rfl,rfl⟩
    · have h':upd (layT H as ps) a (.tup [kV p.1,p.2]) b = some u:=h
      rw [upd_ne e] at h'
      have hb':b ∈ as:=(List.mem_cons.mp hb).resolve_left e
      obtain ⟨j,p',h1,h2,h3⟩:=layT_at hb' (Nat.succ.inj hl) h'
      exact ⟨j + 1,p',h1,h2,h3⟩
theorem layT_pairs {H:Hp}:∀ {as:List Addr} {ps:List (Key × V)},as.Pairwise (· < ·) → as.length = ps.length → Paired (fun (p:Key × V) (k:Addr) => layT H as ps k = some (.tup [kV p.1,p.2])) ps as
  | [],[],_,_ => .nil
  | _ :: _,[],_,h => nomatch h
  | [],_ :: _,_,h => nomatch h
  | a :: as,p :: ps,hr,hl => by
    cases hr with
    | cons h1 h2 =>
    refine .cons upd_same ?_
    have ih:=layT_pairs (H:=H) h2 (Nat.succ.inj hl)
    have go:∀ {qs:List (Key × V)} {bs:List Addr},(∀ b ∈ bs,a < b) → Paired (fun (p:Key × V) (k:Addr) => layT H as ps k = some (.tup [kV p.1,p.2])) qs bs → Paired (fun (q:Key × V) (k:Addr) => layT H (a :: as) (p :: ps) k = some (.tup [kV q.1,q.2])) qs bs:=fun {qs bs} hb z => by
      induction z with
      | nil => exact .nil
      | @cons x y xs ys e _ ih =>
        refine .cons ?_ (ih fun b hb' => hb b (List.mem_cons_of_mem _ hb'))
        show upd (layT H as ps) a _ y = _
        rw [upd_ne (Nat.ne_of_gt (hb y List.mem_cons_self))]
        exact e
    exact go h1 ih
theorem pair_get {α β:Type} {F:α → β → Prop}:∀ {as:List α} {bs:List β},Paired F as bs → ∀ {j:Nat} {a:α},as[j]? = some a → ∃ b,bs[j]? = some b ∧ F a b
  | _,_,.nil,j,a,h => by simp at h
  | _,_,.cons x t,0,a,h => by
    simp at h
    subst h
    exact ⟨_,rfl,x⟩
  | _,_,.cons x t,j + 1,a,h => by
    simp at h
    obtain ⟨b,hb,r⟩:=pair_get t h
    exact ⟨b,by simpa using hb,r⟩
noncomputable def itemsAt (v d:Addr) (h:Heap):Prop:=h.IsItemsView v d
section
variable {X:Cx}
noncomputable def rItems:V → List V → Hp → VK → Prop:=fun x vs H Q => ∃ d kvs,x = .ref d ∧ vs = [] ∧ H d = some (.dK kvs) ∧ ∀ v,H v = none → Q (.ref v) (upd H v (.ext (itemsAt v d)))
theorem mt_items:MtR X "dict.items" rItems:=by
  intro pins s σ H x vs v us Q I rx rv h
  obtain ⟨d,kvs,rfl,rfl,hd,q⟩:=h
  cases rx
  cases rv
  obtain ⟨z,hs,ys,rel,dd⟩:=dk_of I.hok hd
  refine call_meetsIn PySem.F.slot_dict_items dd.typeIs PySem.F.entry_dict_items (PySem.F.args_dict_items_1 _) (meets_dict_items (mixKind X.prog X.w) d hs) ⟨⟨ys,dd⟩,?_⟩
  have hv:(s.heap.push { cls:=.type "dict_items",data:=.fields #[.ref d] }).IsItemsView s.heap.objs.size d:=⟨_,Heap.get?_push_size _ rfl,rfl,rfl⟩
  refine ⟨.ref s.heap.objs.size,_,I.laid (t':=s.toks) (o:=.ext (itemsAt s.heap.objs.size d)) (fun b o e => Heap.get?_push_of_some _ e) (Nat.le_refl _) ⟨hv,⟨_,Heap.get?_push_size _ rfl⟩,fun h1 h2 p k => ?_⟩,rfl,q _ (I.hok.fresh (Nat.le_refl _))⟩
  obtain ⟨o,ho,r⟩:=p
  exact ⟨o,k o ho,r⟩
theorem call_list_items (hc:X.calm = true):CallR X (.type "list") (fun xs H Q => ∃ v d kvs,xs = [.ref v] ∧ H v = some (.ext (itemsAt v d)) ∧ H d = some (.dK kvs) ∧
    ∀ (H2:Hp) (as:List Addr) (l:Addr),(∀ b u,H b = some u → H2 b = some u) → H l = none → (∀ a ∈ as,H a = none) → H2 l = some (.lst (as.map V.ref)) → Paired (fun (p:Key × V) (k:Addr) => H2 k = some (.tup [kV p.1,p.2])) kvs as → Q (.ref l) H2):=by
  intro pins s σ H xs us Q I r h
  obtain ⟨v,d,kvs,rfl,hv,hd,q⟩:=h
  obtain ⟨u,rfl,ru⟩:=vals1 r
  cases ru
  obtain ⟨z,hs,ys,rel,dd⟩:=dk_of I.hok hd
  obtain ⟨ep,dat⟩:=dd.dictAt
  have hview:s.heap.IsItemsView v d:=(I.hok v _ hv).1
  have hl2:kvs.length = ys.length:=rel.length
  refine PySem.W.kdx_call (knd:=mixKind X.prog X.w) (I.ok.hd hc) hview dat (by rw [← hl2]; exact z) fun h' tk acc c as hk hS hlen hG hacc => ?_
  have hlen':as.length = kvs.length:=by rw [hlen,hl2]
  have hge:∀ a ∈ as,s.heap.objs.size ≤ a:=fun a ha => Nat.le_of_lt (hG.above a ha)
  have hnS:s.heap.objs.size ∉ as:=fun ha => Nat.lt_irrefl _ (hG.above _ ha)
  have vr:∀ ks:List Addr,Vals (ks.map V.ref) (ks.map Value.ref):=fun ks => by
    induction ks with
    | nil => exact .nil
    | cons k ks ih => exact .cons rfl ih
  have old:∀ b,b < s.heap.objs.size → upd (layT H as kvs) s.heap.objs.size (.lst (as.map V.ref)) b = H b:=fun b hb => by
    rw [upd_ne (Nat.ne_of_lt hb)]
    exact layT_old fun ha => absurd (hge b ha) (Nat.not_le_of_lt hb)
  have I2:Inv X pins σ (upd (layT H as kvs) s.heap.objs.size (.lst (as.map V.ref))) { s with heap:=h',toks:=tk }:=by
    refine I.laids (t':=tk) hk old fun b u hb hu => ?_
    by_cases e:b = s.heap.objs.size
    · subst e
      rw [upd_same] at hu
      cases hu
      refine ⟨by rw [List.length_map,hlen']; exact z,as.map Value.ref,c,vr as,?_⟩
      rw [hS,← hacc]
    · rw [upd_ne e] at hu
      by_cases ha:b ∈ as
      · obtain ⟨j,p,h1,h2,rfl⟩:=layT_at ha hlen' hu
        obtain ⟨key,k,x,h3,h4,h5⟩:=hG.pairs j b h1
        have hp:p.1 = k ∧ RelV p.2 x:=by
          have:=pair_get rel h2
          obtain ⟨y,hy,e1,e2⟩:=this
          rw [h3] at hy
          cases hy
          exact ⟨e1,e2⟩
        refine ⟨by show 2 ≤ sizeLine; decide,[key,x],.cons (by rw [hp.1]; exact key_rel h4) (.cons hp.2 .nil),_,h5,rfl,_,rfl⟩
      · rw [layT_old ha] at hu
        rw [I.hok.fresh hb] at hu
        cases hu
  refine ⟨.ref s.heap.objs.size,_,I2,rfl,q _ as s.heap.objs.size (fun b u hb => ?_) (I.hok.fresh (Nat.le_refl _)) (fun a ha => I.hok.fresh (hge a ha)) upd_same ?_⟩
  · have lt:b < s.heap.objs.size:=Nat.lt_of_not_le fun z => by rw [I.hok.fresh z] at hb; cases hb
    rw [old b lt]
    exact hb
  · have go:∀ {qs:List (Key × V)} {bs:List Addr},(∀ b ∈ bs,b ∈ as) → Paired (fun (p:Key × V) (k:Addr) => layT H as kvs k = some (.tup [kV p.1,p.2])) qs bs → Paired (fun (q:Key × V) (k:Addr) => upd (layT H as kvs) s.heap.objs.size (.lst (as.map V.ref)) k = some (.tup [kV q.1,q.2])) qs bs:=fun {qs bs} hb z => by
      induction z with
      | nil => exact .nil
      | @cons x y xs ys e _ ih =>
        refine .cons ?_ (ih fun b hb' => hb b (List.mem_cons_of_mem _ hb'))
        rw [upd_ne (fun z => hnS (by rw [← z]; exact hb y List.mem_cons_self))]
        exact e
    exact go (fun _ z => z) (layT_pairs hG.rise hlen')
end
end L2
namespace L2
open PySem PySem.Spec PyProof.Rows
section
variable {X:Cx} {pins:List (Addr × Obj)} {σ:St} {H:Hp} {s:Shared} {d:Addr} {o:Obj} {u:HO}
end
section
variable {X:Cx}
end
end L2
namespace L2
open PySem PySem.Spec PyProof.Rows
section
variable {X:Cx} {tg:Expr}
end
end L2
namespace L2
open PySem PySem.Spec PyProof.Rows
section
variable {X:Cx} {tg:Expr}
end
end L2
namespace L2
open PySem PySem.Spec PyProof.Rows
section
variable {X:Cx}
theorem call_isiT:CallR X (.builtin "isinstance") (fun xs H Q => ∃ x y u t b,xs = [x,y] ∧ (∀ u',RelV y u' → u' = u) ∧ TyOf X.K H x t ∧ PySem.W.kitOne X.K t u = some b ∧ Q (.bl b) H):=by
  intro pins s σ H xs us Q I rv h
  obtain ⟨x,y,u,t,b,rfl,hu,ty,hk,q⟩:=h
  obtain ⟨u1,u2,rfl,r1,r2⟩:=rv.two
  rw [hu u2 r2]
  exact isinst_ok I r1 ty hk fun tk => ⟨.bl b,H,I.tok _,rfl,q⟩
end
end L2
namespace L2
open PySem PySem.Spec PyProof.Rows
section
variable {X:Cx} {K:PySem.W.Frag}
theorem ixLK (h:X.K = K):IxR X (rIxL K):=by subst h; exact ix_list
end
end L2
namespace L2
open PySem PySem.Spec PyProof.Rows
end L2
namespace L2
open PySem PySem.Spec PyProof.Rows
noncomputable def excInI (K:PySem.W.Frag) (C:Addr) (bmB:List Value) (newId:String):Bool:=match K.lookup C with | some ⟨.type "type",_,.cls cd,sl⟩ => (match cd.mro,sl.toList with | .ref C' :: bm,[_,_,_,_,some (.builtin n),_] => C' == C && n == newId && !cd.hasDel && PySem.W.tailIn K bmB bm | _,_ => false) | _ => false
structure ExcI (h:Heap) (C:Addr) (bmB:List Value) (newId:String):Prop where
  obj:∃ bm N nm q bs hdct sn sub ab col dd k0 k1 k2 k3 k5,h.get? C = some (excClassObj nm q C N bs bm hdct sn sub ab col dd k0 k1 k2 k3 k5 newId) ∧ OwnTail h bmB bm
section
variable {prog:Program} {w:World} {A:Around} {E:Value → Shared → Prop} {h:Heap} {g:Array GenState} {d:Drawn} {t:Nat} {os:OsState} {K:PySem.W.Frag} {C fI:Addr} {us:List Value}
end
section
variable {prog:Program} {w:World} {A:Around} {E:Value → Shared → Prop} {s:Shared} {env:Env} {K:PySem.W.Frag} {C fI:Addr}
end
end L2
namespace L2
open PySem PySem.Spec PyProof.Rows
section
variable {X:Cx} {pins:List (Addr × Obj)} {σ:St} {H:Hp} {s:Shared} {x:Addr}
end
section
variable {P:Program} {w:World} {K:PySem.W.Frag} {mg:Str → Option Value} {base:Heap}
structure MkX (K:PySem.W.Frag) (C fI:Addr):Prop where
  ex:excInI K C bmVE "ValueError.__new__" = true
  init:PySem.W.findIn K (.ref C) "__init__" = some (some (.ref fI))
  fn:PySem.W.typeIn K (.ref fI) = some (.type "function")
end
end L2
namespace L2
open PySem PySem.Spec PyProof.Rows Builtin Builtin.ObjectAttr
noncomputable def refPass (l:List Value):Bool:=l.dropWhile (fun | .ref _ => true | _ => false) == bmVE
structure ExcSet (K:PySem.W.Frag) (C:Addr):Prop where
  sa:PySem.W.findIn K (.ref C) "__setattr__" = some (some (.builtin "object.__setattr__"))
  po:(PySem.W.clsIn K C).any (fun cd => refPass cd.mro) = true
  hd:PySem.W.hasDictIn K C = true
  ob:PySem.W.mroIn K C (.type "object") = some true
section
variable {prog:Program} {w:World} {A:Around} {E:Value → Shared → Prop} {s:Shared} {K:PySem.W.Frag} {x C:Addr} {name:Str} {v:Value}
end
section
variable {X:Cx} {pins:List (Addr × Obj)} {σ:St} {H H0:Hp} {s s0:Shared} {dx:Addr}
end
section
variable {X:Cx} {o value:Expr} {f:Str} {pos pos':Pos} {ta tv:TE}
end
end L2
namespace L2
open PySem PySem.Spec PyProof.Rows Builtin Builtin.ObjectAttr
structure BaseI (K:PySem.W.Frag) (R:Addr):Prop where
  ga:PySem.W.specialIn K (.ref R) "__getattribute__" = some (some (.builtin "type.__getattribute__"))
  rd:PySem.W.readsIn K R (.type "type") = true
  fi:PySem.W.findCls K (.ref R) (.type "type") "__init__" = some (.val (.builtin "ValueError.__init__"))
section
variable {X:Cx}
end
section
variable {prog:Program} {w:World} {A:Around} {E:Value → Shared → Prop} {s:Shared} {K:PySem.W.Frag} {x D:Addr} {name:Str} {v:Value}
end
section
variable {X:Cx} {e:Expr} {f:Str} {pos:Pos} {ta:TE}
end
end L2
namespace L2
open PySem PySem.Spec PyProof.Rows
structure Shw (d:PyData) (n m:Nat):Prop where
  sh:d.showable = true
  nd:d.hasDict = false
  dp:d.depth ≤ m
  ln:d.shown.length ≤ n
structure Shws (ds:List PyData) (n m:Nat):Prop where
  sh:PyData.showableAll ds = true
  nd:PyData.hasDictAll ds = false
  dp:PyData.depthAll ds ≤ m
  ln:piled (PyData.shownAll ds) ≤ n
section
variable {X:Cx} {k:Nat} {pos:Pos} {e:Expr} {te:TE}
end
end L2
namespace L2
open PySem PySem.Spec PyProof.Rows
section
variable {α β:Type}
variable {P:Shared → Prop}
end
section
variable {X:Cx} {st:Stmt} {rest:List Stmt} {t u:TS} {pos:Pos}
end
section
variable {X:Cx}
end
end L2
local macro_rules
  | `(sortPriv% $n:ident) => do
    if n.getId == `rn then return Lean.mkCIdent (Lean.mkPrivateNameCore `PySem.Builtin.Int.W0All `PySem.Builtin.readNumeral)
    if n.getId == `vl then return Lean.mkCIdent (Lean.mkPrivateNameCore `PySem.Builtin.Int.W0All `PySem.Builtin.Numeral.value)
    if n.getId == `nd then return Lean.mkCIdent (Lean.mkPrivateNameCore `PySem.Builtin.Int.W0All `PySem.Builtin.numeralDigits?)
    if n.getId == `bl then return Lean.mkCIdent (Lean.mkPrivateNameCore `PySem.Builtin.Int.W0All `PySem.Builtin.isBlank)
    Lean.Macro.throwUnsupported
namespace L2
open PySem
section
variable {prog:Program} {w:World} {A:Around} {E:Value → Shared → Prop} {s:Shared}
end
end L2
namespace L2
open PySem PySem.Spec PyProof.Rows
section
variable {X:Cx} {pos:Pos} {e:Expr} {es:List Expr} {te:TE}
end
end L2
namespace L2
open PySem PySem.Spec PyProof.Rows
section
variable {prog:Program} {w:World} {A:Around} {R:Result → Shared → Prop} {I S:Addr} {fp wr:List Addr} {n:Nat} {P:Nat → Value → Prop} {St:Nat → Heap → Prop} {d:Value}
theorem kept_upd {h h':Heap} {f:Obj → Obj} (k:∀ (b:Addr) (o:Obj),b ∉ wr → h.get? b = some o → h'.get? b = some o):∀ (b:Addr) (o:Obj),b ∉ wr → b ≠ S → h.get? b = some o → (h'.update S f).get? b = some o:=fun b o nb ne e => by
  rw [Heap.get?_update_other _ _ (fun z => ne z.symm)]
  exact k b o nb e
theorem max_loopD (hw:Walks prog w A.in1 I fp wr n P St) (bt:Nat → Nat → Bool) (hb:CmpOf prog w A.in1 .Gt P bt) (hS:S ∉ fp):∀ (k j:Nat) (s:Shared) (vb:Value) (c:Nat),n - (j + 1) = k → j + 1 ≤ n → St (j + 1) s.heap → P (argBest bt j) vb →
    s.heap.get? S = some { cls:=.type "list",data:=.seq #[vb,vb] c } →
    (∀ (v:Value) (h':Heap) (tk:Nat),P (argBest bt (n - 1)) v → (∀ (b:Addr) (o:Obj),b ∉ wr → b ≠ S → s.heap.get? b = some o → h'.get? b = some o) → R (.ok (.ret v)) { heap:=h',gens:=s.gens,drawn:=s.drawn,toks:=tk,os:=s.os }) →
    codeAny (model prog w) A (.builtin "max.loop" { pos:=[.ref I,.none,.ref S],kw:=[(Str.ofString "default",d)] }) R s:=by
  have hSw:S ∉ wr:=fun z => hS (hw.sub S z)
  intro k
  induction k with
  | zero =>
    intro j s vb c hk hj hst hp e fin
    obtain rfl:n = j + 1:=by omega
    refine codeAny_builtin F.entry_max_loop ?_
    rw [Around.under_plainId F.plain_max_loop]
    refine wpAny_bind (wpAny_seqItems e rfl ?_)
    refine wpAny_bind (wpAny_tryCatch (hw.done _ _ _ hst fun h' tk keep => ?_))
    refine wpAny_bind (wpAny_updateSeq (keep S _ hSw e) rfl ?_ (by show 2 ≤ sizeLine; rw [sizeLine_eq]; decide) (by show 0 ≤ _; omega))
    refine wpAny_bind (wpAny_letGo ?_)
    exact wpAny_pure (fin _ _ _ hp (kept_upd keep))
  | succ k ih =>
    intro j s vb c hk hj hst hp e fin
    refine codeAny_builtin F.entry_max_loop ?_
    rw [Around.under_plainId F.plain_max_loop]
    refine wpAny_bind (wpAny_seqItems e rfl ?_)
    refine wpAny_bind (wpAny_tryCatch (hw.item (j + 1) _ _ _ (by omega) hst fun v h' tk hv hst' keep => ?_))
    refine wpAny_bind (wpAny_pure ?_)
    refine wpAny_bind (wpAny_tryCatch (wpAny_holding (wpAny_bind (hb _ _ _ _ _ _ _ hv hp ?_))))
    refine wpAny_bind (wpAny_holding (wpAny_truthy_bool (wpAny_bind (wpAny_letGo (wpAny_pure ?_)))))
    have e':=keep S _ hSw e
    by_cases hbt:bt (j + 1) (argBest bt j) = true
    · rw [hbt]
      refine wpAny_bind (wpAny_updateSeq e' rfl ?_ (by show 2 ≤ sizeLine; rw [sizeLine_eq]; decide) (by show 2 ≤ sizeLine + 1; rw [sizeLine_eq]; decide))
      refine wpAny_bind (wpAny_letGo (wpAny_pure ⟨plainId_quiet F.plain_max_loop _,?_⟩))
      refine ih (j + 1) _ v _ (by omega) (by omega) (hw.frame _ _ _ hst' fun b hb' o q => ?_) ?_ (get?_update_seq (c:="list") e' _) fun v2 h2 tk2 hp2 k2 => fin v2 h2 tk2 hp2 fun b o nb ne q => k2 b o nb ne ?_
      · show (h'.update S _).get? b = _
        rw [Heap.get?_update_other _ _ (fun (z:S = b) => hS (by rw [z]; exact hb'))]
        exact q
      · show P (argBest bt (j + 1)) v
        rw [argBest,if_pos hbt]
        exact hv
      · exact kept_upd keep b o nb ne q
    · rw [Bool.not_eq_true] at hbt
      rw [hbt]
      refine wpAny_bind (wpAny_letGo (wpAny_pure ⟨plainId_quiet F.plain_max_loop _,?_⟩))
      refine ih (j + 1) _ vb _ (by omega) (by omega) hst' ?_ e' fun v2 h2 tk2 hp2 k2 => fin v2 h2 tk2 hp2 fun b o nb ne q => k2 b o nb ne (keep b o nb q)
      rw [argBest,if_neg (by rw [hbt]; decide)]
      exact hp
theorem max_loopD0 (hw:Walks prog w A.in1 I fp wr n P St) (bt:Nat → Nat → Bool) (hb:CmpOf prog w A.in1 .Gt P bt) (hS:S ∉ fp) {s:Shared} {c:Nat} (h0:St 0 s.heap) (e:s.heap.get? S = some { cls:=.type "list",data:=.seq #[] c })
    (fin0:n = 0 → ∀ (h':Heap) (tk:Nat),(∀ (b:Addr) (o:Obj),b ∉ wr → b ≠ S → s.heap.get? b = some o → h'.get? b = some o) → R (.ok (.ret d)) { heap:=h',gens:=s.gens,drawn:=s.drawn,toks:=tk,os:=s.os })
    (fin:0 < n → ∀ (v:Value) (h':Heap) (tk:Nat),P (argBest bt (n - 1)) v → (∀ (b:Addr) (o:Obj),b ∉ wr → b ≠ S → s.heap.get? b = some o → h'.get? b = some o) → R (.ok (.ret v)) { heap:=h',gens:=s.gens,drawn:=s.drawn,toks:=tk,os:=s.os }) :
    codeAny (model prog w) A (.builtin "max.loop" { pos:=[.ref I,.none,.ref S],kw:=[(Str.ofString "default",d)] }) R s:=by
  have hSw:S ∉ wr:=fun z => hS (hw.sub S z)
  refine codeAny_builtin F.entry_max_loop ?_
  rw [Around.under_plainId F.plain_max_loop]
  refine wpAny_bind (wpAny_seqItems e rfl ?_)
  by_cases hn:n = 0
  · subst hn
    refine wpAny_bind (wpAny_tryCatch (hw.done _ _ _ h0 fun h' tk keep => ?_))
    exact wpAny_bind (wpAny_rule (wpAny_pure (fin0 rfl _ _ fun b o nb _ q => keep b o nb q)))
  · refine wpAny_bind (wpAny_tryCatch (hw.item 0 _ _ _ (by omega) h0 fun v h' tk hv hst' keep => ?_))
    refine wpAny_bind (wpAny_pure ?_)
    have e':=keep S _ hSw e
    refine wpAny_bind (wpAny_updateSeq e' rfl ?_ (by show 0 ≤ sizeLine; omega) (by show 2 ≤ sizeLine + 1; rw [sizeLine_eq]; decide))
    refine wpAny_pure ⟨plainId_quiet F.plain_max_loop _,?_⟩
    refine max_loopD hw bt hb hS _ 0 _ v _ rfl (by omega) (hw.frame _ _ _ hst' fun b hb' o q => ?_) hv (get?_update_seq (c:="list") e' _) fun v2 h2 tk2 hp2 k2 => fin (by omega) v2 h2 tk2 hp2 fun b o nb ne q => k2 b o nb ne ?_
    · show (h'.update S _).get? b = _
      rw [Heap.get?_update_other _ _ (fun (z:S = b) => hS (by rw [z]; exact hb'))]
      exact q
    · exact kept_upd keep b o nb ne q
end
section
variable {X:Cx} {e:Expr} {es:List Expr} {kws:List Keyword} {t tk:TA} {p pos:Pos}
noncomputable def tMaxD (K:PySem.W.Frag) (t tk:TA):TE:=fun σ H Q => t σ H fun vs H1 => tk σ H1 fun zs H2 => ∃ (a:Addr) (ns:List Int) (m:Int),vs = [.ref a] ∧ zs = [.int m] ∧ SqL K H2 a (ns.map V.int) ∧ ∀ M:Int,(ns = [] → M = m) → (ns ≠ [] → M ∈ ns) → (∀ x ∈ ns,x ≤ M) → Q (.int M) H2
theorem vals_int:∀ {ns:List Int} {us:List Value},Vals (ns.map V.int) us → ∀ (i:Nat) (v:Value),us[i]? = some v → ∃ t,v = Value.int (ns.getD i 0) t
  | [],_,.nil,i,v,h => by cases h
  | n :: ns,_,.cons r1 r2,0,v,h => by
    cases h
    obtain ⟨t,rfl⟩:=r1
    exact ⟨t,rfl⟩
  | n :: ns,_,.cons r1 r2,i + 1,v,h => vals_int r2 i v h
theorem pe_maxD (hc:X.calm = true) (hg:Gl X "max") (hm:X.mg "max" = none) (ha:PA X [e] t) (hkw:PK X kws tk) (hks:(backToKw pos (keywordEach kws X.env)).filterMap (·.1) = [Str.ofString "default"]:=by rfl)
    (h1:backTo pos (starEach [e] X.env) = (false,eval e X.env) :: backTo pos (starEach [] X.env):=by rfl) (h2:(backTo pos (starEach [e] X.env)).any (·.1) = false:=by rfl) (h3:(backToKw pos (keywordEach kws X.env)).all (·.1.isSome) = true:=by rfl) (h4:(backToKw pos (keywordEach kws X.env)).any (·.1.isNone) = false:=by rfl) :
    PE X (.Call (.Name "max" p) [e] kws pos) (tMaxD X.K t tk):=by
  intro pins s σ H Q I h
  refine wpAny_Call_Name_kw (ld_blt I hg hm boot_max ?_ (by decide) (by decide))
  refine PyProof.Rows.callWith_kw (thn (ha pos pins s σ H _ I h) fun us s1 ⟨vs,H1,I1,r1,q1⟩ => thn (hkw pos pins s1 σ H1 _ I1 q1) fun ws s2 ⟨zs,H2,I2,rz,q2⟩ => ?_) h1 h2 h3 h4
  obtain ⟨a,ns,m,rfl,rfl,ha,q⟩:=q2
  obtain ⟨u,rfl,ru⟩:=vals1 r1
  cases ru
  obtain ⟨d,rfl,td,rfl⟩:=vals1 rz
  rw [hks]
  obtain ⟨its,rv,pl,hz⟩:=I2.list ha
  obtain ⟨ob,cn,e1,e2,e3,e4⟩:=pl
  have hl:s2.heap.IsList a its.toArray:=⟨ob,e1,e2,cn,e4⟩
  refine kmb_tree F.kind_max F.plain_max F.entry_max rfl ?_
  refine wpAny_bind (wpAny_of_eq (a:=[none,some (Value.int m td)]) rfl ?_)
  refine wpAny_bind (wpAny_pure ?_)
  refine wpAny_bind (wpAny_pyIter_list hl ?_)
  refine wpAny_bind (wpAny_newList ?_)
  refine wpAny_pure ⟨plainId_quiet F.plain_max_loop _,?_⟩
  have hlt:a < s2.heap.objs.size:=Heap.lt_size e1
  have hne:a ≠ s2.heap.objs.size:=Nat.ne_of_lt hlt
  have len:its.length = ns.length:=by rw [← rv.length,List.length_map]
  have keep1:∀ (b:Addr) (o:Obj),s2.heap.get? b = some o → ((s2.heap.push { cls:=Value.type "list_iterator",data:=Data.fields #[Value.ref a,Value.int 0 0] }).push { cls:=Value.type "list",data:=Data.seq #[] }).get? b = some o:=fun b o q => Heap.get?_push_of_some _ (Heap.get?_push_of_some _ q)
  have back:∀ (h':Heap) (tk':Nat),(∀ (b:Addr) (o:Obj),b ∉ [s2.heap.objs.size] → b ≠ (s2.heap.push { cls:=Value.type "list_iterator",data:=Data.fields #[Value.ref a,Value.int 0 0] }).objs.size → ((s2.heap.push { cls:=Value.type "list_iterator",data:=Data.fields #[Value.ref a,Value.int 0 0] }).push { cls:=Value.type "list",data:=Data.seq #[] }).get? b = some o → h'.get? b = some o) → ∀ (b:Addr) (o:Obj),s2.heap.get? b = some o → h'.get? b = some o:=fun h' _ k b o q => by
    have lt:=Heap.lt_size q
    refine k b o (fun z => ?_) (fun z => ?_) (keep1 b o q)
    · exact Nat.ne_of_lt lt (List.mem_singleton.mp z)
    · rw [Heap.size_push] at z
      exact Nat.ne_of_lt (Nat.lt_succ_of_lt lt) z
  refine max_loopD0 (Walks.list (A:=X.A.in1) (I2.ok.hd hc) s2.heap.objs.size a hne its.toArray) (fun i j => decide (ns.getD i 0 > ns.getD j 0)) (CmpOf.ints_gt (fun i => ns.getD i 0) fun i v q => vals_int rv i v (by rw [← q]; simp)) ?_ ⟨⟨_,Heap.get?_push_of_some _ (Heap.get?_push_size _ rfl),rfl,rfl⟩,⟨ob,keep1 _ _ e1,e2,cn,e4⟩⟩ (Heap.get?_push_size _ rfl) (fun h0 h' tk' kp => ?_) (fun hp v h' tk' hv kp => ?_)
  · intro z
    simp only [List.mem_cons,List.mem_nil_iff,or_false,Heap.size_push] at z
    rcases z with z | z
    · exact Nat.succ_ne_self _ z
    · exact Nat.ne_of_lt (Nat.lt_succ_of_lt hlt) z.symm
  · have n0:ns = []:=List.eq_nil_of_length_eq_zero (by rw [← len]; simpa using h0)
    exact ⟨.int m,H2,I2.kept (back h' tk' kp),⟨td,rfl⟩,q m (fun _ => rfl) (fun z => absurd n0 z) (fun x hx => by rw [n0] at hx; cases hx)⟩
  · have hsz:its.toArray.size = ns.length:=by rw [List.size_toArray,len]
    rw [hsz] at hp hv
    obtain ⟨b1,b2⟩:=argBest_gt (fun i => ns.getD i 0) (ns.length - 1)
    have hv':its.toArray[argBest (fun i j => decide (ns.getD i 0 > ns.getD j 0)) (ns.length - 1)]? = some v:=hv
    rw [List.getElem?_toArray] at hv'
    obtain ⟨tv,rfl⟩:=vals_int rv _ v hv'
    refine ⟨.int _,H2,I2.kept (back h' tk' kp),⟨tv,rfl⟩,q _ (fun z => by rw [z] at hp; exact absurd hp (by decide)) (fun _ => ?_) (fun x hx => ?_)⟩
    · have hb:argBest (fun i j => decide (ns.getD i 0 > ns.getD j 0)) (ns.length - 1) < ns.length:=by
        have:=b1
        omega
      rw [List.getD_eq_getElem?_getD,List.getElem?_eq_getElem hb]
      exact List.getElem_mem _
    · obtain ⟨i,hi,rfl⟩:=List.getElem_of_mem hx
      have:=b2 i (by omega)
      rw [List.getD_eq_getElem?_getD (i:=i),List.getElem?_eq_getElem hi] at this
      exact this
end
end L2
namespace L2
open PySem PySem.Spec PyProof.Rows
structure DKt (K:PySem.W.Frag) (w:World) (a:Addr) (ps:List (Str × Int)):Prop where
  ns:(a == sysModules) = false
  at_:∀ (P:Program) (h:Heap),K.In h → ∃ vs:List (Key × Value),KV (ps.map fun p => ((Sum.inr p.1:Key),V.int p.2)) vs ∧ h.DictOf (mixKind P w) a vs
section
variable {X:Cx} {o i:Expr} {pos:Pos} {td ty:TE}
end
end L2
namespace L2
open PySem PySem.Spec PyProof.Rows
section
variable {P:Program} {w:World} {K:PySem.W.Frag} {mg:Str → Option Value} {base:Heap}
end
end L2
namespace L2
open PySem PySem.Spec PyProof.Rows
section
variable {prog:Program} {w:World} {A:Around} {E:Value → Shared → Prop} {s:Shared}
end
end L2
namespace L2
open PySem PySem.Spec PyProof.Rows
section
variable {X:Cx}
end
end L2
namespace L2
open PySem PySem.Spec PyProof.Rows
section
variable {X:Cx}
theorem call_list_dK (hc:X.calm = true):CallR X (.type "list") (fun xs H Q => ∃ a kvs,xs = [.ref a] ∧ H a = some (.dK kvs) ∧ ∀ l,H l = none → Q (.ref l) (upd H l (.lst (kvs.map fun p => kV p.1)))):=by
  intro pins s σ H xs us Q I r h
  obtain ⟨a,kvs,rfl,ha,q⟩:=h
  obtain ⟨u,rfl,ru⟩:=vals1 r
  cases ru
  obtain ⟨z,hd,ys,rel,o,es,ep,e,ex,dt,_,prs,_⟩:=dk_of I.hok ha
  have hl1:=prs.length
  have hl2:kvs.length = ys.length:=rel.length
  have hlen:es.size = kvs.length:=by rw [hl2,← hl1]; simp
  refine PySem.W.kdl_call (kdl_raw hd) (I.ok.hd hc) ⟨o,e,ex,dt⟩ (by rw [hlen]; exact z) fun h' tk acc' c' hk hD hacc => ?_
  have al:acc'.toList.length = kvs.length:=by rw [Array.length_toList,hacc.1,hlen]
  have vr:Vals (kvs.map fun p => kV p.1) acc'.toList:=by
    have:∀ (ks:List V) (us:List Value),ks.length = us.length → (∀ (j:Nat) (k:V) (u:Value),ks[j]? = some k → us[j]? = some u → RelV k u) → Vals ks us:=fun ks => by
      induction ks with
      | nil =>
        intro us hl _
        cases us with
        | nil => exact .nil
        | cons _ _ => cases hl
      | cons k ks ih =>
        intro us hl hh
        cases us with
        | nil => cases hl
        | cons u us => exact .cons (hh 0 k u rfl rfl) (ih us (Nat.succ.inj hl) fun j k' u' h1 h2 => hh (j + 1) k' u' h1 h2)
    refine this _ _ (by rw [List.length_map,al]) fun j k u h1 h2 => ?_
    rw [List.getElem?_map] at h1
    obtain ⟨p,hp,rfl⟩:=Option.map_eq_some_iff.mp h1
    obtain ⟨⟨k1,y⟩,hy,ek,_⟩:=pair_get rel hp
    replace ek:p.1 = k1:=ek
    obtain ⟨en,hen,hu⟩:=hacc.2 j u (by rw [← h2]; simp)
    have e1:es.toList[j]? = some en:=by rw [← hen]; simp
    rw [hu,ek]
    exact key_rel (prs.get? e1 hy).1
  refine ⟨.ref s.heap.objs.size,_,I.laid (o:=.lst (kvs.map fun p => kV p.1)) hk (Nat.le_refl _) ?_,rfl,q _ (I.hok.fresh (Nat.le_refl _))⟩
  refine ⟨by rw [List.length_map]; exact z,_,c',vr,?_⟩
  rw [hD]
end
end L2
namespace L2
open PySem PySem.Spec PyProof.Rows PySem.Calls
section
variable {prog:Program} {w:World} {K:Type} [DecidableEq K] {knd:HeapKind prog w K} {A:Around} {E:Value → Shared → Prop} {s:Shared}
end
section
variable {X:Cx}
end
end L2
namespace L2
open PySem PySem.Spec PyProof.Rows PySem.W
section
variable {prog:Program} {w:World} {A:Around} {E:Value → Shared → Prop} {s:Shared}
structure RawG (es:Array DictEntry) (lo:Addr) (h:Heap) (as:List Addr):Prop where
  rise:as.Pairwise (· < ·)
  up:∀ a ∈ as,lo < a
  at':∀ (j:Nat) (a:Addr),as[j]? = some a → ∃ en,es[j]? = some en ∧ h.get? a = some { cls:=.type "tuple",data:=.seq #[en.key,en.val] }
end
section
variable {prog:Program} {w:World} {A:Around} {s:Shared} {R:Result → Shared → Prop} {es:Array DictEntry} {ep:Nat}
end
section
variable {prog:Program} {w:World} {A:Around} {E:Value → Shared → Prop} {s:Shared} {r d:Addr} {es:Array DictEntry} {ep:Nat}
end
end L2
namespace L2
open PySem PySem.Spec PyProof.Rows
section
variable {X:Cx}
end
section
variable {prog:Program} {w:World} {A:Around} {E:Value → Shared → Prop} {s:Shared}
end
section
variable {X:Cx} {l:Expr} {tl:TE} {p p2 pos pos2:Pos}
end
end L2
namespace L2
open PySem PySem.Spec PyProof.Rows
section
variable {X:Cx}
end
end L2
namespace L2
open PySem PySem.Spec PyProof.Rows
theorem upl_entry:entryFor table "dict.update.loop" = some Builtin.«dict.update.loop»:=entryFor_of_tree (by kernel_rfl)
theorem upl_plain:plainId "dict.update.loop" = true:=by decide +kernel
theorem nokeys_list:typeLookup (.type "list") "keys" = pure none:=by rw [typeLookup_type,builtinLookup_eq_fast]; kernel_rfl
section
variable {prog:Program} {w:World} {A:Around} {E:Value → Shared → Prop} {s:Shared} {a:Addr} {xs:Array Value} {k:Nat} {sl:Array (Option Value)}
theorem listKeys_none {Q:Option Value → Shared → Prop} (hx:s.heap.get? a = some { cls:=.type "list",dict:=none,data:=.seq xs k,slots:=sl }) (hA:A.handled = none)
    (h:∀ h' tk,(∀ b o,s.heap.get? b = some o → h'.get? b = some o) → Q none { s with heap:=h',toks:=tk }):wpAny (model prog w) A (getAttr? (.ref a) "keys") Q E s:=by
  obtain ⟨hp,g,d,tk,os⟩:=s
  have hT:∀ tk',(⟨hp,g,d,tk',os⟩:Shared).TypeIs (.ref a) "list":=fun _ => ⟨_,hx,rfl⟩
  have f1:=sub_AttributeError
  have f3:=F.slot_list_getattribute.lookup
  have f4:=F.slot_list_getattribute.bind (.ref a)
  have f5:=am_list_getattr_none
  unfold getAttr? getAttrBy? getAttrBy
  repeat (any_goals (first | assumption | exact hT _ | ((with_reducible show wpAny _ _ (call (Value.builtin "list.__getattribute__") _ _) _ _ _); refine call_meets F.slot_list_getattribute (hT _) am_entry_list_getattribute (F.args_list_getattribute_2 _ _) (meets_getattribute_miss_list a xs k sl "keys" _ nokeys_list (by decide +kernel)) ⟨hx,hA,fun h' tk' e hx' => ?_⟩) | wp_step))
  obtain ⟨t',u',he⟩:=hx'.there
  show wpAny _ _ (getattributeRaised _ _ _ _ _ _ _) _ _ _
  unfold getattributeRaised
  repeat (any_goals (first | assumption | wp_step))
  exact h _ _ hx'.of.keeps
end
section
variable {X:Cx} {pins:List (Addr × Obj)} {σ:St}
end
end L2
namespace L2
open PySem PySem.Spec PyProof.Rows
section
variable {prog:Program} {w:World} {A:Around} {E:Value → Shared → Prop} {s:Shared} {K:Type} [DecidableEq K] {knd:HeapKind prog w K}
end
section
variable {X:Cx}
end
end L2
namespace L2
open PySem PySem.Spec PyProof.Rows
section
variable {M:Model} {A:Around} {E:Value → Shared → Prop} {s:Shared}
theorem leaves_any {base:Heap} {env:Env} {outer:List Env} {L e:Addr} {cls a0 fl:Value} {Q:Unit → Shared → Prop} (hfr:A.frames = some (env :: outer)) (hf:env.frame = some L) (k1:base.StaysIn s.heap) (k2:base.get? e = none) (k3:s.heap.FunFrames base (env :: outer)) (k4:s.heap.TracedAtW base e cls a0 fl)
    (hQ:∀ h',Heap.FlyingW base outer e cls a0 h' → s.heap.UpToSlots h' → Q () { s with heap:=h' }):wpAny M A (leaving env (.ref e)) Q E s:=by
  by_cases hfl:(fl == rawInt L) = true
  · have hfl':fl = rawInt L:=by simpa using hfl
    rw [hfl'] at k4
    unfold leaving
    refine wpAny_bind (wpAny_noteFrame_againW hf k4 ?_)
    refine wpAny_landsW ⟨k1,k2,k3,k4⟩ fun h' hF up => ?_
    obtain ⟨j1,j2,⟨_,_,j3⟩,j4⟩:=hF
    exact hQ h' ⟨j1,j2,j3,j4⟩ up
  · obtain ⟨oe,vs,T,oT,ts,he,⟨hcls,h0⟩,hd,h1,hnT,hTe,hT,hdT,h3⟩:=k4
    subst hcls
    unfold leaving noteFrame
    simp only [hf]
    refine wpAny_bind (wpAny_bind (wpAny_field he hd h1 ?_))
    rw [if_pos (show (Value.ref T != Value.none) = true from by simp)]
    refine wpAny_bind (wpAny_field hT hdT h3 ?_)
    rw [if_neg hfl]
    refine wpAny_bind (wpAny_setField hT hdT (Array.getElem?_eq_some_iff.mp h3).1 ?_)
    have other:∀ b,b ≠ T → (s.heap.update T (Obj.mapFields (·.setIfInBounds 3 Value.none))).get? b = s.heap.get? b:=fun b hb => Heap.get?_update_other _ _ (Ne.symm hb)
    have noRecord:∀ b o,s.heap.get? b = some o → (∀ vs,o.data ≠ .fields vs) → b ≠ T:=fun b o hb hnf q => by
      rw [q,hT] at hb; injection hb with hb; subst hb; exact hnf ts hdT
    refine wpAny_newEntryW hfr (k3.of_keeps fun b o hb hnf => ⟨o,(other b (noRecord b o hb hnf)).trans hb,rfl⟩) hf ((other e (Ne.symm hTe)).trans he)
      (fun b o hbo => (other b fun q => by rw [q,hnT] at hbo; cases hbo).trans (k1 b o hbo)) k2 hd (Array.getElem?_eq_some_iff.mp h1).1 h0
      fun h' ⟨x1,x2,x3,x4⟩ => hQ h' ⟨x1,k2,x2.2.2,x3⟩ fun b o hb hnf => x4 b o ((other b (noRecord b o hb hnf)).trans hb) hnf
theorem setFlight_any {base:Heap} {l:List Env} {e:Addr} {cls a0 fl:Value} {fr:Option Addr} {Q:Unit → Shared → Prop}
    (hkb:base.StaysIn s.heap) (hl:s.heap.FunFrames base l) (ht:s.heap.TracedAtW base e cls a0 fl)
    (h:∀ h',base.StaysIn h' → h'.FunFrames base l → h'.TracedAtW base e cls a0 (fr.elim Value.none fun f => rawInt f) → (∀ b o,s.heap.get? b = some o → (∀ vs,o.data ≠ .fields vs) → h'.get? b = some o) → Q () { s with heap:=h' }) :
    wpAny M A (setFlight (.ref e) fr) Q E s:=by
  obtain ⟨oe,vs,T,oT,ts,he,hcls,hd,h1,hnT,hTe,hT,hdT,h3⟩:=ht
  have hsz3:3 < ts.size:=(Array.getElem?_eq_some_iff.mp h3).1
  have other:∀ b,b ≠ T → (s.heap.update T (Obj.mapFields (·.setIfInBounds 3 (fr.elim Value.none fun f => rawInt f)))).get? b = s.heap.get? b :=
    fun b hb => Heap.get?_update_other _ _ (Ne.symm hb)
  have noRecord:∀ b o,s.heap.get? b = some o → (∀ vs,o.data ≠ .fields vs) → b ≠ T:=fun b o hb hnf q => by
    rw [q,hT] at hb; injection hb with hb; subst hb; exact hnf ts hdT
  unfold setFlight
  refine wpAny_bind (wpAny_field he hd h1 ?_)
  rw [if_pos (show (Value.ref T != Value.none) = true from by simp)]
  refine wpAny_setField hT hdT hsz3 (h _ (fun b o hbo => (other b fun q => by rw [q,hnT] at hbo; cases hbo).trans (hkb b o hbo))
    (hl.of_keeps fun b o hb hnf => ⟨o,(other b (noRecord b o hb hnf)).trans hb,rfl⟩) ?_ fun b o hb hnf => (other b (noRecord b o hb hnf)).trans hb)
  exact ⟨oe,vs,T,_,_,(other e (Ne.symm hTe)).trans he,hcls,hd,h1,hnT,hTe,Heap.get?_update_self _ hT (Obj.isFreed_of_fields (Obj.data_mapFields hdT _)),Obj.data_mapFields hdT _,by simp [hsz3]⟩
end
theorem frames_but {B h1 h2:Heap} {C:Addr} (sb:Heap.SameBut C h1 h2):∀ {l:List Env},h1.FunFrames B l → C ∉ frs l → h2.FunFrames (PySem.W.hideAll B [C]) l
  | [],_,_ => trivial
  | env :: r,⟨hk,⟨L,o,hf,hn,ho,hd⟩,hr⟩,hne => by
    have eq:frs (env :: r) = L :: frs r:=by
      unfold frs
      rw [List.filterMap_cons,hf]
    rw [eq] at hne
    refine ⟨hk,⟨L,o,hf,?_,(sb.2 L fun z => hne (by rw [z]; exact .head _)).trans ho,hd⟩,frames_but sb hr fun z => hne (.tail _ z)⟩
    cases q:(PySem.W.hideAll B [C]).get? L with
    | none => rfl
    | some u => rw [PySem.W.of_hideAll _ q] at hn; cases hn
section
variable {X:Cx} {pins:List (Addr × Obj)} {σ:St} {H H':Hp} {s s':Shared} {x C:Addr} {cls:Value} {d:Option Addr}
theorem Fly.comp {m0:Str → Option Value} {cenv0:Env} (I:Inv X pins σ H s) (hst:X.stack = X.env :: X.outer) (hfr:X.env.frame = some X.env.locals) (hex:X.ex = []) (f:Fly X.prog X.w X.stack H s x cls H' s') (hdi:DictIs x d s')
    (hC0:X.s₀.heap.get? C = none) (hCs:s.heap.Ns C m0) (hCn:H C = none) (hCf:C ∉ frs X.stack) (hcf:cenv0.frame = X.env.frame)
    (hxe:∀ s,wpAny (model X.prog X.w) X.A (leaving X.env (.ref x)) (fun _ s'' => Fly X.prog X.w X.outer X.H₀ X.s₀ x cls H' s'' ∧ DictIs x d s'') (fun _ _ => False) s → X.xe (.ref x) s) {Qe:Value → Shared → Prop} {acc:Value} :
    notedBy (model X.prog X.w) X.A cenv0 (fun x' s'' => compPost (model X.prog X.w) X.A X.xe none Qe acc C (.error x') s'') (.ref x) s':=by
  obtain ⟨B,a0,fl,c1,c2⟩:=f.fl
  rw [hst] at fl
  have nx:∀ b:Addr,b ∉ X.ex:=fun b => by rw [hex]; simp
  obtain ⟨oC,es,ep,hoC,hdC,rC⟩:=hCs
  have keepC:s'.heap.get? C = some oC:=f.un.keep C oC hoC hCn hCf (by simp)
  have hCH':H' C = none:=f.un.free C oC hoC hCn (by simp)
  obtain ⟨uC,huC⟩:=c2 C oC hoC hCf
  have hxC:x ≠ C:=fun z => by have q:=fl.2.1; rw [z,huC] at q; cases q
  unfold notedBy
  rw [show noteFrame (.ref x) cenv0 = noteFrame (.ref x) X.env from by unfold noteFrame PySem.frameOf; rw [hcf]]
  refine wpAny_mono (Keeps.note.wpAny (Q:=fun _ s'' => ∃ h1,s'' = { s' with heap:=h1 } ∧ Heap.HeldW B (X.env :: X.outer) x cls a0 X.env.locals h1 ∧ s'.heap.UpToSlots h1) (E:=fun _ _ => False) hdi (wpAny_looks_onW (by rw [I.ok.frames,hst]) hfr fl fun h1 hh up => ⟨h1,rfl,hh,up⟩)) (fun _ s'' ⟨⟨h1,e1,hh,up⟩,hdi1⟩ => ?_) (fun _ _ z => z.1.elim)
  subst e1
  refine ⟨m0,up.ns ⟨oC,es,ep,keepC,hdC,rC⟩,fun h2 sb cenv _ => ?_⟩
  obtain ⟨g1,g2,g3,g4⟩:=hh
  have stB:(PySem.W.hideAll B [C]).StaysIn h2:=fun b o e => by
    have hb:b ≠ C:=fun z => by rw [z,PySem.W.hideAll_none _ (.head _)] at e; cases e
    exact (sb.2 b hb).trans (g1 b o (PySem.W.of_hideAll _ e))
  have nB:∀ b,B.get? b = none → (PySem.W.hideAll B [C]).get? b = none:=fun b hb => by
    cases q:(PySem.W.hideAll B [C]).get? b with
    | none => rfl
    | some u => rw [PySem.W.of_hideAll _ q] at hb; cases hb
  have fr2:h2.FunFrames (PySem.W.hideAll B [C]) (X.env :: X.outer):=frames_but sb g3 (by rw [← hst]; exact hCf)
  obtain ⟨oe,vs,T,oT,ts,he,hcl,hd,q1,hnT,hTe,hT,hdT,q3⟩:=g4
  have hTC:T ≠ C:=fun z => by rw [z,huC] at hnT; cases hnT
  have tr2:h2.TracedAtW (PySem.W.hideAll B [C]) x cls a0 (rawInt X.env.locals):=⟨oe,vs,T,oT,ts,(sb.2 x hxC).trans he,hcl,hd,q1,nB T hnT,hTe,(sb.2 T hTC).trans hT,hdT,q3⟩
  have hdi2:DictIs x d { s' with heap:=h2 }:=by
    obtain ⟨ob,e,hb⟩:=hdi1
    exact ⟨ob,(sb.2 x hxC).trans e,hb⟩
  unfold PySem.passOn
  refine wpAny_bind (wpAny_field (s:={ s' with heap:=h2 }) ((sb.2 x hxC).trans he) hd q1 ?_)
  rw [if_neg (show ¬ ((Value.ref T == Value.none) = true) from by simp)]
  refine wpAny_bind (wpAny_mono (Keeps.flight.wpAny (Q:=fun _ s3 => ∃ h3 fl3,s3 = { s' with heap:=h3 } ∧ (PySem.W.hideAll B [C]).StaysIn h3 ∧ h3.FunFrames (PySem.W.hideAll B [C]) (X.env :: X.outer) ∧ h3.TracedAtW (PySem.W.hideAll B [C]) x cls a0 fl3 ∧ h2.UpToSlots h3) (E:=fun _ _ => False) hdi2 (setFlight_any stB fr2 tr2 fun h3 j1 j2 j3 j4 => ⟨h3,_,rfl,j1,j2,j3,fun b o e hn => ⟨o.slots,j4 b o e hn⟩⟩)) (fun _ s3 ⟨⟨h3,fl3,e3,j1,j2,j3,j4⟩,hdi3⟩ => ?_) (fun _ _ z => z.1.elim))
  subst e3
  refine wpAny_throw (hxe _ ?_)
  refine wpAny_mono (Keeps.leave.wpAny (Q:=fun _ s4 => Fly X.prog X.w X.outer X.H₀ X.s₀ x cls H' s4) (E:=fun _ _ => False) hdi3 (leaves_any (by rw [I.ok.frames,hst]) hfr j1 (nB x g2) j2 j3 fun h4 fl4 up4 => ?_)) (fun _ s4 z => z) (fun _ _ z => z.1)
  have st:∀ b o,B.get? b = some o → b ≠ C → h4.get? b = some o:=fun b o e hb => fl4.1 b o (PySem.W.hideAll_get _ e (by simpa using hb))
  have same:∀ b u v,B.get? b = some u → s'.heap.get? b = some v → u = v:=fun b u v h1 h2 => by
    have h3:=fl.1 b u h1
    rw [h2] at h3
    exact (Option.some.inj h3).symm
  have oldC:∀ b o,X.s₀.heap.get? b = some o → b ≠ C:=fun b o e z => by rw [z,hC0] at e; cases e
  have trkC:∀ b o,H' b = some o → b ≠ C:=fun b o e z => by rw [z,hCH'] at e; cases e
  have upAll:∀ b o,b ≠ C → s'.heap.get? b = some o → (∀ vs,o.data ≠ .fields vs) → ∃ sl,h4.get? b = some { o with slots:=sl }:=fun b o hb e hn => by
    obtain ⟨s1,e1⟩:=up b o e hn
    obtain ⟨s2,e2⟩:=j4 b _ ((sb.2 b hb).trans e1) hn
    obtain ⟨s3,e3⟩:=up4 b _ e2 hn
    exact ⟨s3,e3⟩
  have slot:∀ b o,X.s₀.heap.get? b = some o → X.H₀ b = none → b ∈ X.fs → ∃ sl,h4.get? b = some { o with slots:=sl }:=fun b o e n hb => by
    obtain ⟨sl,e1⟩:=I.base.slot b o e n hb (nx b)
    obtain ⟨sl2,e2⟩:=f.un.any e1 (I.base.free b o e n (nx b)) (by simp)
    obtain ⟨_,of,ho,hnf⟩:=I.ok.funs.mem hb
    rw [e] at ho
    cases ho
    obtain ⟨sl3,e3⟩:=upAll b _ (oldC b o e) e2 hnf
    exact ⟨sl3,e3⟩
  refine ⟨f.os.trans I.os,f.bare,⟨fun b o e n hb _ => ?_,fun b o e n hb _ => slot b o e n hb,fun b o e n _ => ?_,fun b o e _ => ?_,fun b xs e => f.un.tups b xs (I.base.tups b xs e),fun b o u e => f.un.frzs b o u (I.base.frzs b o u e),fun b ps e => ?_⟩,fun a o e => ?_,⟨_,a0,fl4,fun b o e => ?_,fun b o e hb => ?_⟩,f.free⟩
  · have e1:=I.base.keep b o e n hb (nx b)
    have n1:=I.base.free b o e n (nx b)
    have hb':=I.notSt (I.oldL e) hb
    have e2:=f.un.keep b o e1 n1 hb' (by simp)
    obtain ⟨u,hu⟩:=c2 b o e1 hb'
    exact same b u o hu e2 ▸ st b u hu (oldC b o e)
  · obtain ⟨o',e1⟩:=I.base.there b o e (nx b)
    exact f.un.free b o' e1 (I.base.free b o e n (nx b)) (by simp)
  · by_cases hb:b ∈ X.fs
    · obtain ⟨sl,e1⟩:=slot b o e (I.ok.frf b hb) hb
      exact ⟨_,e1⟩
    · obtain ⟨o',e1⟩:=I.base.there b o e (nx b)
      obtain ⟨u,hu⟩:=c2 b o' e1 (I.notSt (I.oldL e) hb)
      exact ⟨u,st b u hu (oldC b o e)⟩
  · obtain ⟨m1,e1⟩:=I.base.tbls b ps e
    obtain ⟨m2,e2⟩:=f.un.tbls b _ e1
    exact ⟨m1 ++ m2,by rw [e2,Array.append_assoc]⟩
  · refine (f.hok a o e).stay (fun b u hb q => ?_) (fun _ q => q) fun _ _ q => q
    have t:∃ o',H' b = some o':=by
      rcases hb with z | z
      · exact ⟨o,by rw [z]; exact e⟩
      · exact ⟨_,z⟩
    obtain ⟨o',e'⟩:=t
    obtain ⟨v,hv⟩:=c1 b o' e'
    exact same b v u hv q ▸ st b v hv (trkC b o' e')
  · obtain ⟨u,hu⟩:=c1 b o e
    exact ⟨u,PySem.W.hideAll_get _ hu (by simpa using trkC b o e)⟩
  · obtain ⟨o',e1⟩:=I.base.there b o e (nx b)
    obtain ⟨u,hu⟩:=c2 b o' e1 (I.notSt (I.oldL e) hb)
    exact ⟨u,PySem.W.hideAll_get _ hu (by simpa using oldC b o e)⟩
theorem Inv.unblock0 {own caps:List Str} {sc:Scope} {cl:List (Str × Addr)} {fp:List Addr} {H':Hp} {s4:Shared} {σ':St} {pins':List (Addr × Obj)} {hp:Heap} {ol:Obj} (I:Inv X pins σ H s)
    (f2:∀ b ∈ fp,FpOk X pins H b) (ehp:hp = s.heap.push ol)
    (J:Inv (blk X (own ++ caps) sc cl { s with heap:=hp } H hp.objs.size (s.heap.objs.size :: fp)) pins' σ' H' s4):Inv X pins σ H' s4:=by
  have up:∀ b o,s.heap.get? b = some o → hp.get? b = some o:=fun b o e => by rw [ehp]; exact Heap.get?_push_of_some _ e
  have neD:∀ b o,s.heap.get? b = some o → b ≠ s.heap.objs.size:=fun b o e => Nat.ne_of_lt (Heap.lt_size e)
  have nex:∀ b o,s.heap.get? b = some o → b ∉ fp → b ∉ s.heap.objs.size :: fp:=fun b o e hb z => (List.mem_cons.mp z).elim (neD b o e) hb
  have u:=J.base
  refine I.call' (ch:=fp) J.os ⟨fun b o e n hb hx => u.keep b o (up _ _ e) n hb (nex b o e hx),fun b o e n hb hx => u.slot b o (up _ _ e) n hb (nex b o e hx),fun b o e n hx => u.free b o (up _ _ e) n (nex b o e hx),fun b o e hx => u.there b o (up _ _ e) (nex b o e hx),u.tups,u.frzs,u.tbls⟩ J.hok J.bare fun b hb => ?_
  obtain ⟨_,f1,_,f3,f4,f5⟩:=f2 b hb
  exact ⟨f3,f1,f4,f5⟩
end
section
variable {X:Cx}
theorem pe_compGX {tg elt iter:Expr} {ifs:List Expr} {own caps:List Str} {κ:List Nat} {sc:Scope} {cl:List (Str × Addr)} {pos:Pos} {wi:TI} {g:TG} {tc:TT} {te:TE} {E:XK} (hst:X.stack = X.env :: X.outer) (hfr:X.env.frame = some X.env.locals) (hex:X.ex = []) (hpn:X.pn = [])
    (hxe:∀ (x:Addr) (cls:Value) (d:Option Addr) (H':Hp) (s:Shared),E cls d H' → wpAny (model X.prog X.w) X.A (leaving X.env (.ref x)) (fun _ s'' => Fly X.prog X.w X.outer X.H₀ X.s₀ x cls H' s'' ∧ DictIs x d s'') (fun _ _ => False) s → X.xe (.ref x) s) (hcalm:X.calm = true) (S:BlkSc X caps sc cl) (hκ:κ.map (fun k => X.N[k]?) = caps.map some)
    (hi:PI X tg iter wi) (hg:∀ s₀ H₀ C ex xe,PG ((blk X (own ++ caps) sc cl s₀ H₀ C ex).wish xe) tg g)
    (hc:∀ s₀ H₀ C ex xe (pins:List (Addr × Obj)) (s:Shared) (σ:St) (H:Hp) (Q:Bool → Hp → Prop),Inv ((blk X (own ++ caps) sc cl s₀ H₀ C ex).wish xe) pins σ H s → tc σ H Q →
      wpAny (model X.prog X.w) X.A (forIn ifs true fun c r => if r = true then do let ok ← isTrue c (compEnvC sc cl C X.env) (eval c (compEnvC sc cl C X.env)); pure (ForInStep.yield ok) else pure (ForInStep.yield r)) (TP ((blk X (own ++ caps) sc cl s₀ H₀ C ex).wish xe) pins σ Q) (fun _ _ => False) s)
    (he:∀ s₀ H₀ C ex xe,Passes (CX1 X.prog X.w) ((blk X (own ++ caps) sc cl s₀ H₀ C ex).wish xe) E → PE ((blk X (own ++ caps) sc cl s₀ H₀ C ex).wish xe) elt te)
    (hs:∀ x,foldedSetIterable iter X.env x = pure x:=by intro _; rfl):PE X (.ListComp elt [⟨tg,iter,ifs,0⟩] sc pos) (tComp own.length κ wi g tc te):=by
  intro pins s σ H Q I h
  rw [eval_ListComp]
  refine wpAny_comprehension_free (use:=none) rfl hs S.clos S.kind S.names (thn (hi pins s σ H _ I h) fun v s1 h1 => thn h1 fun itv s2 h2 => ?_)
  obtain ⟨it,fp,tn,J,H2,e,I2,T,st2,f2,W,⟨m0,w0⟩,turn⟩:=h2
  subst e
  have hfp:∀ b ∈ fp,b < s2.heap.objs.size:=fun b hb => by
    obtain ⟨o,e,_⟩:=T.obj _ _ st2 b hb
    exact Heap.lt_size e
  refine wpAny_newObj_type (wpAny_newFunctionEnv S.nocell (fun y hy => nomatch hy) (fun h₁ hns hsb => ?_) S.kind)
  generalize ehp:s2.heap.push { cls:=.type "list",dict:=none,data:=.seq ([]:List Value).toArray } = hp at hns hsb ⊢
  have hsz:hp.objs.size = s2.heap.objs.size + 1:=by rw [← ehp,Heap.size_push]
  have hDC:s2.heap.objs.size ≠ hp.objs.size:=by rw [hsz]; exact Nat.ne_of_lt (Nat.lt_succ_self _)
  have old:∀ b o,hp.get? b = some o → h₁.get? b = some o:=fun b o e => (hsb.2 b (Nat.ne_of_lt (Heap.lt_size e))).trans (Heap.get?_push_of_some _ e)
  have eD:h₁.get? s2.heap.objs.size = some { cls:=.type "list",data:=.seq ([]:List Value).toArray }:=old _ _ (by rw [← ehp]; exact Heap.get?_push_size _ rfl)
  obtain ⟨xe0,hx0⟩:∃ xe0,xe0 = notedBy (model X.prog X.w) X.A (compEnvC sc cl hp.objs.size X.env) (fun x s' => compPost (model X.prog X.w) X.A X.xe none (EP X pins σ Q) (.ref s2.heap.objs.size) hp.objs.size (.error x) s'):=⟨_,rfl⟩
  have I0:=(Inv.block (own:=own) (h₁:=h₁) (tk:=s2.toks + ([]:List (Str × Value)).length) S hκ I2 f2 hfp ehp.symm hns old).wish xe0
  have stkD:s2.heap.objs.size ∉ frs X.stack:=fun z => (List.mem_cons.mp (I2.stkSub _ z)).elim (Nat.ne_of_gt I2.lt) (I2.nofs (Nat.le_refl _))
  have cellD:∀ x c,cl.lookup x = some c → c ≠ s2.heap.objs.size:=fun x c q => by
    obtain ⟨v,z⟩:=I2.cell x c (S.subc q)
    exact Nat.ne_of_lt z.lt
  have pinD:∀ p ∈ X.pn ++ pins,p.1 ≠ s2.heap.objs.size:=fun p hp => Nat.ne_of_lt (Heap.lt_size (I2.pin p hp).1)
  have stkF:∀ b ∈ fp,b ∉ frs X.stack:=fun b hb z => (List.mem_cons.mp (I2.stkSub _ z)).elim (f2 b hb).2.1 (f2 b hb).2.2.1
  have hps:Passes (CX1 X.prog X.w) ((blk X (own ++ caps) sc cl { s2 with heap:=hp } H2 hp.objs.size (s2.heap.objs.size :: fp)).wish xe0) E:=by
    intro pins' σ' H1 s1 e s' J z
    obtain ⟨x,cls,d,H',rfl,fl,hdi,hE⟩:=z
    obtain ⟨m,hm,_⟩:=J.loc
    have hsz0:X.s₀.heap.objs.size ≤ s2.heap.objs.size:=I2.sz
    rw [hx0]
    exact Fly.comp (C:=hp.objs.size) (cenv0:=compEnvC sc cl hp.objs.size X.env) (Inv.unblock0 I2 f2 ehp.symm J.unwish) hst hfr hex fl hdi (by
      cases q:X.s₀.heap.get? hp.objs.size with
      | none => rfl
      | some o => exact absurd (Nat.lt_of_lt_of_le (Heap.lt_size q) hsz0) (by rw [hsz]; exact Nat.not_lt.mpr (Nat.le_succ _))) hm J.free (fun z => by
        have:=(List.mem_cons.mp (I2.stkSub _ z)).elim (fun e => Nat.ne_of_gt (Nat.lt_trans I2.lt (by rw [hsz]; exact Nat.lt_succ_self _)) e) (I2.nofs (by rw [hsz]; exact Nat.le_succ _))
        exact this) rfl (fun s h => hxe x cls d H' s hE h)
  have loop:codeAny (model X.prog X.w) X.A (.compLoop (.ListComp elt [⟨tg,iter,ifs,0⟩] sc pos) 0 (.ref it) (.ref s2.heap.objs.size) (compEnvC sc cl hp.objs.size X.env))
      (compPost (model X.prog X.w) X.A X.xe none (EP X pins σ Q) (.ref s2.heap.objs.size) hp.objs.size) { s2 with heap:=h₁,toks:=s2.toks + ([]:List (Str × Value)).length }:=by
    refine codeAny_loop rfl (fun n s' => ∃ (i:Nat) (ys:List V) (its:List Value) (cap:Nat) (H':Hp),Inv ((blk X (own ++ caps) sc cl { s2 with heap:=hp } H2 hp.objs.size (s2.heap.objs.size :: fp)).wish xe0) pins (blkSt own.length κ σ) H' s' ∧ tn i s'.heap ∧ (∀ b ∈ fp,H' b = none) ∧
      s'.heap.get? s2.heap.objs.size = some { cls:=.type "list",data:=.seq its.toArray cap } ∧ H' s2.heap.objs.size = none ∧ Vals ys its ∧ ys.length ≤ sizeLine ∧ W i n ys H') (fun n s3 hI => ?_) m0
      ⟨0,[],[],0,H2,I0,T.keep _ _ _ st2 fun b hb o e => old _ _ (by rw [← ehp]; exact Heap.get?_push_of_some _ e),fun b hb => (f2 b hb).1,eD,I2.hok.fresh (Nat.le_refl _),.nil,Nat.zero_le _,w0⟩
    obtain ⟨i,ys,its,cap,H3,I3,st3,fr3,eD3,nD3,rv,hz,w3⟩:=hI
    show wpAny _ X.A ((compTurn (.ListComp elt [⟨tg,iter,ifs,0⟩] sc pos) 0 (.ref it) (.ref s2.heap.objs.size) (compEnvC sc cl hp.objs.size X.env)).onRaise fun x => do noteFrame x (compEnvC sc cl hp.objs.size X.env); theTreesLotGoes x) _ _ s3
    refine wpAny_noted ?_
    rw [compTurn_list]
    have I3':Inv ((blk X (own ++ caps) sc cl { s2 with heap:=hp } H2 hp.objs.size (s2.heap.objs.size :: fp)).wish xe0) (pins ++ [(s2.heap.objs.size,{ cls:=.type "list",data:=.seq its.toArray cap })]) (blkSt own.length κ σ) H3 s3:=by
      refine I3.pins_of fun p hp => (List.mem_append.mp hp).elim (fun z => I3.pin p (List.mem_append_right _ z)) fun z => ?_
      obtain rfl:=List.mem_singleton.mp z
      exact ⟨eD3,nD3,hDC,stkD,fun v q => by cases q⟩
    have fpk:∀ {H':Hp},(∀ b ∈ fp,H' b = none) → ∀ b ∈ fp,FpOk ((blk X (own ++ caps) sc cl { s2 with heap:=hp } H2 hp.objs.size (s2.heap.objs.size :: fp)).wish xe0) (pins ++ [(s2.heap.objs.size,{ cls:=.type "list",data:=.seq its.toArray cap })]) H' b:=fun {H'} hn b hb =>
      ⟨hn b hb,by show b ≠ hp.objs.size; rw [hsz]; exact Nat.ne_of_lt (Nat.lt_succ_of_lt (hfp b hb)),stkF b hb,.inl (List.mem_cons_of_mem _ hb),fun x c q => (f2 b hb).2.2.2.2.1 x c (S.subc q),fun p hp => by
        rw [← List.append_assoc] at hp
        rcases List.mem_append.mp hp with z | z
        · exact (f2 b hb).2.2.2.2.2 p z
        · obtain rfl:=List.mem_singleton.mp z
          exact Nat.ne_of_gt (hfp b hb)⟩
    rcases turn i n ys H3 w3 with ⟨stop,fin⟩ | ⟨go,hlt,step⟩
    · refine wpAny_bind (wpAny_standAt (wpAny_bind (thn (T.done ((blk X (own ++ caps) sc cl { s2 with heap:=hp } H2 hp.objs.size (s2.heap.objs.size :: fp)).wish xe0) rfl rfl rfl hcalm i _ s3 _ H3 _ I3' (fpk fr3) st3 stop) fun r s4 ⟨hr,I4⟩ => ?_)))
      subst hr
      refine wpAny_pure ?_
      obtain ⟨m,hm,_⟩:=I4.loc
      refine ⟨m,hm,fun h' sb => ?_⟩
      have eD4:=(I4.pin (s2.heap.objs.size,{ cls:=.type "list",data:=.seq its.toArray cap }) (List.mem_append_right _ (List.mem_append_right _ (List.mem_singleton.mpr rfl)))).1
      exact ⟨.ref s2.heap.objs.size,_,Inv.unblock I2 f2 ehp.symm I4.unwish eD4 nD3 rv hz sb,rfl,fin _ nD3⟩
    · refine wpAny_bind (wpAny_standAt (wpAny_bind (thn (T.item ((blk X (own ++ caps) sc cl { s2 with heap:=hp } H2 hp.objs.size (s2.heap.objs.size :: fp)).wish xe0) rfl rfl rfl hcalm i _ s3 _ H3 _ I3' (fpk fr3) st3 go) fun r s4 ⟨u,hr,h4⟩ => ?_)))
      subst hr
      refine wpAny_bind (thn h4 fun _ s5 ⟨x,H5,I5,r5,y5,st5,fr5⟩ => ?_)
      have I5':=I5.pinned (fpk fr5) (T.obj _ _ st5)
      refine wpAny_bind (wpAny_mono (hg _ _ _ _ _ _ s5 _ H5 x u _ I5' r5 (step x H5 y5)) (fun _ s6 ⟨σ6,H6,I6,eσ,q6⟩ => ?_) fun _ _ z => hx0 ▸ z)
      refine wpAny_bind (wpAny_mono (hc _ _ _ _ _ _ s6 σ6 H6 _ I6 q6) (fun ok s7 ⟨H7,I7,q7⟩ => ?_) fun _ _ z => z.elim)
      have back:∀ {s8:Shared} {H8:Hp},Inv ((blk X (own ++ caps) sc cl { s2 with heap:=hp } H2 hp.objs.size (s2.heap.objs.size :: fp)).wish xe0) ((pins ++ [(s2.heap.objs.size,{ cls:=.type "list",data:=.seq its.toArray cap })]) ++ pinsAt fp s5.heap) σ6 H8 s8 →
          Inv ((blk X (own ++ caps) sc cl { s2 with heap:=hp } H2 hp.objs.size (s2.heap.objs.size :: fp)).wish xe0) pins (blkSt own.length κ σ) H8 s8 ∧ tn (i + 1) s8.heap ∧ (∀ b ∈ fp,H8 b = none) ∧ s8.heap.get? s2.heap.objs.size = some { cls:=.type "list",data:=.seq its.toArray cap } ∧ H8 s2.heap.objs.size = none:=by
        intro s8 H8 I8
        have pk:∀ b ∈ fp,∀ o,s5.heap.get? b = some o → s8.heap.get? b = some o ∧ H8 b = none:=fun b hb o e => by
          have z:=I8.pin (b,o) (List.mem_append_right _ (List.mem_append_right _ (mem_pinsAt hb e)))
          exact ⟨z.1,z.2.1⟩
        have zD:=I8.pin (s2.heap.objs.size,{ cls:=.type "list",data:=.seq its.toArray cap }) (List.mem_append_right _ (List.mem_append_left _ (List.mem_append_right _ (List.mem_singleton.mpr rfl))))
        refine ⟨(I8.pins_of fun p hp => I8.pin p (List.mem_append_right _ (List.mem_append_left _ (List.mem_append_left _ hp)))).weak ?_ fun j v e => ?_,T.keep _ _ _ st5 fun b hb o e => (pk b hb o e).1,fun b hb => ?_,zD.1,zD.2.1⟩
        · exact I3.len.trans I8.len.symm
        · have hge:own.length ≤ j:=by
            refine Nat.le_of_not_lt fun q => ?_
            unfold blkSt at e
            rw [List.getElem?_append_left (by rw [List.length_replicate]; exact q),List.getElem?_replicate,if_pos q] at e
            cases e
          have z:=congrArg (fun l => l[j - own.length]?) eσ
          simp only [List.getElem?_drop] at z
          rw [show own.length + (j - own.length) = j by omega] at z
          rw [z]
          exact e
        · obtain ⟨o,e,_⟩:=T.obj _ _ st5 b hb
          exact (pk b hb o e).2
      cases ok with
      | false =>
        obtain ⟨m',hm,w7⟩:=(if_neg Bool.false_ne_true) ▸ q7
        obtain ⟨I8,st8,fr8,e8,n8⟩:=back I7
        exact wpAny_pure ⟨rfl,m',hm,i + 1,ys,its,cap,H7,I8,st8,fr8,e8,n8,rv,hz,w7⟩
      | true =>
        have q7':=(if_pos rfl) ▸ q7
        refine wpAny_bind (wpAny_bind (wpAny_mono (he _ _ _ _ _ hps _ s7 σ6 H7 _ I7 q7') (fun y s8 ⟨v8,H8,I8,r8,m',hm,w8⟩ => ?_) fun _ _ z => hx0 ▸ z))
        obtain ⟨I9,st9,fr9,e9,n9⟩:=back I8
        have hl:=rv.length
        refine wpAny_bind (wpAny_list_append_plain (items:=its.toArray) ⟨cap,e9⟩ (fun h' hl' sb => ?_) (by rw [List.size_toArray,← hl]; exact hz))
        obtain ⟨cap',e'⟩:=hl'
        refine wpAny_pure (wpAny_pure ⟨rfl,m',hm,i + 1,ys ++ [v8],its ++ [y],cap',H8,?_,?_,fr9,?_,n9,Vals.append rv (.cons r8 .nil),?_,w8⟩)
        · exact I9.turned (t':=s8.toks) (fun b o hb e => (sb.2 b hb).trans e) n9 hDC (.inl List.mem_cons_self) cellD pinD
        · exact T.keep _ _ _ st9 fun b hb o e => (sb.2 b (Nat.ne_of_lt (hfp b hb))).trans e
        · rw [e']
          congr 3
          simp
        · rw [List.length_append]
          exact hlt
  exact codeAny_compStart_list loop (T.self _ 0 _ _ _ (T.keep _ _ _ st2 fun b hb o e => old _ _ (by rw [← ehp]; exact Heap.get?_push_of_some _ e)) loop)
end
section
variable {P:Program} {w:World} {K:PySem.W.Frag} {mg:Str → Option Value} {base:Heap} {N:List Str} {qual:Str} {scope:Scope} {f:Addr} {cd:Value} {A:Around} {outer:List Env} {s:Shared} {H:Hp} {E:XK}
theorem pe_compX {tg elt iter:Expr} {own caps:List Str} {κ:List Nat} {sc:Scope} {cl:List (Str × Addr)} {pos:Pos} {wi:TI} {g:TG} {te:TE} (S:BlkSc (cxOf (CX1 P w) P w K mg base N qual scope f cd A outer s H E) caps sc cl) (hκ:κ.map (fun k => N[k]?) = caps.map some)
    (hi:PI (cxOf (CX1 P w) P w K mg base N qual scope f cd A outer s H E) tg iter wi) (hg:∀ s₀ H₀ C ex xe,PG ((blk (cxOf (CX1 P w) P w K mg base N qual scope f cd A outer s H E) (own ++ caps) sc cl s₀ H₀ C ex).wish xe) tg g)
    (he:∀ s₀ H₀ C ex xe,Passes (CX1 P w) ((blk (cxOf (CX1 P w) P w K mg base N qual scope f cd A outer s H E) (own ++ caps) sc cl s₀ H₀ C ex).wish xe) E → PE ((blk (cxOf (CX1 P w) P w K mg base N qual scope f cd A outer s H E) (own ++ caps) sc cl s₀ H₀ C ex).wish xe) elt te)
    (hs:∀ x,foldedSetIterable iter (envOfC qual scope s.heap.objs.size f cd) x = pure x:=by intro _; rfl):PE (cxOf (CX1 P w) P w K mg base N qual scope f cd A outer s H E) (.ListComp elt [⟨tg,iter,[],0⟩] sc pos) (tComp own.length κ wi g tYes te) :=
  pe_compGX (X:=cxOf (CX1 P w) P w K mg base N qual scope f cd A outer s H E) (E:=E) rfl rfl rfl rfl (fun x cls d H' s hE h => wpAny_mono h (fun _ s'' z => ⟨x,cls,d,H',rfl,z.1,z.2,hE⟩) (fun _ _ z => z.elim)) rfl S hκ hi hg (fun s₀ H₀ C ex xe pins s σ H Q I h => wpAny_tests_nil ⟨H,I,h⟩) he hs
end
end L2
namespace L2
open PySem PySem.Spec PyProof.Rows
theorem extend_lt (l:Addr) (items:Array Value) (n:Nat) (b:Addr) (dd:Option Addr) (sl:Array (Option Value)) (items2:Array Value) (n2:Nat) (hs0:¬(!items.isEmpty && Builtin.List.listTooLong (items.size + items2.size)) = true) (hs1:items.size ≤ sizeLine) (hs2:items.size + items2.size ≤ sizeLine + 1) :
    Meets (Builtin.«list.extend» ⟨[.ref l,.ref b],[]⟩) (fun _ R s => s.heap.get? l = some { cls:=.type "list",dict:=none,data:=.seq items n,slots:=#[] } ∧ s.heap.get? b = some { cls:=.type "tuple",dict:=dd,data:=.seq items2 n2,slots:=sl } ∧ R (.ok (.ret Value.none)) { s with heap:=s.heap.update l (Obj.mapSeq fun x => x ++ items2),toks:=s.toks }) :=
  .of_wp fun prog w A R s h => by
    obtain ⟨hp,g,d,tk,os⟩:=s
    obtain ⟨hl,hb,h⟩:=h
    have f1:=AutoSeq1.idx_int
    have f2:=AutoSeq1.sub_tuple_tuple
    have f3:=AutoSeq1.sub_list_list
    have f4:=AutoSeq1.sub_tuple_list
    have f5:=AutoSeq1.sub_list_tuple
    have hz:(items ++ items2).size ≤ sizeLine + 1:=by rw [Array.size_append]; exact hs2
    wp_walk using (wpAny_updateSeq hl rfl (hz:=hs1) (_hz':=hz)),AutoSeq1.wpAny_loadPart' hl,AutoSeq1.wpAny_loadPart' hb
    exact ⟨_,rfl,h⟩
section
variable {X:Cx}
noncomputable def rExtendT (K:PySem.W.Frag):V → List V → Hp → VK → Prop:=fun x vs H Q => ∃ l b xs zs,x = .ref l ∧ vs = [.ref b] ∧ H l = some (.lst xs) ∧ SqT K H b zs ∧ xs.length + zs.length ≤ sizeLine ∧ Q .non (upd H l (.lst (xs ++ zs)))
theorem mt_extendT:MtM X "list.extend" (rExtendT X.K):=by
  intro pins s σ H x vs v us Q I rx rv h
  obtain ⟨l,b,xs,zs,rfl,rfl,hH,hB,hz,q⟩:=h
  cases rx
  obtain ⟨u,rfl,ru⟩:=rv.one
  cases ru
  obtain ⟨z,its,n,r,hl,e⟩:=I.lstM hH
  obtain ⟨its2,r2,⟨⟨cl,dc,da,sl⟩,e2,c2,n2,d2⟩,z2⟩:=I.tuple hB
  simp only at c2 d2
  subst c2 d2
  have hl2:=r2.length
  have hsz:its.toArray.size + its2.toArray.size ≤ sizeLine:=by rw [List.size_toArray,List.size_toArray]; omega
  have hlong:¬ (!its.toArray.isEmpty && Builtin.List.listTooLong (its.toArray.size + its2.toArray.size)) = true:=by
    rw [notLongL hsz,Bool.and_false]
    exact Bool.false_ne_true
  refine call_meets F.slot_list_extend ⟨_,e,rfl⟩ F.entry_list_extend (F.args_list_extend_2 _ _)
    (extend_lt l its.toArray n b dc sl its2.toArray n2 hlong (by rw [List.size_toArray]; omega) (by omega)) ⟨e,e2,?_⟩
  refine ⟨.non,_,I.lset (its':=its ++ its2) hH e (by simp) (r.append r2) ?_,rfl,q⟩
  rw [List.length_append]
  omega
end
noncomputable def putsK (acc:List (Key × V)) (ps:List (Key × V)):List (Key × V):=ps.foldl (fun r p => putK r p.1 p.2) acc
section
variable {X:Cx} {pins:List (Addr × Obj)} {σ:St}
theorem uplK_run {A:Around} (hh:A.handled = none) (hu:A.units + 2 < cLine) {l it d:Addr} {R:Result → Shared → Prop} {as:List Addr} {ps:List (Key × V)} {H:Hp} (hd:H d = none) (hdi:d ≠ it) (hl:H l = some (.lst (as.map V.ref)))
    (hps:Paired (fun (p:Key × V) (a:Addr) => H a = some (.tup [kV p.1,p.2])) ps as) (fo:FpOk X pins H it):∀ (n i:Nat) (s:Shared) (acc:List (Key × V)) (t:Tok),as.length - i = n → i ≤ as.length →
      Inv X pins σ (upd H d (.dK acc)) s → s.heap.IsListIter it l i → acc.length + n < sizeLine → (∀ s',Inv X pins σ (upd H d (.dK (putsK acc (ps.drop i)))) s' → R (.ok (.ret .none)) s') →
      codeAny (model X.prog X.w) A (.builtin "dict.update.loop" ⟨[.ref d,.ref it,.int i t,.none],[]⟩) R s:=by
  have hlen:ps.length = as.length:=hps.length
  have hnd:∀ {b:Addr} {o:HO},H b = some o → b ≠ d:=fun e z => by rw [z,hd] at e; cases e
  obtain ⟨f0,f1,f2,f3,f4,f5⟩:=fo
  intro n
  induction n with
  | zero =>
    intro i s acc t hn hi I st hz hR
    have hl':upd H d (.dK acc) l = some (.lst (as.map V.ref)):=by rw [upd_ne (hnd hl)]; exact hl
    obtain ⟨its,rv,p,_⟩:=I.list (a:=l) (xs:=as.map V.ref) (.inl (.inl hl'))
    have hlv:=rv.length
    rw [List.length_map] at hlv
    refine codeAny_builtin upl_entry ?_
    rw [Around.under_plainId upl_plain]
    refine (show wpAny _ A.in1 (pyNext (.ref it) >>= _) _ _ s from wpAny_bind (wpAny_pyNext_list_end hh st p.isList (by simp; omega) fun h' eb => ?_))
    have I1:=I.turned (t':=s.toks) (h':=h') (fun b o hb e => eb b o hb e) (by rw [upd_ne (Ne.symm hdi)]; exact f0) f1 f3 f4 f5
    have e:ps.drop i = []:=List.drop_eq_nil_of_le (by omega)
    rw [e] at hR
    exact (show wpAny _ _ (Builtin.Dict.addKeywords d [] >>= _) _ _ _ from wpAny_bind (wpAny_pure (wpAny_pure (hR _ I1))))
  | succ n ih =>
    intro i s acc t hn hi I st hz hR
    have hl':upd H d (.dK acc) l = some (.lst (as.map V.ref)):=by rw [upd_ne (hnd hl)]; exact hl
    obtain ⟨its,rv,p,_⟩:=I.list (a:=l) (xs:=as.map V.ref) (.inl (.inl hl'))
    have hia:i < as.length:=by omega
    have hip:i < ps.length:=by omega
    obtain ⟨a,ha,hak⟩:=pair_get hps (List.getElem?_eq_getElem hip)
    obtain ⟨u,hu',ru⟩:=rv.get (show (as.map V.ref)[i]? = some (V.ref a) by rw [List.getElem?_map,ha]; rfl)
    cases ru
    refine codeAny_builtin upl_entry ?_
    rw [Around.under_plainId upl_plain]
    refine (show wpAny _ A.in1 (pyNext (.ref it) >>= _) _ _ s from wpAny_bind (wpAny_pyNext_list_item st p.isList (x:=.ref a) (by simpa using hu') fun h' st' sb => ?_))
    have I1:=I.turned (t':=s.toks) (h':=h') (fun b o hb e => (sb.2 b hb).trans e) (by rw [upd_ne (Ne.symm hdi)]; exact f0) f1 f3 f4 f5
    obtain ⟨kvs2,rkv,⟨ob,eo,co,nn,od⟩,_⟩:=I1.tuple (a:=a) (xs:=[kV ps[i].1,ps[i].2]) (.inl (.inl (by rw [upd_ne (hnd hak)]; exact hak)))
    obtain ⟨u1,u2,ekv,r1,r2⟩:=vals2 rkv
    subst ekv
    refine (show wpAny _ A.in1 (holding [.ref a] _ >>= _) _ _ _ from wpAny_bind (wpAny_holding ?_))
    refine wpAny_bind (wpAny_tryCatch ?_)
    unfold Builtin.Dict.pairItems
    refine wpAny_bind (wpAny_typeOf (T:="tuple") ⟨ob,eo,co⟩ ?_)
    rw [if_pos (by decide)]
    refine wpAny_bind (wpAny_seqItems eo od (wpAny_pure ?_))
    refine (show wpAny _ A.in1 (holding [u1,u2] (dictSet d u1 u2)) _ _ _ from wpAny_holding ?_)
    obtain ⟨z,hds,xs,rel,dd⟩:=dk_of I1.hok (upd_same (H:=H) (a:=d) (o:=.dK acc))
    have hz2:xs.length ≤ sizeLine:=by rw [← rel.length]; exact z
    have hlp:(putK acc ps[i].1 ps[i].2).length ≤ acc.length + 1:=length_putK acc _ _
    refine wpAny_dictSet_pairs (hsz:=hz2) (kV_is r1) dd fun h2 dd' hs => ?_
    have I2:=d_write (t':=s.toks + 1) (ob:=.dK (putK acc ps[i].1 ps[i].2)) I1 (by rw [upd_same]; exact True.intro) hs (let ⟨q,_,_,hq,_⟩:=dd'; ⟨q,hq⟩) (dk_new (by omega) hds (rel.put ps[i].1 r2) dd')
    rw [upd_upd] at I2
    refine wpAny_pure ⟨plainId_quiet upl_plain _,ih (i + 1) _ (putK acc ps[i].1 ps[i].2) 0 (by omega) (by omega) I2 (st'.at fun o e => (hs.2 it (Ne.symm hdi)).trans e) (by omega) fun s' I' => hR s' ?_⟩
    rw [List.drop_eq_getElem_cons hip]
    exact I'
theorem call_dict_pairsK (hc:X.calm = true) (hu:X.A.units + 8 < cLine):CallR X (.type "dict") (fun xs H Q => ∃ l as ps,xs = [.ref l] ∧ H l = some (.lst (as.map V.ref)) ∧ Paired (fun (p:Key × V) (a:Addr) => H a = some (.tup [kV p.1,p.2])) ps as ∧ ps.length < sizeLine ∧
    ∀ d,H d = none → Q (.ref d) (upd H d (.dK (putsK [] ps)))):=by
  intro pins s σ H xs us Q I r h
  obtain ⟨l,as,ps,rfl,hl,hps,hz,q⟩:=h
  obtain ⟨u,rfl,ru⟩:=vals1 r
  cases ru
  have hlen:ps.length = as.length:=hps.length
  refine callType_codes (Q₁:=fun obj s₁ => obj = .ref s.heap.objs.size ∧ s₁ = { s with heap:=s.heap.push { cls:=.type "dict",data:=.dict #[] } }) F.kt_called_dict (F.kt_typeCall_dict_1 _) F.entry_dict_init (kt_code_dict_new _ ⟨rfl,rfl⟩) ?_
  rintro obj s₁ ⟨rfl,rfl⟩
  have hdn:H s.heap.objs.size = none:=I.hok.fresh (Nat.le_refl _)
  have gd:(s.heap.push { cls:=.type "dict",data:=.dict #[] }).get? s.heap.objs.size = some { cls:=.type "dict",data:=.dict #[] }:=Heap.get?_push_size _ rfl
  have I1:Inv X pins σ (upd H s.heap.objs.size (.dK [])) { s with heap:=s.heap.push { cls:=.type "dict",data:=.dict #[] } }:=I.laid (a:=s.heap.objs.size) (o:=.dK []) (t':=s.toks) (fun _ _ q => Heap.get?_push_of_some _ q) (Nat.le_refl _) (dk_empty s.heap I.big)
  have hld:l ≠ s.heap.objs.size:=fun z => by rw [z,hdn] at hl; cases hl
  obtain ⟨its,rv,p,_⟩:=I1.list (a:=l) (xs:=as.map V.ref) (.inl (.inl (by rw [upd_ne hld]; exact hl)))
  refine ⟨⟨_,gd,rfl⟩,F.args_dict_init_2 _ _,?_⟩
  unfold Builtin.«dict.__init__»
  refine wpAny_bind ?_
  unfold Builtin.Dict.selfAndRest
  refine wpAny_bind (wpAny_notOrdered_dict (show Shared.TypeIs _ (.ref s.heap.objs.size) "dict" from ⟨_,gd,rfl⟩) ?_)
  refine (show wpAny _ _ (pure (s.heap.objs.size,[Value.ref l])) _ _ _ from wpAny_pure ?_)
  show wpAny _ _ (Builtin.Dict.updateFrom "dict.__init__" s.heap.objs.size (.ref l) [] .none) _ _ _
  unfold Builtin.Dict.updateFrom
  refine wpAny_bind (wpAny_typeOf p.isList.typeIs ?_)
  rw [if_pos (by decide)]
  obtain ⟨⟨cl,dc,da,sl⟩,n0,gl,e1,e2,e3⟩:=id p
  simp only at e1 e2 e3
  subst e1 e2 e3
  refine wpAny_bind (listKeys_none gl (I.ok.hd hc) fun h' tk hk => ?_)
  rw [if_pos (by decide)]
  have I2:=I1.kept (t':=tk) (h':=h') fun b o e => hk b o e
  have le:s.heap.objs.size < h'.objs.size:=Heap.lt_size (hk _ _ gd)
  refine wpAny_bind (wpAny_rule ?_)
  refine wpAny_bind (wpAny_pyIter_list (p.isList.at fun o e => hk l o e) ?_)
  have I3:=I2.kept (t':=tk) (h':=h'.push { cls:=.type "list_iterator",data:=.fields #[.ref l,.int 0 0] }) fun b o e => Heap.get?_push_of_some _ e
  have fo:FpOk X pins H h'.objs.size:=I2.fpOk (Nat.le_refl _) (I.hok.fresh (Nat.le_of_lt le))
  refine wpAny_pure ⟨plainId_quiet upl_plain _,uplK_run (X:=X) (pins:=pins) (σ:=σ) (A:=X.A.in1) (I.ok.hd hc) (by show X.A.units + 1 + 2 < cLine; omega) hdn (Nat.ne_of_lt le) hl hps fo as.length 0 _ [] 0 (Nat.sub_zero _) (Nat.zero_le _) I3 ⟨_,Heap.get?_push_size _ rfl,rfl,rfl⟩ (by rw [List.length_nil]; omega) fun s' I' => ⟨rfl,.ref s.heap.objs.size,_,I',rfl,?_⟩⟩
  rw [List.drop_zero]
  exact q _ hdn
end
end L2
namespace HT
open PySem PySem.Spec PyProof.Rows
section
variable {prog:Program} {w:World} {A:Around} {E:Value → Shared → Prop} {s:Shared}
theorem getItem_tuple_all {t sl:Addr} {items:Array Value} {vl vu:Value} {lo hi:Option Int} {Q:Value → Shared → Prop} (ht:IsTup s.heap t items) (hs:s.heap.IsSliceOf sl vl vu .none) (pl:IsPart vl lo) (pu:IsPart vu hi)
    (hw:sIx items.size 0 lo = 0 ∧ sIx items.size items.size hi = items.size) (h:Q (.ref t) s):wpAny (model prog w) A (getItem (.ref t) (.ref sl)) Q E s:=by
  obtain ⟨os,hos,hcs,hds⟩:=id hs
  have hTs:s.TypeIs (.ref sl) "slice":=⟨os,hos,hcs⟩
  unfold getItem
  try with_reducible refine wpAny_holding ?_
  first | refine wpAny_bind (wpAny_pure ?_) | skip
  refine wpAny_bind (wpAny_sequenceKey ht.typeIs (by decide) ?_)
  refine wpAny_bind (wpAny_callSpecial?_slot (name:=Str.ofString "__getitem__") ht.typeIs PyProof.Rows.slot_tuple_getitem
    (wpAny_call_entry PyProof.Rows.slot_tuple_getitem ht.typeIs entry_tuple_getitem ?_ (args_tuple_getitem _ _)))
  show wpAny _ _ (Builtin.Tuple.tupleItemsOf (.ref t) >>= _) _ _ s
  refine wpAny_bind (tupleItemsOf_ ht ?_)
  refine wpAny_bind (wpAny_typeOf hTs ?_)
  rw [if_pos (by decide)]
  refine wpAny_bind (sliceApplied_gen hs pl pu ?_)
  have hyes:(((sIx items.size 0 lo:Nat):Int) == 0 && (1:Int) == 1 && (sIx items.size items.size hi - sIx items.size 0 lo) == items.size) = true:=by
    rw [hw.1,hw.2]
    simp
  show wpAny _ _ (if (((sIx items.size 0 lo:Nat):Int) == 0 && (1:Int) == 1 && (sIx items.size items.size hi - sIx items.size 0 lo) == items.size) = true then _ else _) _ _ s
  rw [if_pos hyes]
  refine wpAny_bind ?_
  unfold Builtin.Tuple.tupleIsExact
  refine wpAny_bind (wpAny_typeOf ht.typeIs (wpAny_pure ?_))
  rw [if_pos (by decide)]
  refine wpAny_bind (wpAny_rule ?_)
  exact wpAny_pure ⟨_,rfl,wpAny_pure h⟩
end
end HT
namespace L2
open PySem PySem.Spec PyProof.Rows
section
variable {X:Cx}
theorem call_isiTup:CallR X (.builtin "isinstance") (fun xs H Q => ∃ a ys,xs = [.ref a,.ty "tuple"] ∧ SqT X.K H a ys ∧ Q (.bl true) H):=by
  intro pins s σ H xs us Q I rv h
  obtain ⟨a,ys,rfl,hq,q⟩:=h
  obtain ⟨u,v,rfl,r1,r2⟩:=rv.two
  cases r2
  cases (show u = Value.ref a from r1)
  obtain ⟨its,_,⟨o,h1,h2,_⟩,_⟩:=I.tuple hq
  exact PySem.W.kia_one (t:=.type "tuple") (b:=true) PySem.W.kitx_tuple I.kIn ⟨o,h1,h2⟩ rfl (fun z => nomatch z) fun tk => ⟨.bl true,H,I.tok _,rfl,q⟩
theorem call_isiTA:CallR X (.builtin "isinstance") (fun xs H Q => ∃ x,xs = [x,.ty "tuple"] ∧ ((∃ z,x = .str z ∧ Q (.bl false) H) ∨ (∃ i,x = .int i ∧ Q (.bl false) H) ∨ ∃ a ys,x = .ref a ∧ SqT X.K H a ys ∧ Q (.bl true) H)):=by
  intro pins s σ H xs us Q I rv h
  obtain ⟨x,rfl,h⟩:=h
  rcases h with ⟨z,rfl,q⟩ | ⟨i,rfl,q⟩ | ⟨a,ys,rfl,hq,q⟩
  · obtain ⟨u,v,rfl,r1,r2⟩:=rv.two
    cases r2
    exact isinst_ok (t:=.type "str") (b:=false) I r1 (.str z) rfl fun tk => ⟨.bl false,H,I.tok _,rfl,q⟩
  · obtain ⟨u,v,rfl,r1,r2⟩:=rv.two
    cases r2
    exact isinst_ok (t:=.type "int") (b:=false) I r1 (.int i) rfl fun tk => ⟨.bl false,H,I.tok _,rfl,q⟩
  · exact call_isiTup pins s σ H _ us Q I rv ⟨a,ys,rfl,hq,q⟩
noncomputable def rSlTA (K:PySem.W.Frag):V → Option Int → Option Int → Hp → VK → Prop:=fun x lo hi H Q => ∃ a xs,x = .ref a ∧ SqT K H a xs ∧
  ((HT.sIx xs.length 0 lo = 0 ∧ HT.sIx xs.length xs.length hi = xs.length) → Q (.ref a) H) ∧ (¬ (HT.sIx xs.length 0 lo = 0 ∧ HT.sIx xs.length xs.length hi = xs.length) → ∀ p,H p = none → Q (.ref p) (upd H p (.tup (cutV xs lo hi))))
theorem sl_tupA:SlR X (rSlTA X.K):=by
  intro pins s σ H x v vl vu lo hi sl Q I rx hs pl pu h
  obtain ⟨a,xs,rfl,hx,q1,q2⟩:=h
  by_cases hw:HT.sIx xs.length 0 lo = 0 ∧ HT.sIx xs.length xs.length hi = xs.length
  · cases rx
    obtain ⟨its,r,ht,hz⟩:=I.tuple hx
    have hlen:its.toArray.size = xs.length:=by rw [List.size_toArray]; exact r.length.symm
    refine ⟨"tuple",_,PyProof.Rows.slot_tuple_getitem.lookup,ht.typeIs,?_⟩
    exact HT.getItem_tuple_all ht hs pl pu (by rw [hlen]; exact hw) ⟨.ref a,H,I,rfl,q1 hw⟩
  · exact sl_tup pins s σ H _ v vl vu lo hi sl Q I rx hs pl pu ⟨a,xs,rfl,hx,hw,q2 hw⟩
end
end L2
namespace L2
open PySem PySem.Spec PyProof.Rows
noncomputable def tDisp2T (tk tv tk2 tv2:TE):TE:=fun σ H Q => ∀ p,H p = none → tk σ (upd H p (.dT [])) fun x H1 => tv σ H1 fun y H2 => tk2 σ H2 fun x2 H3 => tv2 σ H3 fun y2 H4 => ∃ b ks b2 ks2,x = .ref b ∧ x2 = .ref b2 ∧ H4 p = some (.dT []) ∧ H4 b = some (.tup (ks.map kV)) ∧ H4 b2 = some (.tup (ks2.map kV)) ∧ Q (.ref p) (upd H4 p (.dT (putK (putK [] ks y) ks2 y2)))
theorem pe_disp2T {X:Cx} {pos:Pos} {k v k2 v2:Expr} {tk tv tk2 tv2:TE} (hu:X.A.units + 1 < cLine) (hk:PE X k tk) (hv:PE X v tv) (hk2:PE X k2 tk2) (hv2:PE X v2 tv2):PE X (.Dict [some k,some k2] [v,v2] pos) (tDisp2T tk tv tk2 tv2):=by
  intro pins s σ H Q I q
  have hn:=I.hok.fresh (Nat.le_refl s.heap.objs.size)
  have I1:=I.laid (a:=s.heap.objs.size) (o:=.dT []) (h':=s.heap.push { cls:=.type "dict",data:=.dict #[] }) (t':=s.toks) (fun _ _ q => Heap.get?_push_of_some _ q) (Nat.le_refl _) (dt_empty s.heap I.big)
  have h1:=q _ hn
  refine wpAny_Dict_any rfl rfl (by intro z; cases z) (by show 2 ≤ 15; decide) (pairTrees_cons_walk (thn (hk pins _ σ _ _ I1 h1) fun u s1 ⟨x,H1,I2,rx,q1⟩ => thn (hv pins s1 σ H1 _ I2 q1) fun w1 s2 ⟨y,H2,I3,ry,q2⟩ =>
    pairTrees_cons_walk (thn (hk2 pins s2 σ H2 _ I3 q2) fun u2 s3 ⟨x2,H3,I4,rx2,q3⟩ => thn (hv2 pins s3 σ H3 _ I4 q3) fun w2 s4 ⟨y2,H4,I5,ry2,b,ks,b2,ks2,ex,ex2,ea,eb,eb2,q4⟩ => pairTrees_nil_walk ?_)))
  subst ex ex2
  cases rx
  cases rx2
  obtain ⟨z,hd,xs,rel,dd⟩:=dt_of I5.hok ea
  cases rel
  have room:HeapKind.room (tupleKind (mixKind X.prog X.w)) X.A:=(show X.A.units < cLine from Nat.lt_of_succ_lt hu)
  unfold storeAll
  rw [List.forIn_cons]
  refine wpAny_bind (wpAny_bind (wpAny_dictSet_heap (hsz:=Nat.zero_le _) room (key_of I5.hok eb) dd fun h' dd' hs => wpAny_pure ?_))
  obtain ⟨o,es,ep,hq,g2,g3,g4,_,g5⟩:=dd'
  have I6:=d_write (t':=s4.toks + (tupleKind (mixKind X.prog X.w)).draws ks) (ob:=.dT (putK [] ks y)) I5 (by rw [ea]; exact True.intro) hs ⟨o,hq⟩ ⟨by have:=length_putK ([]:List (List Key × V)) ks y; exact Nat.le_trans this (by show 0 + 1 ≤ sizeLine; decide),hd,_,(KT.put (H:=H4) (kvs:=[]) (xs:=[]) .nil ks eb ry).keeps fun c ys ec => (by
    rw [upd_ne (ne_of ec ea (fun z => nomatch z))]
    exact ec),o,es,ep,hq,g2,g3,g4,g5⟩
  have np:b2 ≠ s.heap.objs.size:=ne_of eb2 ea (fun z => nomatch z)
  have eb3:upd H4 s.heap.objs.size (.dT (putK [] ks y)) b2 = some (.tup (ks2.map kV)):=by rw [upd_ne np]; exact eb2
  show wpAny _ _ (forIn [(Value.ref b2,w2)] PUnit.unit _) _ _ _
  rw [List.forIn_cons]
  obtain ⟨z2,hd2,xs2,rel2,dd2⟩:=dt_of I6.hok (upd_same (H:=H4) (a:=s.heap.objs.size) (o:=.dT (putK [] ks y)))
  have hl1:(putK ([]:List (List Key × V)) ks y).length ≤ 1:=length_putK _ _ _
  have hz2:xs2.length ≤ sizeLine:=by rw [← Paired.length rel2]; exact z2
  refine wpAny_bind (wpAny_bind (wpAny_dictSet_heap (hsz:=hz2) room (key_of I6.hok eb3) dd2 fun h2 dd3 hs2 => wpAny_pure ?_))
  show wpAny _ _ (forIn [] PUnit.unit _) _ _ _
  rw [List.forIn_nil]
  obtain ⟨o2,es2,ep2,hq2,f2,f3,f4,_,f5⟩:=dd3
  refine wpAny_pure ⟨.ref s.heap.objs.size,_,?_,rfl,q4⟩
  have hz5:(putK (putK ([]:List (List Key × V)) ks y) ks2 y2).length ≤ sizeLine:=by
    have h1:=length_putK (putK ([]:List (List Key × V)) ks y) ks2 y2
    have h2:(2:Nat) ≤ sizeLine:=by decide
    omega
  have I7:=d_write (t':=s4.toks + (tupleKind (mixKind X.prog X.w)).draws ks + (tupleKind (mixKind X.prog X.w)).draws ks2) (ob:=.dT (putK (putK [] ks y) ks2 y2)) I6 (by rw [upd_same]; exact True.intro) hs2 ⟨o2,hq2⟩ ⟨hz5,hd2,_,(rel2.put ks2 eb3 ry2).keeps fun c ys ec => (by
    rw [upd_ne (ne_of ec (upd_same (H:=H4) (a:=s.heap.objs.size) (o:=.dT (putK [] ks y))) (fun z => nomatch z))]
    exact ec),o2,es2,ep2,hq2,f2,f3,f4,f5⟩
  rw [upd_upd] at I7
  exact I7
end L2
namespace K24
open PySem L2 Kk
noncomputable def top (i:Nat):Stmt:=PySem.Challenge.pw_sealhouse_k24_faces_declared.main.body.getD i (.Pass ⟨0,0,0,0⟩)
noncomputable abbrev sWords:Stmt:=top 7
noncomputable abbrev sNames:Stmt:=top 8
noncomputable abbrev sPut:Stmt:=top 9
noncomputable abbrev sBounded:Stmt:=top 10
noncomputable abbrev sNormal:Stmt:=top 11
noncomputable abbrev sToldKind:Stmt:=top 12
noncomputable abbrev sOwn:Stmt:=top 15
noncomputable abbrev sFaceOf:Stmt:=top 16
noncomputable abbrev sCell:Stmt:=top 18
noncomputable abbrev sWord:Stmt:=top 19
noncomputable abbrev sLeaf:Stmt:=top 20
noncomputable abbrev sKindL:Stmt:=top 21
noncomputable abbrev sOut:Stmt:=top 22
noncomputable abbrev sSizeL:Stmt:=top 23
noncomputable abbrev sItem:Stmt:=top 24
noncomputable abbrev sDue:Stmt:=top 25
noncomputable abbrev sBehind:Stmt:=top 26
noncomputable abbrev sSaid:Stmt:=top 27
noncomputable abbrev sLaw:Stmt:=top 28
theorem small {n:Nat} (h:n ≤ 1000):n ≤ sizeLine:=Nat.le_of_lt (small1000 h)
theorem same_new {H:Hp} {p:Addr} (h:H p = none) (o:HO):Same H (upd H p o):=fun b u q => by rw [upd_ne (ne_of_none q h)]; exact q
noncomputable def sumW (ks:List Kd):Nat:=(ks.map Kd.words).sum
theorem words_pos (k:Kd):0 < k.words:=by
  have:=words_leaves k
  have:=leaves_pos k
  omega
theorem sumW_app (a b:List Kd):sumW (a ++ b) = sumW a + sumW b:=by
  unfold sumW
  rw [List.map_append,List.sum_append]
theorem sumW_one (k:Kd):sumW [k] = k.words:=Nat.add_zero _
theorem len_sumW:∀ ks:List Kd,ks.length ≤ sumW ks
  | [] => Nat.le_refl _
  | k :: ks => by
    have h1:=len_sumW ks
    have h2:=words_pos k
    show ks.length + 1 ≤ k.words + sumW ks
    omega
theorem snoc {K:PySem.W.Frag} {H:Hp}:∀ {us:List V} {v:V} {ks:List Kd},KdsAt K H (us ++ [v]) ks → ∃ ls k,ks = ls ++ [k] ∧ KdsAt K H us ls ∧ KdAt K H v k
  | [],v,_,.cons a .nil => ⟨[],_,rfl,.nil,a⟩
  | u :: us,v,_,.cons a b => by
    obtain ⟨ls,k,rfl,h1,h2⟩:=snoc (us:=us) b
    exact ⟨_ :: ls,k,rfl,.cons a h1,h2⟩
theorem snoc_get {us:List V} {v:V}:(us ++ [v])[(us ++ [v]).length - 1]? = some v:=by simp
theorem one {K:PySem.W.Frag} {H:Hp} {v:V} {k:Kd} (h:KdAt K H v k):KdsAt K H [v] [k]:=.cons h .nil
noncomputable def spWords (K:PySem.W.Frag):Sp:=fun vs H Q _ => ∃ (x:V) (k:Kd),vs = [x] ∧ KdAt K H x k ∧ k.words ≤ 900 ∧ ∀ H',Same H H' → Q (.int k.words) H'
section
variable {P:Program} {w:World} {K:PySem.W.Frag} {mg:Str → Option Value} {base:Heap}
theorem scWords:FnScope ["kind","words","left","here"] ["kind"] (defScope sWords):=⟨rfl,rfl,rfl,by decide +kernel,rfl,by decide +kernel,by decide +kernel⟩
theorem ok_words {f:Addr} {fd:FuncData} (F:Fun K "words_in" "words_in" sWords f fd) (ml:mg "len" = none):FnOk P w K mg base CX0 1 f fd ["kind"] (spWords K):=by
  refine F.ok scWords (fun vs H Q E h => ?_) (fun cdv A outer s H vs Q E hr h => ?_)
  · obtain ⟨x,k,rfl,_⟩:=h
    rfl
  obtain ⟨x,k,rfl,hk,h9,q⟩:=h
  refine ⟨_,pss_cons (ps_set (i:=1) scWords.nd rfl (Or.inl rfl) pe_int)
    (pss_cons (ps_set (i:=2) scWords.nd rfl (Or.inl rfl) (pe_lst (pa_cons (pv 0) pa_nil)))
    (pss_cons (ps_while PassesOwn.never (pt_cmpR op_gt (pe_callB call_len_seq rfl ml PySem.boot_len (pa_cons (pv 2) pa_nil)) pe_int (nomark _))
      (pss_cons (ps_set (i:=3) scWords.nd rfl (Or.inl rfl) (pe_bm0 PySem.F.plainAttrs_list PySem.F.slot_list_pop PySem.F.type_list_pop mt_pop (pv 2)))
      (pss_cons (ps_aug (i:=1) scWords.nd rfl (Or.inl rfl) pe_int ip_add)
      (pss_one (ps_if (pt_cmpR op_eq (pe_ix ix_tup (pv 3) pe_int (fun _ _ => rfl)) pe_str (nomark _))
        (pss_cons (ps_expr (pe_bm PySem.F.plainAttrs_list PySem.F.slot_list_append PySem.F.type_list_append mt_append (pv 2) (pa_cons (pe_ix ix_tup (pv 3) pe_int (fun _ _ => rfl)) pa_nil)))
        (pss_one (ps_expr (pe_bm PySem.F.plainAttrs_list PySem.F.slot_list_append PySem.F.type_list_append mt_append (pv 2) (pa_cons (pe_ix ix_tup (pv 3) pe_int (fun _ _ => rfl)) pa_nil))))) pss_nil)))))
    (pss_one (ps_ret (pv 1))))),?_⟩
  refine ⟨_,rfl,(by show 1 ≤ sizeLine; decide),fun l hl => ?_⟩
  have sL:∀ o,Same H (upd H l o):=same_new hl
  refine while_by (fun σ H2 => ∃ (vs:List V) (ks:List Kd) (n:Nat) (h:Option V),σ = [some x,some (.int n),some (.ref l),h] ∧ H2 = upd H l (.lst vs) ∧ KdsAt K H vs ks ∧ n + sumW ks = k.words)
    (fun σ _ => match σ with | [_,some (.int n),_,_] => k.words - n.toNat | _ => 0) ⟨[x],[k],0,none,rfl,rfl,one hk,by rw [sumW_one]; omega⟩ ?_ ?_
  · rintro σ H2 ⟨vs,ks,n,h,rfl,rfl,hv,hn⟩
    refine ⟨_,rfl,l,_,rfl,.inl (SqL.of upd_same),_,_,rfl,rfl,_,rfl,?_⟩
    refine ite2 (fun c => ?_) (fun c => ?_)
    · have c':(0:Int) < (vs.length:Int):=of_decide_eq_true c
      have hne:vs ≠ []:=fun e => by rw [e] at c'; exact absurd c' (by decide)
      obtain ⟨us,v,rfl⟩:∃ us v,vs = us ++ [v]:=⟨_,_,(List.dropLast_concat_getLast hne).symm⟩
      obtain ⟨ls,j,rfl,hu,hj⟩:=snoc hv
      rw [sumW_app,sumW_one] at hn
      have hjp:=words_pos j
      refine ⟨_,rfl,?_,l,_,v,rfl,rfl,upd_same,snoc_get,?_⟩
      · exact .inl ⟨rfl,_,SqL.of upd_same⟩
      rw [upd_upd,List.dropLast_concat]
      have hl2:=len_sumW ls
      have hul:=hu.length
      refine ⟨_,rfl,_,_,rfl,rfl,?_⟩
      have e1:((n:Int) + 1) = ((n + 1:Nat):Int):=by omega
      cases hj with
      | @num p m t =>
        refine ⟨_,rfl,_,_,_,_,rfl,rfl,(sL _).tup t,(show atI [V.str "num",.int m] 0 = some (.str "num") from rfl),rfl,_,rfl,ite2 (fun c => absurd c (by decide +kernel)) (fun _ => ?_)⟩
        have hw:(Kd.num m).words = 1:=rfl
        rw [hw] at hn
        refine ⟨⟨us,ls,n + 1,_,by rw [← e1] <;> rfl,rfl,hu,by omega⟩,?_⟩
        show k.words - ((n:Int) + 1).toNat < k.words - (n:Int).toNat
        omega
      | @name p q t h =>
        refine ⟨_,rfl,_,_,_,_,rfl,rfl,(sL _).tup h,(show atI [V.str "name",.str q,.str t] 0 = some (.str "name") from rfl),rfl,_,rfl,ite2 (fun c => absurd c (by decide +kernel)) (fun _ => ?_)⟩
        have hw:(Kd.name q t).words = 1:=rfl
        rw [hw] at hn
        refine ⟨⟨us,ls,n + 1,_,by rw [← e1] <;> rfl,rfl,hu,by omega⟩,?_⟩
        show k.words - ((n:Int) + 1).toNat < k.words - (n:Int).toNat
        omega
      | @pair p y z a b t ha hb =>
        have hw:(Kd.pair a b).words = 1 + a.words + b.words:=rfl
        rw [hw] at hn hjp
        have h1:=words_pos a
        have h2:=words_pos b
        refine ⟨_,rfl,_,_,_,_,rfl,rfl,(sL _).tup t,(show atI [V.str "pair",y,z] 0 = some (.str "pair") from rfl),rfl,_,rfl,ite2 (fun _ => ?_) (fun c => absurd (by decide +kernel) c)⟩
        refine ⟨_,rfl,.inl ⟨rfl,_,SqL.of upd_same⟩,_,rfl,_,_,_,_,rfl,rfl,(sL _).tup t,(show atI [V.str "pair",y,z] 1 = some y from rfl),l,_,_,rfl,rfl,upd_same,Nat.lt_of_lt_of_le (Nat.lt_succ_self _) (small (by omega)),?_⟩
        rw [upd_upd]
        refine ⟨_,rfl,.inl ⟨rfl,_,SqL.of upd_same⟩,_,rfl,_,_,_,_,rfl,rfl,(sL _).tup t,(show atI [V.str "pair",y,z] 2 = some z from rfl),l,_,_,rfl,rfl,upd_same,Nat.lt_of_lt_of_le (Nat.lt_succ_self _) (small (by rw [List.length_append]; show us.length + 1 + 1 ≤ 1000; omega)),?_⟩
        rw [upd_upd]
        refine ⟨⟨us ++ [y] ++ [z],ls ++ [a] ++ [b],n + 1,_,by rw [← e1] <;> rfl,rfl,(hu.append (one ha)).append (one hb),by rw [sumW_app,sumW_app,sumW_one,sumW_one]; omega⟩,?_⟩
        show k.words - ((n:Int) + 1).toNat < k.words - (n:Int).toNat
        omega
    · have c':¬ (0:Int) < (vs.length:Int):=of_decide_eq_false (Bool.eq_false_iff.mpr c)
      have hv0:vs = []:=List.length_eq_zero_iff.mp (by omega)
      subst hv0
      cases hv
      have e:n = k.words:=hn
      subst e
      exact ⟨_,rfl,q _ (sL _)⟩
  · rintro σ H2 Q1 Q2 hq ⟨v,e1,a,xs,e2,hs,i,j,e3,e4,b,e5,h⟩
    exact ⟨v,e1,a,xs,e2,hs,i,j,e3,e4,b,e5,hq _ _ h⟩
end
theorem while_rel {c:TT} {tb:TS} {D:Ends} {σ:St} {H:Hp} (W:Nat → St → Hp → Prop) (m:Nat) (h0:W m σ H)
    (hs:∀ m σ H,W m σ H → c σ H fun b H1 => if b = true then tb { D with nx:=fun σ' H' => ∃ m',m' < m ∧ W m' σ' H',ct:=fun σ' H' => ∃ m',m' < m ∧ W m' σ' H',bk:=D.nx } σ H1 else D.nx σ H1)
    (mono:∀ σ H Q Q',(∀ b H1,Q b H1 → Q' b H1) → c σ H Q → c σ H Q'):tWhile c tb D σ H:=by
  refine ⟨W,⟨m,h0⟩,fun m σ H p => mono σ H _ _ (fun b H1 q => ?_) (hs m σ H p)⟩
  cases b with
  | true => exact ⟨_,fun σ' H' z => z,q⟩
  | false => exact q
noncomputable def Kd.names:Kd → List (Str × Str)
  | .num _ => []
  | .name q t => [(q,t)]
  | .pair a b => Kd.names a ++ Kd.names b
noncomputable def addN (acc:List (Str × Str)) (n:Str × Str):List (Str × Str):=if n ∈ acc then acc else acc ++ [n]
noncomputable def firsts (acc l:List (Str × Str)):List (Str × Str):=l.foldl addN acc
noncomputable def restN (ks:List Kd):List (Str × Str):=(ks.reverse.map Kd.names).flatten
theorem restN_snoc (ls:List Kd) (j:Kd):restN (ls ++ [j]) = Kd.names j ++ restN ls:=by
  unfold restN
  rw [List.reverse_concat,List.map_cons,List.flatten_cons]
noncomputable def keyN (n:Str × Str):List Key:=[.inr n.1,.inr n.2]
theorem keyN_inj {m n:Str × Str} (h:keyN m = keyN n):m = n:=by
  cases m; cases n
  simp [keyN] at h
  exact Prod.ext h.1 h.2
theorem put_keys {kvs:List (List Key × V)} {dn:List (Str × Str)} {n:Str × Str} {v:V} (h:kvs.map (·.1) = dn.map keyN):(putK kvs (keyN n) v).map (·.1) = (addN dn n).map keyN:=by
  have e:(kvs.any fun kv => decide (kv.1 = keyN n)) = true ↔ n ∈ dn:=by
    rw [List.any_eq_true]
    constructor
    · rintro ⟨p,hp,q⟩
      have m:p.1 ∈ kvs.map (·.1):=List.mem_map.mpr ⟨p,hp,rfl⟩
      rw [h] at m
      obtain ⟨z,hz,ez⟩:=List.mem_map.mp m
      exact keyN_inj (ez.trans (of_decide_eq_true q)) ▸ hz
    · intro hn
      have m:keyN n ∈ dn.map keyN:=List.mem_map.mpr ⟨n,hn,rfl⟩
      rw [← h] at m
      obtain ⟨p,hp,ep⟩:=List.mem_map.mp m
      exact ⟨p,hp,decide_eq_true ep⟩
  unfold putK addN
  by_cases hn:n ∈ dn
  · rw [if_pos (e.mpr hn),if_pos hn,← h,List.map_map]
    refine List.map_congr_left fun p _ => ?_
    show (if p.1 = keyN n then (p.1,v) else p).1 = p.1
    split <;> rfl
  · rw [if_neg (fun z => hn (e.mp z)),if_neg hn,List.map_append,List.map_append,h]
    rfl
theorem addN_len (dn:List (Str × Str)) (n:Str × Str):(addN dn n).length ≤ dn.length + 1:=by
  unfold addN
  split
  · omega
  · rw [List.length_append]
    exact Nat.le_refl _
theorem paired_names {H:Hp}:∀ {kvs:List (List Key × V)} {dn:List (Str × Str)} {as:List Addr},kvs.map (·.1) = dn.map keyN →
    Paired (fun (p:List Key × V) (k:Addr) => H k = some (.tup (p.1.map kV))) kvs as → Paired (fun (n:Str × Str) (a:Addr) => H a = some (.tup [.str n.1,.str n.2])) dn as
  | [],[],_,_,.nil => .nil
  | p :: kvs,n :: dn,_,h,.cons a b => by
    have h1:p.1 = keyN n:=(List.cons.inj h).1
    rw [h1] at a
    exact .cons a (paired_names (List.cons.inj h).2 b)
theorem paired_same {H H':Hp} (e:Same H H'):∀ {dn:List (Str × Str)} {as:List Addr},Paired (fun (n:Str × Str) (a:Addr) => H a = some (.tup [.str n.1,.str n.2])) dn as → Paired (fun (n:Str × Str) (a:Addr) => H' a = some (.tup [.str n.1,.str n.2])) dn as
  | _,_,.nil => .nil
  | _,_,.cons a b => .cons (e _ _ a) (paired_same e b)
theorem sput {H H2:Hp} {a:Addr} {o:HO} (e:Same H H2) (h:H a = none):Same H (upd H2 a o):=fun b u q => by rw [upd_ne (ne_of_none q h)]; exact e b u q
noncomputable def spNames (K:PySem.W.Frag):Sp:=fun vs H Q _ => ∃ (x:V) (k:Kd),vs = [x] ∧ KdAt K H x k ∧ k.words ≤ 900 ∧
  ∀ H' l (as:List Addr),Same H H' → H l = none → H' l = some (.lst (as.map V.ref)) → Paired (fun (n:Str × Str) (a:Addr) => H' a = some (.tup [.str n.1,.str n.2])) (firsts [] (Kd.names k)) as → Q (.ref l) H'
theorem bootList:bootBuiltins "list" = some (.type "list"):=by decide +kernel
section
variable {P:Program} {w:World} {K:PySem.W.Frag} {mg:Str → Option Value} {base:Heap}
theorem scNames:FnScope ["kind","met","left","here"] ["kind"] (defScope sNames):=⟨rfl,rfl,rfl,by decide +kernel,rfl,by decide +kernel,by decide +kernel⟩
theorem ok_names {f:Addr} {fd:FuncData} (F:Fun K "names_in" "names_in" sNames f fd) (ml:mg "len" = none) (mi:mg "list" = none):FnOk P w K mg base CX0 1 f fd ["kind"] (spNames K):=by
  refine F.ok scNames (fun vs H Q E h => ?_) (fun cdv A outer s H vs Q E hr h => ?_)
  · obtain ⟨x,k,rfl,_⟩:=h
    rfl
  obtain ⟨x,k,rfl,hk,h9,q⟩:=h
  have hu:=Nat.lt_of_le_of_lt (Nat.add_le_add_left (show 1 ≤ 64 by decide) _) hr.units
  refine ⟨_,pss_cons (ps_set (i:=1) scNames.nd rfl (Or.inl rfl) pe_dnewT)
    (pss_cons (ps_set (i:=2) scNames.nd rfl (Or.inl rfl) (pe_lst (pa_cons (pv 0) pa_nil)))
    (pss_cons (ps_while PassesOwn.never (pt_cmpR op_gt (pe_callB call_len_seq rfl ml PySem.boot_len (pa_cons (pv 2) pa_nil)) pe_int (nomark _))
      (pss_cons (ps_set (i:=3) scNames.nd rfl (Or.inl rfl) (pe_bm0 PySem.F.plainAttrs_list PySem.F.slot_list_pop PySem.F.type_list_pop mt_pop (pv 2)))
      (pss_one (ps_if (pt_cmpR op_eq (pe_ix ix_tup (pv 3) pe_int (fun _ _ => rfl)) pe_str (nomark _))
        (pss_cons (ps_expr (pe_bm PySem.F.plainAttrs_list PySem.F.slot_list_append PySem.F.type_list_append mt_append (pv 2) (pa_cons (pe_ix ix_tup (pv 3) pe_int (fun _ _ => rfl)) pa_nil)))
        (pss_one (ps_expr (pe_bm PySem.F.plainAttrs_list PySem.F.slot_list_append PySem.F.type_list_append mt_append (pv 2) (pa_cons (pe_ix ix_tup (pv 3) pe_int (fun _ _ => rfl)) pa_nil)))))
        (pss_one (ps_if (pt_cmpR op_eq (pe_ix ix_tup (pv 3) pe_int (fun _ _ => rfl)) pe_str (nomark _))
          (pss_one (ps_dput hu (pv 1) (pe_tup (pa_cons (pe_ix ix_tup (pv 3) pe_int (fun _ _ => rfl)) (pa_cons (pe_ix ix_tup (pv 3) pe_int (fun _ _ => rfl)) pa_nil))) pe_bl rfl)) pss_nil))))))
    (pss_one (ps_ret (pe_callTy (call_list_dT rfl) rfl mi bootList (pa_cons (pv 1) pa_nil)))))),?_⟩
  refine fun d hd => ⟨_,rfl,(by show 1 ≤ sizeLine; decide),fun l hl => ?_⟩
  have hdl:d ≠ l:=fun e => by rw [e] at hl; rw [upd_same] at hl; cases hl
  have hl0:H l = none:=by rw [upd_ne (Ne.symm hdl)] at hl; exact hl
  refine while_rel (fun m σ H2 => ∃ (vs:List V) (ks:List Kd) (kvs:List (List Key × V)) (dn:List (Str × Str)) (h:Option V),σ = [some x,some (.ref d),some (.ref l),h] ∧ Same H H2 ∧ H2 l = some (.lst vs) ∧ H2 d = some (.dT kvs) ∧
      KdsAt K H vs ks ∧ kvs.map (·.1) = dn.map keyN ∧ firsts dn (restN ks) = firsts [] (Kd.names k) ∧ dn.length + sumW ks ≤ k.words ∧ m = sumW ks) (sumW [k])
    ⟨[x],[k],[],[],none,rfl,sput (same_new hd _) hl0,upd_same,by rw [upd_ne hdl]; exact upd_same,one hk,rfl,by show firsts [] (Kd.names k ++ []) = _; rw [List.append_nil],by rw [sumW_one]; show 0 + _ ≤ _; omega,rfl⟩ ?_ ?_
  · rintro m σ H2 ⟨vs,ks,kvs,dn,h,rfl,sH,hL,hD,hv,hkeys,hf,hn,rfl⟩
    refine ⟨_,rfl,l,_,rfl,.inl (SqL.of hL),_,_,rfl,rfl,_,rfl,?_⟩
    refine ite2 (fun c => ?_) (fun c => ?_)
    · have c':(0:Int) < (vs.length:Int):=of_decide_eq_true c
      have hne:vs ≠ []:=fun e => by rw [e] at c'; exact absurd c' (by decide)
      obtain ⟨us,v,rfl⟩:∃ us v,vs = us ++ [v]:=⟨_,_,(List.dropLast_concat_getLast hne).symm⟩
      obtain ⟨ls,j,rfl,hus,hj⟩:=snoc hv
      rw [restN_snoc] at hf
      rw [sumW_app,sumW_one] at hn ⊢
      have hjp:=words_pos j
      refine ⟨_,rfl,.inl ⟨rfl,_,SqL.of hL⟩,l,_,v,rfl,rfl,hL,snoc_get,?_⟩
      rw [List.dropLast_concat]
      have hl2:=len_sumW ls
      have hul:=hus.length
      have sH1:Same H (upd H2 l (.lst us)):=sput sH hl0
      have hD1:upd H2 l (.lst us) d = some (.dT kvs):=by rw [upd_ne hdl]; exact hD
      cases hj with
      | @num p m t =>
        refine ⟨_,rfl,_,_,_,_,rfl,rfl,sH1.tup t,(show atI [V.str "num",.int m] 0 = some (.str "num") from rfl),rfl,_,rfl,ite2 (fun c => absurd c (by decide +kernel)) (fun _ => ?_)⟩
        refine ⟨_,rfl,_,_,_,_,rfl,rfl,sH1.tup t,(show atI [V.str "num",.int m] 0 = some (.str "num") from rfl),rfl,_,rfl,ite2 (fun c => absurd c (by decide +kernel)) (fun _ => ?_)⟩
        exact ⟨sumW ls,by omega,us,ls,kvs,dn,_,rfl,sH1,upd_same,hD1,hus,hkeys,hf,by omega,rfl⟩
      | @name p n t h =>
        refine ⟨_,rfl,_,_,_,_,rfl,rfl,sH1.tup h,(show atI [V.str "name",.str n,.str t] 0 = some (.str "name") from rfl),rfl,_,rfl,ite2 (fun c => absurd c (by decide +kernel)) (fun _ => ?_)⟩
        refine ⟨_,rfl,_,_,_,_,rfl,rfl,sH1.tup h,(show atI [V.str "name",.str n,.str t] 0 = some (.str "name") from rfl),rfl,_,rfl,ite2 (fun _ => ?_) (fun c => absurd (by decide +kernel) c)⟩
        refine ⟨_,rfl,_,rfl,_,_,_,_,rfl,rfl,sH1.tup h,(show atI [V.str "name",.str n,.str t] 1 = some (.str n) from rfl),_,rfl,_,_,_,_,rfl,rfl,sH1.tup h,(show atI [V.str "name",.str n,.str t] 2 = some (.str t) from rfl),(by show 2 ≤ sizeLine; decide),fun b hb => ?_⟩
        have hbd:d ≠ b:=ne_of_none hD1 hb
        have hbl:l ≠ b:=ne_of_none upd_same hb
        have hb0:H b = none:=by
          cases e:H b with
          | none => rfl
          | some o => rw [sH1 b o e] at hb; cases hb
        have hlen:kvs.length = dn.length:=by have:=congrArg List.length hkeys; rw [List.length_map,List.length_map] at this; exact this
        have hw:(Kd.name n t).words = 1:=rfl
        rw [hw] at hn
        refine ⟨d,_,rfl,DPut.t (k:=keyN (n,t)) (by rw [upd_ne hbd]; exact hD1) (by rw [upd_same] <;> rfl) (Nat.lt_of_lt_of_le (Nat.lt_succ_self _) (small (by omega))),?_⟩
        have al:=addN_len dn (n,t)
        refine ⟨sumW ls,by omega,us,ls,_,addN dn (n,t),_,rfl,sput (sput sH1 hb0) hd,?_,upd_same,hus,put_keys hkeys,hf,by omega,rfl⟩
        rw [upd_ne (Ne.symm hdl),upd_ne hbl,upd_same]
      | @pair p y z a b t ha hb =>
        have hw:(Kd.pair a b).words = 1 + a.words + b.words:=rfl
        rw [hw] at hn hjp ⊢
        have h1:=words_pos a
        have h2:=words_pos b
        refine ⟨_,rfl,_,_,_,_,rfl,rfl,sH1.tup t,(show atI [V.str "pair",y,z] 0 = some (.str "pair") from rfl),rfl,_,rfl,ite2 (fun _ => ?_) (fun c => absurd (by decide +kernel) c)⟩
        refine ⟨_,rfl,.inl ⟨rfl,_,SqL.of upd_same⟩,_,rfl,_,_,_,_,rfl,rfl,sH1.tup t,(show atI [V.str "pair",y,z] 2 = some z from rfl),l,_,_,rfl,rfl,upd_same,Nat.lt_of_lt_of_le (Nat.lt_succ_self _) (small (by omega)),?_⟩
        rw [upd_upd]
        refine ⟨_,rfl,.inl ⟨rfl,_,SqL.of upd_same⟩,_,rfl,_,_,_,_,rfl,rfl,(sput sH hl0).tup t,(show atI [V.str "pair",y,z] 1 = some y from rfl),l,_,_,rfl,rfl,upd_same,Nat.lt_of_lt_of_le (Nat.lt_succ_self _) (small (by rw [List.length_append]; show us.length + 1 + 1 ≤ 1000; omega)),?_⟩
        rw [upd_upd]
        have es:sumW (ls ++ [b] ++ [a]) = sumW ls + b.words + a.words:=by rw [sumW_app,sumW_app,sumW_one,sumW_one]
        refine ⟨sumW (ls ++ [b] ++ [a]),by rw [es]; omega,us ++ [z] ++ [y],ls ++ [b] ++ [a],kvs,dn,_,rfl,sput sH hl0,upd_same,by rw [upd_ne hdl]; exact hD,(hus.append (one hb)).append (one ha),hkeys,?_,by rw [es]; omega,rfl⟩
        rw [restN_snoc,restN_snoc,← List.append_assoc]
        exact hf
    · have c':¬ (0:Int) < (vs.length:Int):=of_decide_eq_false (Bool.eq_false_iff.mpr c)
      have hv0:vs = []:=List.length_eq_zero_iff.mp (by omega)
      subst hv0
      cases hv
      refine ⟨_,rfl,d,kvs,rfl,hD,fun as o ho pr => ?_⟩
      have ef:dn = firsts [] (Kd.names k):=hf
      subst ef
      have so:Same H2 (upd H2 o (.lst (as.map V.ref))):=same_new ho _
      have ho0:H o = none:=by
        cases e:H o with
        | none => rfl
        | some u => rw [sH o u e] at ho; cases ho
      refine q _ o as (fun b u e => so b u (sH b u e)) ho0 upd_same (paired_same so (paired_names hkeys pr))
  · rintro σ H2 Q1 Q2 hq ⟨v,e1,a,xs,e2,hs,i,j,e3,e4,b,e5,h⟩
    exact ⟨v,e1,a,xs,e2,hs,i,j,e3,e4,b,e5,hq _ _ h⟩
end
end K24
namespace K24
open PySem L2 Kk
theorem at_int {ns:List Int} {i:Int} (h0:0 ≤ i) (h1:i < ns.length):∃ v:Int,atI (ns.map V.int) i = some (.int v):=by
  have hk:i.toNat < List.length ns:=by omega
  have e:i = ((i.toNat:Nat):Int):=by omega
  have q:atI (ns.map V.int) ((i.toNat:Nat):Int) = some (.int ns[i.toNat]):=atI_nat (by simp [hk])
  rw [← e] at q
  exact ⟨_,q⟩
theorem at_ex {α:Type} {xs:List α} {i:Int} (h0:0 ≤ i) (h1:i < xs.length):∃ v,atI xs i = some v:=by
  have hk:i.toNat < xs.length:=by omega
  have e:i = ((i.toNat:Nat):Int):=by omega
  have q:atI xs ((i.toNat:Nat):Int) = some xs[i.toNat]:=atI_nat (by simp)
  rw [← e] at q
  exact ⟨_,q⟩
noncomputable def spCell (K:PySem.W.Frag):Sp:=fun vs H Q _ => ∃ (a:Addr) (ns:List Int) (k:Int),vs = [.ref a,.int k] ∧ SqL K H a (ns.map V.int) ∧ ns.length ≤ 63 ∧ 0 ≤ k ∧ k ≤ 1000 ∧ ∀ c:Int,Q (.int c) H
theorem sok_iff (z:Str):PyData.strOk z = true ↔ ∀ c ∈ z.cps.toList,c < 0x110000:=by
  unfold PyData.strOk
  rw [Array.all_eq_true_iff_forall_mem]
  simp
theorem sok_app {a b:Str} (ha:PyData.strOk a = true) (hb:PyData.strOk b = true):PyData.strOk (a ++ b) = true:=by
  rw [sok_iff] at *
  intro c hc
  have hc':c ∈ (a.cps ++ b.cps).toList:=hc
  rw [Array.toList_append] at hc'
  rcases List.mem_append.mp hc' with h | h
  · exact ha c h
  · exact hb c h
theorem sok_slice {z:Str} (h:PyData.strOk z = true) (l u:Option Int):PyData.strOk (Txt.slice z l u) = true:=by
  unfold Txt.slice
  split
  · exact h
  · rw [sok_iff] at *
    intro c hc
    have hc':c ∈ (Builtin.Str.strSliceIndices l u 1 z.length).filterMap (z.cps[·]?):=by simpa using hc
    obtain ⟨i,_,e⟩:=List.mem_filterMap.mp hc'
    exact h c (by simpa using Array.mem_of_getElem? e)
theorem sok_rep {x:Str} (h:PyData.strOk x = true):∀ (n:Nat) (acc:Array Nat),(∀ c ∈ acc.toList,c < 0x110000) → ∀ c ∈ ((List.replicate n x.cps).foldl (· ++ ·) acc).toList,c < 0x110000
  | 0,acc,ha => ha
  | n + 1,acc,ha => by
    rw [List.replicate_succ,List.foldl_cons]
    refine sok_rep h n _ fun c hc => ?_
    rw [Array.toList_append] at hc
    rcases List.mem_append.mp hc with q | q
    · exact ha c q
    · exact (sok_iff x).mp h c q
theorem sok_mul {x:Str} (h:PyData.strOk x = true) (n:Int):PyData.strOk (Txt.mul x n) = true:=by
  unfold Txt.mul
  split
  · decide +kernel
  · split
    · exact h
    · rw [sok_iff]
      exact sok_rep h _ _ (fun c hc => by simp at hc)
theorem sok_at {z:Str} {i:Int} {g:Nat} (h:PyData.strOk z = true) (hm:atI z.cps.toList i = some g):PyData.strOk ⟨#[g]⟩ = true:=by
  rw [sok_iff] at *
  intro c hc
  have:c = g:=by simpa using hc
  subst this
  unfold atI at hm
  obtain ⟨j,_,e⟩:=Option.bind_eq_some_iff.mp hm
  exact h c (List.mem_of_getElem? e)
noncomputable def Kd.sok:Kd → Bool
  | .num _ => true
  | .name q t => PyData.strOk q && PyData.strOk t
  | .pair a b => Kd.sok a && Kd.sok b
noncomputable def noWords:List Str:=["num","pair","lit","as","if","let","two","first","second"]
theorem noFlat:(noWords.map V.str).all flatV = true:=by decide +kernel
theorem len_app (a b:Str):(a ++ b).length = a.length + b.length:=by
  show Array.size (a.cps ++ b.cps) = _
  rw [Array.size_append] <;> rfl
noncomputable abbrev strE (q:Str × Nat × Pos):Expr:=.Constant (.str q.1) q.2.1 q.2.2
theorem pa_strs {X:Cx}:∀ (l:List (Str × Nat × Pos)),PA X (l.map strE) (fun _ H Q => Q ((l.map (·.1)).map V.str) H)
  | [] => pa_nil
  | q :: l => pa_cons (pe_str (x:=q.1)) (pa_strs l)
section
variable {P:Program} {w:World} {K:PySem.W.Frag} {mg:Str → Option Value} {base:Heap}
theorem scCell:FnScope ["_law_script","_law_k","_law_number"] ["_law_script","_law_k"] (defScope sCell):=⟨rfl,rfl,rfl,by decide +kernel,rfl,by decide +kernel,by decide +kernel⟩
theorem ok_cell {f:Addr} {fd:FuncData} (F:Fun K "_law_cell" "_law_cell" sCell f fd) (ml:mg "len" = none):FnOk P w K mg base CX0 1 f fd ["_law_script","_law_k"] (spCell K):=by
  refine F.ok scCell (fun vs H Q E h => ?_) (fun cdv A outer s H vs Q E hr h => ?_)
  · obtain ⟨a,ns,k,rfl,_⟩:=h
    rfl
  obtain ⟨a,ns,k,rfl,hS,h63,h0,h1,q⟩:=h
  refine ⟨_,pss_cons (ps_if (pt_cmpR op_lt (pv 1) (pe_callB call_len_seq rfl ml PySem.boot_len (pa_cons (pv 0) pa_nil)) (nomark _))
      (pss_one (ps_ret (pe_ix ix_list (pv 0) (pv 1) (fun _ _ => rfl)))) pss_nil)
    (pss_cons (ps_set (i:=2) scCell.nd rfl (Or.inl rfl) (pe_op op_add (pe_op op_mul (pv 1) pe_int) pe_int))
    (pss_cons (ps_if (pt_cmpR op_gt (pe_callB call_len_seq rfl ml PySem.boot_len (pa_cons (pv 0) pa_nil)) pe_int (nomark _))
      (pss_one (ps_set (i:=2) scCell.nd rfl (Or.inl rfl) (pe_op op_mod (pe_op op_add (pe_op op_mul (pe_ix ix_list (pv 0) (pe_op op_mod (pe_op op_mul (pv 1) pe_int) (pe_callB call_len_seq rfl ml PySem.boot_len (pa_cons (pv 0) pa_nil))) (fun _ _ => rfl)) pe_int) (pe_op op_mul (pv 1) pe_int)) pe_int))) pss_nil)
    (pss_one (ps_ret (pe_op op_mod (pe_op op_mul (pv 2) (pv 2)) pe_int))))),?_⟩
  have hl:(ns.map V.int).length = ns.length:=List.length_map _
  refine ⟨_,rfl,_,rfl,a,_,rfl,.inl hS,_,_,rfl,rfl,_,rfl,?_⟩
  refine ite2 (fun c => ?_) (fun c => ?_)
  · have c':k < (((ns.map V.int).length:Nat):Int):=of_decide_eq_true c
    rw [hl] at c'
    obtain ⟨v,hv⟩:=at_int (ns:=ns) h0 c'
    exact ⟨_,rfl,_,rfl,a,_,_,_,rfl,rfl,hS,hv,q _⟩
  · refine ⟨_,rfl,_,_,rfl,rfl,.inr ⟨by omega,by omega⟩,_,_,rfl,rfl,?_⟩
    refine ⟨_,rfl,a,_,rfl,.inl hS,_,_,rfl,rfl,_,rfl,?_⟩
    refine ite2 (fun d => ?_) (fun d => ?_)
    · have d':0 < (((ns.map V.int).length:Nat):Int):=of_decide_eq_true d
      rw [hl] at d'
      obtain ⟨v,hv⟩:=at_int (ns:=ns) (i:=k * 7 % (((ns.map V.int).length:Nat):Int)) (by rw [hl]; exact Int.emod_nonneg _ (by omega)) (by rw [hl]; exact Int.emod_lt_of_pos _ d')
      refine ⟨_,rfl,_,rfl,_,_,rfl,rfl,.inr ⟨by omega,by omega⟩,_,rfl,a,_,rfl,.inl hS,_,_,rfl,rfl,(by rw [hl]; exact d'),a,_,_,_,rfl,rfl,hS,hv,?_⟩
      refine ⟨_,_,rfl,rfl,.inr ⟨by omega,by omega⟩,_,rfl,_,_,rfl,rfl,.inr ⟨by omega,by omega⟩,_,_,rfl,rfl,_,_,rfl,rfl,(by show (0:Int) < 2147483647; decide),?_⟩
      have g0:=Int.emod_nonneg (v * 48271 + k * 7919) (show (2147483647:Int) ≠ 0 by decide)
      have g1:=Int.emod_lt_of_pos (v * 48271 + k * 7919) (show (0:Int) < 2147483647 by decide)
      refine ⟨_,rfl,_,rfl,_,_,rfl,rfl,?_,_,_,rfl,rfl,(by show (0:Int) < 2147483629; decide),q _⟩
      exact Or.inl ⟨Int.lt_of_lt_of_le (by decide) g0,Int.lt_trans g1 (by decide)⟩
    · exact ⟨_,rfl,_,rfl,_,_,rfl,rfl,.inl ⟨by omega,by omega⟩,_,_,rfl,rfl,(by show (0:Int) < 2147483629; decide),q _⟩
theorem scWord:FnScope ["_law_cell_here","_law_letters","_law_size_here","_law_left","_law_word_here","_law_at"] ["_law_cell_here"] (defScope sWord):=⟨rfl,rfl,rfl,by decide +kernel,rfl,by decide +kernel,by decide +kernel⟩
theorem same_trans {H H1 H2:Hp} (a:Same H H1) (b:Same H1 H2):Same H H2:=fun x o e => b x o (a x o e)
end
end K24
namespace K24
open PySem L2 Kk
theorem sqt_upd {K:PySem.W.Frag} {H:Hp} {l a:Addr} {ys xs:List V} {o:HO} (h:H l = some (.lst ys)) (t:SqT K H a xs):SqT K (upd H l o) a xs:=by
  rcases t with (t | ⟨o',t⟩) | t
  · exact .inl (.inl (by rw [upd_ne (fun e => by rw [e,h] at t; cases t)]; exact t))
  · exact .inl (.inr ⟨o',by rw [upd_ne (fun e => by rw [e,h] at t; cases t)]; exact t⟩)
  · exact .inr t
theorem kd_keep {K:PySem.W.Frag} {H H':Hp} (e:∀ a xs,SqT K H a xs → SqT K H' a xs):∀ {x:V} {k:Kd},KdAt K H x k → KdAt K H' x k
  | _,_,.num h => .num (e _ _ h)
  | _,_,.name h => .name (e _ _ h)
  | _,_,.pair h a b => .pair (e _ _ h) (kd_keep e a) (kd_keep e b)
theorem kds_keep {K:PySem.W.Frag} {H H':Hp} (e:∀ a xs,SqT K H a xs → SqT K H' a xs):∀ {xs:List V} {ks:List Kd},KdsAt K H xs ks → KdsAt K H' xs ks
  | _,_,.nil => .nil
  | _,_,.cons a b => .cons (kd_keep e a) (kds_keep e b)
theorem sql_same {K:PySem.W.Frag} {H H':Hp} {a:Addr} {xs:List V} (e:Same H H') (h:SqL K H a xs):SqL K H' a xs:=by
  rcases h with (h | ⟨o,h⟩) | h
  · exact .inl (.inl (e _ _ h))
  · exact .inl (.inr ⟨o,e _ _ h⟩)
  · exact .inr h
end K24
namespace K24
open PySem L2 Kk
noncomputable def flat (ks:List Kd):List Kd:=(ks.map Kd.leaves).flatten
theorem cut_to {vs:List V} {n:Nat} (h:n ≤ vs.length):cutV vs none (some (n:Int)) = vs.take n:=by
  unfold cutV
  rw [HT.sIx_none,HT.sIx_nat,Nat.min_eq_left h]
  rfl
theorem cut_from {vs:List V} {n:Nat} (h:n ≤ vs.length):cutV vs (some (n:Int)) none = vs.drop n:=by
  unfold cutV
  rw [HT.sIx_none,HT.sIx_nat,Nat.min_eq_left h,List.take_of_length_le (by rw [List.length_drop]; exact Nat.le_refl _)]
end K24
namespace K24
open PySem L2 Kk
theorem bootInt:bootBuiltins "int" = some (.type "int"):=by decide +kernel
theorem bootTuple:bootBuiltins "tuple" = some (.type "tuple"):=by decide +kernel
end K24
namespace K24
open PySem L2 Kk
noncomputable def Kd.put (G:Str × Str → Option Kd):Kd → Kd
  | .num n => .num n
  | .name q t => (G (q,t)).getD (.name q t)
  | .pair a b => .pair (Kd.put G a) (Kd.put G b)
noncomputable def Kd.depth:Kd → Nat
  | .num _ => 1
  | .name _ _ => 1
  | .pair a b => 1 + max (Kd.depth a) (Kd.depth b)
theorem depth_pos (k:Kd):1 ≤ Kd.depth k:=by
  cases k with
  | num _ => exact Nat.le_refl _
  | name _ _ => exact Nat.le_refl _
  | pair a b => exact Nat.le_add_right _ _
noncomputable def GvAt (K:PySem.W.Frag) (H:Hp) (kvs:List (List Key × V)) (G:Str × Str → Option Kd):Prop :=
  ∀ n,(valV kvs (keyN n) = none ∧ G n = none) ∨ ∃ v k,valV kvs (keyN n) = some v ∧ G n = some k ∧ KdAt K H v k
theorem GvAt.same {K:PySem.W.Frag} {H H':Hp} {kvs:List (List Key × V)} {G:Str × Str → Option Kd} (e:Same H H') (h:GvAt K H kvs G):GvAt K H' kvs G:=fun n => by
  rcases h n with h | ⟨v,k,h1,h2,h3⟩
  · exact .inl h
  · exact .inr ⟨v,k,h1,h2,h3.same e⟩
noncomputable def spPut (K:PySem.W.Frag) (n:Nat):Sp:=fun vs H Q _ => ∃ (x:V) (g:Addr) (k:Kd) (kvs:List (List Key × V)) (G:Str × Str → Option Kd),vs = [x,.ref g] ∧ KdAt K H x k ∧ Kd.depth k ≤ n ∧ H g = some (.dT kvs) ∧ GvAt K H kvs G ∧
  ∀ H' v,Same H H' → KdAt K H' v (Kd.put G k) → Q v H'
section
variable {P:Program} {w:World} {K:PySem.W.Frag} {mg:Str → Option Value} {base:Heap}
theorem scPut:FnScope ["kind","given"] ["kind","given"] (defScope sPut):=⟨rfl,rfl,rfl,by decide +kernel,rfl,by decide +kernel,by decide +kernel⟩
theorem ok_put {f:Addr} {fd:FuncData} (F:Fun K "put" "put" sPut f fd) (bP:Binds K fd ["kind","given"] []) (kP:PySem.W.keepIn K (.ref f) = true) (mP:mg "put" = some (.ref f)) :
    ∀ n,FnOk P w K mg base CX0 n f fd ["kind","given"] (spPut K n)
  | 0 => ⟨fun vs H Q E h => by obtain ⟨x,g,k,kvs,G,rfl,_⟩:=h; rfl,fun A outer s H args us vs Q E _ _ _ _ h => by
      obtain ⟨x,g,k,kvs,G,_,_,hd,_⟩:=h
      have:=depth_pos k
      omega⟩
  | n + 1 => by
    have IH:=ok_put F bP kP mP n
    refine F.ok scPut (fun vs H Q E h => ?_) (fun cdv A outer s H vs Q E hr h => ?_)
    · obtain ⟨x,g,k,kvs,G,rfl,_⟩:=h
      rfl
    obtain ⟨x,g,k,kvs,G,rfl,hk,hd,hg,hG,q⟩:=h
    have hu:=hu_of hr
    refine ⟨_,pss_cons (ps_if (pt_cmpR op_eq (pe_ix ix_tup (pv 0) pe_int (fun _ _ => rfl)) pe_str (nomark _))
        (pss_one (ps_ret (pe_tup (pa_cons pe_str (pa_cons (pe_call IH hr rfl mP kP bP .nil pass0 (pa_cons (pe_ix ix_tup (pv 0) pe_int (fun _ _ => rfl)) (pa_cons (pv 1) pa_nil)))
          (pa_cons (pe_call IH hr rfl mP kP bP .nil pass0 (pa_cons (pe_ix ix_tup (pv 0) pe_int (fun _ _ => rfl)) (pa_cons (pv 1) pa_nil))) pa_nil)))))) pss_nil)
      (pss_cons (ps_if (pt_cmpR op_eq (pe_ix ix_tup (pv 0) pe_int (fun _ _ => rfl)) pe_str (nomark _))
        (pss_one (ps_ret (pe_dget2 hu (pv 1) (pe_tup (pa_cons (pe_ix ix_tup (pv 0) pe_int (fun _ _ => rfl)) (pa_cons (pe_ix ix_tup (pv 0) pe_int (fun _ _ => rfl)) pa_nil))) (pv 0) ⟨rfl,rfl,rfl,rfl⟩))) pss_nil)
      (pss_one (ps_ret (pv 0)))),?_⟩
    cases hk with
    | @num p m t =>
      refine ⟨_,rfl,_,_,_,_,rfl,rfl,t,(show atI [V.str "num",.int m] 0 = some (.str "num") from rfl),rfl,_,rfl,ite2 (fun c => absurd c (by decide +kernel)) (fun _ => ?_)⟩
      refine ⟨_,rfl,_,_,_,_,rfl,rfl,t,(show atI [V.str "num",.int m] 0 = some (.str "num") from rfl),rfl,_,rfl,ite2 (fun c => absurd c (by decide +kernel)) (fun _ => ?_)⟩
      exact ⟨_,rfl,q _ _ (Same.refl _) (.num t)⟩
    | @name p a b t =>
      refine ⟨_,rfl,_,_,_,_,rfl,rfl,t,(show atI [V.str "name",.str a,.str b] 0 = some (.str "name") from rfl),rfl,_,rfl,ite2 (fun c => absurd c (by decide +kernel)) (fun _ => ?_)⟩
      refine ⟨_,rfl,_,_,_,_,rfl,rfl,t,(show atI [V.str "name",.str a,.str b] 0 = some (.str "name") from rfl),rfl,_,rfl,ite2 (fun _ => ?_) (fun c => absurd (by decide +kernel) c)⟩
      refine ⟨_,rfl,g,rfl,.inr ⟨kvs,.inl hg⟩,_,rfl,_,_,_,_,rfl,rfl,t,(show atI [V.str "name",.str a,.str b] 1 = some (.str a) from rfl),_,rfl,_,_,_,_,rfl,rfl,t,(show atI [V.str "name",.str a,.str b] 2 = some (.str b) from rfl),(by show 2 ≤ sizeLine; decide),fun y hy => ?_⟩
      have sy:=same_new hy (.tup [.str a,.str b])
      refine ⟨_,rfl,_,DGet.t (k:=keyN (a,b)) (sy _ _ hg) upd_same,q _ _ sy ?_⟩
      show KdAt K _ ((valV kvs (keyN (a,b))).getD _) ((G (a,b)).getD (.name a b))
      rcases hG (a,b) with ⟨h1,h2⟩ | ⟨v,k',h1,h2,h3⟩
      · rw [h1,h2]
        exact .name (sy.tup t)
      · rw [h1,h2]
        exact h3.same sy
    | @pair p y z a b t ha hb =>
      have hd':1 + max (Kd.depth a) (Kd.depth b) ≤ n + 1:=hd
      refine ⟨_,rfl,_,_,_,_,rfl,rfl,t,(show atI [V.str "pair",y,z] 0 = some (.str "pair") from rfl),rfl,_,rfl,ite2 (fun _ => ?_) (fun c => absurd (by decide +kernel) c)⟩
      refine ⟨_,rfl,_,_,_,_,rfl,rfl,t,(show atI [V.str "pair",y,z] 1 = some y from rfl),_,rfl,y,g,a,kvs,G,rfl,ha,by omega,hg,hG,fun H1 v1 s1 k1 => ?_⟩
      refine ⟨_,rfl,_,_,_,_,rfl,rfl,s1.tup t,(show atI [V.str "pair",y,z] 2 = some z from rfl),_,rfl,z,g,b,kvs,G,rfl,hb.same s1,by omega,s1 _ _ hg,hG.same s1,fun H2 v2 s2 k2 => ?_⟩
      refine ⟨(by show 3 ≤ sizeLine; decide),fun c hc => q _ _ (same_trans (same_trans s1 s2) (same_new hc _)) ?_⟩
      exact .pair (SqT.of upd_same) ((k1.same s2).same (same_new hc _)) (k2.same (same_new hc _))
theorem log_small {i:Int} (h0:0 ≤ i) (h1:i ≤ 1000000):i.natAbs.log2 < 1920:=by
  by_cases hz:i.natAbs = 0
  · rw [hz]; decide
  · refine (Nat.log2_lt hz).mpr (Nat.lt_of_le_of_lt (m:=1000000) (by omega) ?_)
    exact Nat.lt_of_lt_of_le (show 1000000 < 2 ^ 20 by decide) (Nat.pow_le_pow_right (by decide) (by decide))
theorem txt_small {i:Int} (h0:0 ≤ i) (h1:i ≤ 1000000):(Str.ofString (toString i)).length ≤ 100000:=by
  have:=PyProof.Rows.toString_length_le h0 (k:=7) (by decide) (Int.lt_of_le_of_lt h1 (by decide))
  omega
end
end K24
namespace K24
open PySem L2 Kk Builtin.Str
theorem idx_to {n j:Nat} (h:j ≤ n):strSliceIndices none (some (j:Int)) 1 n = List.range j:=by
  have e:=StrLaws.strSliceIndices_plain (a:=0) (b:=j) (len:=n) (Nat.zero_le _) h
  have e2:strSliceIndices none (some (j:Int)) 1 n = strSliceIndices (some ((0:Nat):Int)) (some (j:Int)) 1 n:=by
    unfold strSliceIndices
    simp
    congr 1
    try omega
  rw [e2,e]
  simp
theorem idx_from {n j:Nat} (h:j ≤ n):strSliceIndices (some (j:Int)) none 1 n = (List.range (n - j)).map (j + ·):=by
  have e:=StrLaws.strSliceIndices_plain (a:=j) (b:=n) (len:=n) h (Nat.le_refl _)
  have e2:strSliceIndices (some (j:Int)) none 1 n = strSliceIndices (some (j:Int)) (some (n:Int)) 1 n:=by
    unfold strSliceIndices
    simp
    congr 1
    split <;> omega
  rw [e2,e]
theorem fm_len {α β:Type} {f:α → Option β}:∀ {l:List α},(∀ a ∈ l,(f a).isSome = true) → (l.filterMap f).length = l.length
  | [],_ => rfl
  | a :: l,h => by
    have h1:=h a List.mem_cons_self
    obtain ⟨b,hb⟩:=Option.isSome_iff_exists.mp h1
    rw [List.filterMap_cons_some hb,List.length_cons,List.length_cons,fm_len fun c hc => h c (List.mem_cons_of_mem _ hc)]
theorem slice_len {z:Str} {l u:Option Int} (h:∀ i ∈ strSliceIndices l u 1 z.length,i < z.length):(Txt.slice z l u).length = (strSliceIndices l u 1 z.length).length:=by
  unfold Txt.slice
  split
  · rename_i c
    simp at c
    exact c.symm
  · show Array.size (List.toArray _) = _
    rw [List.size_toArray]
    refine fm_len fun i hi => ?_
    have:=h i hi
    rw [Array.getElem?_eq_getElem (show i < z.cps.size from this)] <;> rfl
theorem slice_to {z:Str} {j:Int} (h0:0 ≤ j) (h1:j ≤ z.length):(Txt.slice z none (some j)).length = j.toNat:=by
  obtain ⟨n,rfl⟩:∃ n:Nat,j = n:=⟨j.toNat,by omega⟩
  have hn:n ≤ z.length:=by omega
  rw [slice_len (by rw [idx_to hn]; intro i hi; have:=List.mem_range.mp hi; omega),idx_to hn,List.length_range]
  simp
theorem slice_from {z:Str} {j:Int} (h0:0 ≤ j) (h1:j ≤ z.length):(Txt.slice z (some j) none).length = z.length - j.toNat:=by
  obtain ⟨n,rfl⟩:∃ n:Nat,j = n:=⟨j.toNat,by omega⟩
  have hn:n ≤ z.length:=by omega
  rw [slice_len (by rw [idx_from hn]; intro i hi; obtain ⟨k,hk,rfl⟩:=List.mem_map.mp hi; have:=List.mem_range.mp hk; omega),idx_from hn,List.length_map,List.length_range]
  simp
end K24
namespace K24
open PySem L2 Kk
noncomputable def chF (i:Int):Nat:=(atI (Str.ofString "abcdefghijklmnopqrstuvwxyz").cps.toList i).getD 97
noncomputable def wordRaw (c:Int):Str:=Txt.slice (Txt.mul ⟨#[chF (c / 12 % 1000000007 % 26)]⟩ (1 + c % 12)) none (some (c / 12 % 1000000007 / 26 % (1 + c % 12))) ++ ⟨#[chF (c / 12 % 1000000007 / 312 % 26)]⟩ ++
  Txt.slice (Txt.mul ⟨#[chF (c / 12 % 1000000007 % 26)]⟩ (1 + c % 12)) (some (c / 12 % 1000000007 / 26 % (1 + c % 12) + 1)) none
noncomputable def wordF (c:Int):Str:=if inV (V.str (wordRaw c)) (noWords.map V.str) = true then wordRaw c ++ "x" else wordRaw c
theorem chF_ok (i:Int):PyData.strOk ⟨#[chF i]⟩ = true:=by
  unfold chF
  cases h:atI (Str.ofString "abcdefghijklmnopqrstuvwxyz").cps.toList i with
  | none => decide +kernel
  | some g => exact sok_at (by decide +kernel) h
theorem raw_ok (c:Int):PyData.strOk (wordRaw c) = true:=sok_app (sok_app (sok_slice (sok_mul (chF_ok _) _) _ _) (chF_ok _)) (sok_slice (sok_mul (chF_ok _) _) _ _)
theorem mul_len (g:Nat) (c:Int):((Txt.mul ⟨#[g]⟩ (1 + c % 12)).length:Int) = 1 + c % 12:=by
  have b0:=Int.emod_nonneg c (show (12:Int) ≠ 0 by decide)
  have e:=PyProof.Rows.len_mul ⟨#[g]⟩ (1 + c % 12)
  rw [if_neg (by rw [decide_eq_true_iff]; omega)] at e
  have e1:((Str.length ⟨#[g]⟩:Nat):Int) = 1:=rfl
  rw [e1] at e
  omega
theorem raw_eq (c:Int):((wordRaw c).length:Int) = 1 + c % 12:=by
  have b0:=Int.emod_nonneg c (show (12:Int) ≠ 0 by decide)
  have m:=mul_len (chF (c / 12 % 1000000007 % 26)) c
  have a0:=Int.emod_nonneg (c / 12 % 1000000007 / 26) (show (1 + c % 12:Int) ≠ 0 by omega)
  have a1:=Int.emod_lt_of_pos (c / 12 % 1000000007 / 26) (show (0:Int) < 1 + c % 12 by omega)
  unfold wordRaw
  rw [len_app,len_app,slice_to a0 (by omega),slice_from (by omega) (by omega)]
  have o1:Str.length ⟨#[chF (c / 12 % 1000000007 / 312 % 26)]⟩ = 1:=rfl
  rw [o1]
  omega
theorem raw_len (c:Int):(wordRaw c).length ≤ 12:=by
  have:=raw_eq c
  have:=Int.emod_lt_of_pos c (show (0:Int) < 12 by decide)
  omega
theorem word_ok (c:Int):PyData.strOk (wordF c) = true:=by
  unfold wordF
  split
  · exact sok_app (raw_ok c) (by decide +kernel)
  · exact raw_ok c
theorem word_len (c:Int):1 ≤ (wordF c).length ∧ (wordF c).length ≤ 13:=by
  have h1:=raw_len c
  have h2:=raw_eq c
  have h3:=Int.emod_nonneg c (show (12:Int) ≠ 0 by decide)
  have hx:(Str.ofString "x").length = 1:=by decide +kernel
  unfold wordF
  split
  · rw [len_app]
    omega
  · omega
theorem inV_str {z:Str} {ws:List Str}:inV (V.str z) (ws.map V.str) = true ↔ z ∈ ws:=by
  unfold inV
  rw [List.any_eq_true]
  constructor
  · rintro ⟨y,hy,e⟩
    obtain ⟨u,hu,rfl⟩:=List.mem_map.mp hy
    have e':(u == z) = true:=e
    rw [← eq_of_beq e']
    exact hu
  · intro h
    exact ⟨V.str z,List.mem_map.mpr ⟨z,h,rfl⟩,(show (z == z) = true from beq_self_eq_true z)⟩
noncomputable def spWordF:Sp:=fun vs H Q _ => ∃ c:Int,vs = [.int c] ∧ ∀ H',Same H H' → Q (.str (wordF c)) H'
section
variable {P:Program} {w:World} {K:PySem.W.Frag} {mg:Str → Option Value} {base:Heap}
theorem ok_wordF {f:Addr} {fd:FuncData} (F:Fun K "_law_word" "_law_word" sWord f fd):FnOk P w K mg base CX0 1 f fd ["_law_cell_here"] spWordF:=by
  refine F.ok scWord (fun vs H Q E h => ?_) (fun cdv A outer s H vs Q E hr h => ?_)
  · obtain ⟨c,rfl,_⟩:=h
    rfl
  obtain ⟨c,rfl,q⟩:=h
  obtain ⟨u6,d6,k6⟩:∃ t,PSs (cxOf CX0 P w K mg base ["_law_cell_here","_law_letters","_law_size_here","_law_left","_law_word_here","_law_at"] "_law_word" (defScope sWord) f cdv A outer s H E).nox (List.drop 6 (defBody sWord)) t ∧
      ∀ (x1 x2 x3 x5:Option V),t { nx:=fun _ H' => Q .non H',rt:=Q } [some (.int c),x1,x2,x3,some (.str (wordRaw c)),x5] H:=by
    refine ⟨_,pss_cons (ps_if (pt_cmpR op_in_seq (pv 4) (pe_lst (pa_strs [(_,_,_),(_,_,_),(_,_,_),(_,_,_),(_,_,_),(_,_,_),(_,_,_),(_,_,_),(_,_,_)]):PE _ _ _) (by with_unfolding_all rfl)) (pss_one (ps_ret (pe_op op_add_str (pv 4) pe_str))) pss_nil) (pss_one (ps_ret (pv 4))),fun x1 x2 x3 x5 => ?_⟩
    refine ⟨_,rfl,(by show 9 ≤ sizeLine; decide),fun l hl => ⟨l,_,rfl,.inl (SqL.of upd_same),rfl,noFlat,_,rfl,?_⟩⟩
    have sm:=same_new hl (.lst (noWords.map V.str))
    have hz:=raw_len c
    refine ite2 (fun c1 => ?_) (fun c1 => ?_)
    · have hx:(Str.ofString "x").length = 1:=by decide +kernel
      have c1':inV (V.str (wordRaw c)) (noWords.map V.str) = true:=c1
      have e:wordF c = wordRaw c ++ "x":=if_pos c1'
      refine ⟨_,rfl,_,_,rfl,rfl,small (by omega),?_⟩
      rw [← e]
      exact q _ sm
    · have c1':¬ inV (V.str (wordRaw c)) (noWords.map V.str) = true:=c1
      have e:wordF c = wordRaw c:=if_neg c1'
      refine ⟨_,rfl,?_⟩
      rw [← e]
      exact q _ sm
  refine ⟨_,pss_cons (ps_set (i:=1) scWord.nd rfl (Or.inl rfl) pe_str)
    (pss_cons (ps_set (i:=2) scWord.nd rfl (Or.inl rfl) (pe_op op_add pe_int (pe_op op_mod (pv 0) pe_int)))
    (pss_cons (ps_set (i:=3) scWord.nd rfl (Or.inl rfl) (pe_op op_mod (pe_op op_fdiv (pv 0) pe_int) pe_int))
    (pss_cons (ps_set (i:=4) scWord.nd rfl (Or.inl rfl) (pe_op op_mulS (pe_ix ix_str (pv 1) (pe_op op_mod (pv 3) pe_int) (fun _ _ => rfl)) (pv 2)))
    (pss_cons (ps_set (i:=5) scWord.nd rfl (Or.inl rfl) (pe_op op_mod (pe_op op_fdiv (pv 3) pe_int) (pv 2)))
    (pss_cons (ps_set (i:=4) scWord.nd rfl (Or.inl rfl) (pe_op op_add_str (pe_op op_add_str (pe_slice sl_str (pv 4) po_none (po_some (pv 5))) (pe_ix ix_str (pv 1) (pe_op op_mod (pe_op op_fdiv (pv 3) pe_int) pe_int) (fun _ _ => rfl)))
      (pe_slice sl_str (pv 4) (po_some (pe_op op_add (pv 5) pe_int)) po_none))) d6))))),?_⟩
  have l26:(Str.ofString "abcdefghijklmnopqrstuvwxyz").length ≤ sizeLine:=by decide +kernel
  have h26:((Str.ofString "abcdefghijklmnopqrstuvwxyz").cps.toList.length:Int) = 26:=by decide +kernel
  refine ⟨_,rfl,_,_,rfl,rfl,(by show (0:Int) < 12; decide),_,_,rfl,rfl,?_⟩
  refine ⟨_,rfl,_,_,rfl,rfl,⟨by decide,by decide⟩,_,_,rfl,rfl,(by show (0:Int) < 1000000007; decide),?_⟩
  have b0:=Int.emod_nonneg c (show (12:Int) ≠ 0 by decide)
  have b1:=Int.emod_lt_of_pos c (show (0:Int) < 12 by decide)
  obtain ⟨g,hg⟩:=at_ex (xs:=(Str.ofString "abcdefghijklmnopqrstuvwxyz").cps.toList) (i:=c / 12 % 1000000007 % 26) (Int.emod_nonneg _ (by decide)) (by rw [h26]; exact Int.emod_lt_of_pos _ (by decide))
  obtain ⟨g2,hg2⟩:=at_ex (xs:=(Str.ofString "abcdefghijklmnopqrstuvwxyz").cps.toList) (i:=c / 12 % 1000000007 / 312 % 26) (Int.emod_nonneg _ (by decide)) (by rw [h26]; exact Int.emod_lt_of_pos _ (by decide))
  have oL:PyData.strOk (Str.ofString "abcdefghijklmnopqrstuvwxyz") = true:=by decide +kernel
  have og:=sok_at oL hg
  have og2:=sok_at oL hg2
  have hm:(Txt.mul ⟨#[g]⟩ (1 + c % 12)).length ≤ 12:=by
    have e:=PyProof.Rows.len_mul ⟨#[g]⟩ (1 + c % 12)
    rw [if_neg (by rw [decide_eq_true_iff]; omega)] at e
    have e1:((Str.length ⟨#[g]⟩:Nat):Int) = 1:=rfl
    rw [e1] at e
    omega
  refine ⟨_,rfl,_,rfl,_,_,rfl,rfl,(by show (0:Int) < 26; decide),_,_,_,rfl,rfl,l26,hg,_,rfl,_,_,rfl,rfl,mulOk_small (by omega) (by omega) (by show 1 ≤ 1000; decide),?_⟩
  refine ⟨_,rfl,_,_,rfl,rfl,⟨by decide,by decide⟩,_,rfl,_,_,rfl,rfl,(by show (0:Int) < 1 + c % 12; omega),?_⟩
  have s1:=Txt.slice_le (Txt.mul ⟨#[g]⟩ (1 + c % 12)) none (some (c / 12 % 1000000007 / 26 % (1 + c % 12)))
  have s2:=Txt.slice_le (Txt.mul ⟨#[g]⟩ (1 + c % 12)) (some (c / 12 % 1000000007 / 26 % (1 + c % 12) + 1)) none
  have o1:Str.length ⟨#[g2]⟩ = 1:=rfl
  refine ⟨_,rfl,_,rfl,_,rfl,_,rfl,small (by omega),_,rfl,_,rfl,_,_,rfl,rfl,⟨by decide,by decide⟩,_,_,rfl,rfl,(by show (0:Int) < 26; decide),_,_,_,rfl,rfl,l26,hg2,_,_,rfl,rfl,small (by omega),?_⟩
  refine ⟨_,rfl,_,rfl,_,_,rfl,rfl,_,rfl,_,rfl,small (by omega),_,_,rfl,rfl,small (by rw [len_app]; omega),?_⟩
  have eg:chF (c / 12 % 1000000007 % 26) = g:=by unfold chF; rw [hg]; rfl
  have eg2:chF (c / 12 % 1000000007 / 312 % 26) = g2:=by unfold chF; rw [hg2]; rfl
  have ez:wordRaw c = Txt.slice (Txt.mul ⟨#[g]⟩ (1 + c % 12)) none (some (c / 12 % 1000000007 / 26 % (1 + c % 12))) ++ ⟨#[g2]⟩ ++ Txt.slice (Txt.mul ⟨#[g]⟩ (1 + c % 12)) (some (c / 12 % 1000000007 / 26 % (1 + c % 12) + 1)) none:=by
    unfold wordRaw
    rw [eg,eg2]
  rw [← ez]
  exact k6 _ _ _ _
end
end K24
namespace K24
open PySem L2 Kk
noncomputable def okW (z:Str):Prop:=PyData.strOk z = true ∧ z.length ≤ 9000
noncomputable abbrev sInit:Stmt:=inClass (top 14) 0
theorem kf':¬ (("kinds":Str) = "funs"):=by decide +kernel
noncomputable def Kd.ok:Kd → Prop
  | .num _ => True
  | .name q t => okW q ∧ okW t
  | .pair a b => Kd.ok a ∧ Kd.ok b
theorem names_ok:∀ {k:Kd},Kd.ok k → ∀ n ∈ Kd.names k,okW n.1 ∧ okW n.2
  | .num _,_,n,hn => nomatch hn
  | .name q t,h,n,hn => by
    obtain rfl:=List.mem_singleton.mp hn
    exact h
  | .pair a b,h,n,hn => by
    rcases List.mem_append.mp hn with z | z
    · exact names_ok h.1 n z
    · exact names_ok h.2 n z
section
variable {P:Program} {w:World} {K:PySem.W.Frag} {mg:Str → Option Value} {base:Heap}
theorem bootDict:bootBuiltins "dict" = some (.type "dict"):=by decide +kernel
theorem scInit:FnScope ["self","kinds","funs"] ["self","kinds","funs"] (defScope sInit):=⟨rfl,rfl,rfl,by decide +kernel,rfl,by decide +kernel,by decide +kernel⟩
end
end K24
namespace K24
open PySem L2 Kk
noncomputable def wordG (a q:Int):Str :=
  if inV (V.str (Txt.slice (Txt.mul ⟨#[chF (q % 26)]⟩ (1 + a)) none (some (q / 26 % (1 + a))) ++ ⟨#[chF (q / 312 % 26)]⟩ ++ Txt.slice (Txt.mul ⟨#[chF (q % 26)]⟩ (1 + a)) (some (q / 26 % (1 + a) + 1)) none)) (noWords.map V.str) = true
  then (Txt.slice (Txt.mul ⟨#[chF (q % 26)]⟩ (1 + a)) none (some (q / 26 % (1 + a))) ++ ⟨#[chF (q / 312 % 26)]⟩ ++ Txt.slice (Txt.mul ⟨#[chF (q % 26)]⟩ (1 + a)) (some (q / 26 % (1 + a) + 1)) none) ++ "x"
  else Txt.slice (Txt.mul ⟨#[chF (q % 26)]⟩ (1 + a)) none (some (q / 26 % (1 + a))) ++ ⟨#[chF (q / 312 % 26)]⟩ ++ Txt.slice (Txt.mul ⟨#[chF (q % 26)]⟩ (1 + a)) (some (q / 26 % (1 + a) + 1)) none
theorem wordF_G (c:Int):wordF c = wordG (c % 12) (c / 12 % 1000000007):=rfl
theorem nodupG:((List.range 26).map fun (q:Nat) => wordG 11 (q:Int)).Nodup:=by decide +kernel
theorem out_of {α:Type} [DecidableEq α]:∀ (ws l:List α),l.Nodup → ws.length < l.length → ∃ x ∈ l,x ∉ ws
  | [],[],_,h => absurd h (by simp)
  | [],x :: _,_,_ => ⟨x,.head _,fun h => nomatch h⟩
  | w :: ws,l,hn,hl => by
    have h1:ws.length < (l.erase w).length:=by
      have:=List.length_erase (a:=w) (l:=l)
      simp only [List.length_cons] at hl
      split at this <;> omega
    obtain ⟨x,hx,hw⟩:=out_of ws (l.erase w) (hn.erase w) h1
    have hx2:=(hn.mem_erase_iff.mp hx)
    exact ⟨x,hx2.2,fun z => (List.mem_cons.mp z).elim hx2.1 hw⟩
theorem fresh_word (ws:List Str) (hl:ws.length ≤ 25) (c:Int):∃ J:Nat,wordF (c + (J:Int)) ∉ ws:=by
  obtain ⟨x,hx,hn⟩:=out_of ws _ nodupG (by rw [List.length_map,List.length_range]; omega)
  obtain ⟨q,hq,rfl⟩:=List.mem_map.mp hx
  have hq':=List.mem_range.mp hq
  have e1:∃ J:Nat,c + (J:Int) = 12 * (1000000007 * (c.natAbs:Int) + (q:Int)) + 11:=⟨(12 * (1000000007 * (c.natAbs:Int) + (q:Int)) + 11 - c).toNat,by omega⟩
  obtain ⟨J,e⟩:=e1
  refine ⟨J,?_⟩
  rw [wordF_G,e]
  have e2:(12 * (1000000007 * (c.natAbs:Int) + (q:Int)) + 11) % 12 = 11:=by omega
  have e3:(12 * (1000000007 * (c.natAbs:Int) + (q:Int)) + 11) / 12 % 1000000007 = (q:Int):=by omega
  rw [e2,e3]
  exact hn
noncomputable def smW (z:Str):Prop:=PyData.strOk z = true ∧ z.length ≤ 14
theorem smW_word (c:Int):smW (wordF c):=⟨word_ok c,by have:=(word_len c).2; omega⟩
section
variable {P:Program} {w:World} {K:PySem.W.Frag} {mg:Str → Option Value} {base:Heap}
theorem flat_strs (ws:List Str):(ws.map V.str).all flatV = true:=by
  induction ws with
  | nil => rfl
  | cons z ws ih =>
    rw [List.map_cons,List.all_cons,ih]
    rfl
end
end K24
namespace K24
open PySem L2 Kk
section
variable {P:Program} {w:World} {K:PySem.W.Frag} {mg:Str → Option Value} {base:Heap}
theorem kds_get {H:Hp}:∀ {xs:List V} {ks:List Kd},KdsAt K H xs ks → ∀ {i:Nat} {x:V},xs[i]? = some x → ∃ k,ks[i]? = some k ∧ KdAt K H x k
  | _,_,.nil,i,x,h => by simp at h
  | _,_,.cons a t,0,x,h => by
    simp at h
    subst h
    exact ⟨_,rfl,a⟩
  | _,_,.cons a t,i + 1,x,h => by
    simp at h
    obtain ⟨k,hk,r⟩:=kds_get t h
    exact ⟨k,by simpa using hk,r⟩
end
end K24
namespace K24
open PySem L2 Kk
section
variable {P:Program} {w:World} {K:PySem.W.Frag} {mg:Str → Option Value} {base:Heap}
end
end K24
namespace K24
open PySem L2 Kk
noncomputable def spInitF (CF:Addr):Sp:=fun vs H Q _ => ∃ (p dx a b:Addr) (kvs fvs:List (Key × V)),vs = [.ref p,.ref a,.ref b] ∧ H p = some (.ins CF dx []) ∧ H a = some (.dK kvs) ∧ H b = some (.dK fvs) ∧
  ∀ (d e:Addr) (fs:List (Str × V)) (H':Hp),H d = none → H e = none → d ≠ e → H' p = some (.ins CF dx fs) → fs.lookup ("kinds":Str) = some (.ref d) → fs.lookup ("funs":Str) = some (.ref e) → fs.lookup ("hidden":Str) = none → fs.lookup ("put":Str) = none → H' d = some (.dK kvs) → H' e = some (.dK fvs) → (∀ c o,H c = some o → c ≠ p → H' c = some o) → Q .non H'
section
variable {P:Program} {w:World} {K:PySem.W.Frag} {mg:Str → Option Value} {base:Heap}
theorem ok_initF {f CF:Addr} {fd:FuncData} (F:Fun K "__init__" "Face.__init__" sInit f fd) (cF:Cls K CF) (nK:NoAttr K CF "kinds") (nF:NoAttr K CF "funs") (md:mg "dict" = none):FnOk P w K mg base CX0 1 f fd ["self","kinds","funs"] (spInitF CF):=by
  refine F.ok scInit (fun vs H Q E h => ?_) (fun cdv A outer s H vs Q E hr h => ?_)
  · obtain ⟨p,dx,a,b,kvs,fvs,rfl,_⟩:=h
    rfl
  obtain ⟨p,dx,a,b,kvs,fvs,rfl,hp,ha,hb,q⟩:=h
  refine ⟨_,pss_cons (ps_fld (pv 0) (pe_callTy call_dict_dK rfl md bootDict (pa_cons (pv 1) pa_nil)) rfl) (pss_one (ps_fld (pv 0) (pe_callTy call_dict_dK rfl md bootDict (pa_cons (pv 2) pa_nil)) rfl)),?_⟩
  refine ⟨_,rfl,a,kvs,rfl,ha,fun d hd => ?_⟩
  have npd:p ≠ d:=ne_of_none hp hd
  refine ⟨_,rfl,p,CF,dx,[],rfl,(by rw [upd_ne npd]; exact hp),cF,nK,(by show 0 < 1000; decide),?_⟩
  have hb1:upd (upd H d (.dK kvs)) p (.ins CF dx (putF "kinds" (.ref d) [])) b = some (.dK fvs):=by
    rw [upd_ne (ne_of hb hp (by intro z; cases z)),upd_ne (ne_of_none hb hd)]
    exact hb
  refine ⟨_,rfl,b,fvs,rfl,hb1,fun e he => ?_⟩
  have npe:p ≠ e:=fun z => by rw [← z,upd_same] at he; cases he
  have nde:d ≠ e:=fun z => by rw [← z,upd_ne npd.symm,upd_same] at he; cases he
  have he0:H e = none:=by
    rw [upd_ne npe.symm,upd_ne nde.symm] at he
    exact he
  refine ⟨_,rfl,p,CF,dx,_,rfl,(by rw [upd_ne npe]; exact upd_same),cF,nF,(by show 1 < 1000; decide),?_⟩
  refine q d e _ _ hd he0 nde upd_same (by rw [lookup_putF,if_neg kf',lookup_putF,if_pos rfl]) (by rw [lookup_putF,if_pos rfl]) (by rw [lookup_putF,if_neg (by decide +kernel),lookup_putF,if_neg (by decide +kernel)]; rfl) (by rw [lookup_putF,if_neg (by decide +kernel),lookup_putF,if_neg (by decide +kernel)]; rfl) ?_ ?_ fun c o ec hc => ?_
  · rw [upd_ne npd.symm,upd_ne nde,upd_ne npd.symm,upd_same]
  · rw [upd_ne npe.symm,upd_same]
  · have hce:c ≠ e:=fun z => by
      rw [z] at ec hc
      rw [he0] at ec
      cases ec
    rw [upd_ne hc,upd_ne hce,upd_ne hc,upd_ne (ne_of_none ec hd)]
    exact ec
end
end K24
namespace K24
open PySem L2 Kk
noncomputable def PkAt {α:Type} (R:V → α → Prop) (kvs:List (Key × V)) (m:List (Str × α)):Prop:=Paired (fun (p:Key × V) (q:Str × α) => p.1 = .inr q.1 ∧ R p.2 q.2) kvs m
theorem PkAt.snoc {α:Type} {R:V → α → Prop} {kvs:List (Key × V)} {m:List (Str × α)} {z:Str} {v:V} {x:α} (h:PkAt R kvs m) (hv:R v x):PkAt R (kvs ++ [(.inr z,v)]) (m ++ [(z,x)]):=by
  unfold PkAt at h ⊢
  induction h with
  | nil => exact .cons ⟨rfl,hv⟩ .nil
  | cons a _ ih => exact .cons a ih
theorem PkAt.imp {α:Type} {R S:V → α → Prop} {kvs:List (Key × V)} {m:List (Str × α)} (f:∀ v x,R v x → S v x) (h:PkAt R kvs m):PkAt S kvs m:=Paired.mapP h fun _ _ ⟨e,r⟩ => ⟨e,f _ _ r⟩
theorem PkAt.keys {α:Type} {R:V → α → Prop} {kvs:List (Key × V)} {m:List (Str × α)} (h:PkAt R kvs m):kvs.map (·.1) = m.map fun q => (Sum.inr q.1:Key):=by
  unfold PkAt at h
  induction h with
  | nil => rfl
  | cons a _ ih => rw [List.map_cons,List.map_cons,ih,a.1]
theorem valV_out {kvs:List (Key × V)} {k:Key} (h:k ∉ kvs.map (·.1)):valV kvs k = none:=by
  cases e:valV kvs k with
  | none => rfl
  | some v =>
    exfalso
    apply h
    unfold valV at e
    obtain ⟨p,hp,_⟩:=Option.map_eq_some_iff.mp e
    have h1:=List.mem_of_find?_eq_some hp
    have h2:=List.find?_some hp
    have h3:p.1 = k:=by simpa using h2
    rw [← h3]
    exact List.mem_map_of_mem h1
theorem PkAt.put {α:Type} {R:V → α → Prop} {kvs:List (Key × V)} {m:List (Str × α)} {z:Str} {v:V} {x:α} (h:PkAt R kvs m) (hz:z ∉ m.map (·.1)) (hv:R v x):PkAt R (putK kvs (.inr z) v) (m ++ [(z,x)]):=by
  rw [putK_new v (valV_out ?_)]
  · exact h.snoc hv
  · rw [h.keys]
    intro hm
    obtain ⟨q,hq,e⟩:=List.mem_map.mp hm
    exact hz (by rw [← Sum.inr.inj e]; exact List.mem_map_of_mem hq)
noncomputable def FunAt (K:PySem.W.Frag) (H:Hp) (v:V) (f:List Kd × Kd):Prop:=∃ (p ta:Addr) (x:V) (xs:List V),v = .ref p ∧ SqT K H p [.ref ta,x] ∧ SqT K H ta xs ∧ KdsAt K H xs f.1 ∧ KdAt K H x f.2
theorem FunAt.keep {K:PySem.W.Frag} {H H':Hp} {v:V} {f:List Kd × Kd} (e:∀ a xs,SqT K H a xs → SqT K H' a xs) (h:FunAt K H v f):FunAt K H' v f:=by
  obtain ⟨p,ta,x,xs,h1,h2,h3,h4,h5⟩:=h
  exact ⟨p,ta,x,xs,h1,e _ _ h2,e _ _ h3,kds_keep e h4,kd_keep e h5⟩
end K24
namespace K24
open PySem L2 Kk
theorem sqt_dk {H:Hp} {l a:Addr} {kvs:List (Key × V)} {xs:List V} {o:HO} (h:H l = some (.dK kvs)) (t:SqT K H a xs):SqT K (upd H l o) a xs:=by
  rcases t with (t | ⟨o',t⟩) | t
  · exact .inl (.inl (by rw [upd_ne (fun e => by rw [e,h] at t; cases t)]; exact t))
  · exact .inl (.inr ⟨o',by rw [upd_ne (fun e => by rw [e,h] at t; cases t)]; exact t⟩)
  · exact .inr t
end K24
namespace K24
open PySem L2 Kk
noncomputable def Kd.dat:Kd → PyData
  | .num n => .tuple [.str "num",.int n]
  | .name q t => .tuple [.str "name",.str q,.str t]
  | .pair a b => .tuple [.str "pair",Kd.dat a,Kd.dat b]
theorem kd_dat {K:PySem.W.Frag} {H:Hp}:∀ {x:V} {k:Kd},KdAt K H x k → Dat K H x (Kd.dat k)
  | _,_,.num t => .tup t (.cons (.str _) (.cons (.int _) .nil))
  | _,_,.name t => .tup t (.cons (.str _) (.cons (.str _) (.cons (.str _) .nil)))
  | _,_,.pair t a b => .tup t (.cons (.str _) (.cons (kd_dat a) (.cons (kd_dat b) .nil)))
theorem eqv_tup (xs ys:List PyData):PyData.eqv (.tuple xs) (.tuple ys) = PyData.eqvAll xs ys:=by simp [PyData.eqv]
theorem eqvA_cons (x y:PyData) (xs ys:List PyData):PyData.eqvAll (x :: xs) (y :: ys) = (PyData.eqv x y && PyData.eqvAll xs ys):=by simp [PyData.eqvAll]
theorem eqv_str (x y:Str):PyData.eqv (.str x) (.str y) = decide (x = y):=by
  rw [show PyData.eqv (.str x) (.str y) = (x == y) by simp [PyData.eqv]]
  rfl
theorem lay_kd:∀ {k:Kd},Kd.ok k → PyData.canLay0 (Kd.dat k) = true
  | .num n,_ => by
    have h:PyData.strOk "num" = true:=by decide +kernel
    simp [Kd.dat,PyData.canLay0,PyData.canLayAll0,h]
  | .name q t,⟨h1,h2⟩ => by
    have h:PyData.strOk "name" = true:=by decide +kernel
    simp [Kd.dat,PyData.canLay0,PyData.canLayAll0,h,h1.1,h2.1]
  | .pair a b,⟨h1,h2⟩ => by
    have h:PyData.strOk "pair" = true:=by decide +kernel
    simp [Kd.dat,PyData.canLay0,PyData.canLayAll0,h,lay_kd h1,lay_kd h2]
theorem deep_kd:∀ k:Kd,PyData.depth (Kd.dat k) ≤ Kd.depth k
  | .num n => by simp [Kd.dat,PyData.depth,PyData.depthAll,Kd.depth]
  | .name q t => by simp [Kd.dat,PyData.depth,PyData.depthAll,Kd.depth]
  | .pair a b => by
    have h1:=deep_kd a
    have h2:=deep_kd b
    simp only [Kd.dat,PyData.depth,PyData.depthAll,Kd.depth]
    omega
theorem depth_words:∀ k:Kd,Kd.depth k ≤ k.words
  | .num n => Nat.le_refl _
  | .name q t => Nat.le_refl _
  | .pair a b => by
    have h1:=depth_words a
    have h2:=depth_words b
    simp only [Kd.depth,Kd.words]
    omega
noncomputable def ownK (z:Str):Kd:=.name "" z
noncomputable def spOwn (K:PySem.W.Frag):Sp:=fun vs H Q _ => ∃ z:Str,vs = [.str z] ∧ ∀ H' x,Same H H' → KdAt K H' x (ownK z) → Q x H'
section
variable {P:Program} {w:World} {K:PySem.W.Frag} {mg:Str → Option Value} {base:Heap}
theorem scOwn:FnScope ["word"] ["word"] (defScope sOwn):=⟨rfl,rfl,rfl,by decide +kernel,rfl,by decide +kernel,by decide +kernel⟩
theorem ok_own {f:Addr} {fd:FuncData} (F:Fun K "own_name" "own_name" sOwn f fd):FnOk P w K mg base CX0 1 f fd ["word"] (spOwn K):=by
  refine F.ok scOwn (fun vs H Q E h => ?_) (fun cdv A outer s H vs Q E hr h => ?_)
  · obtain ⟨z,rfl,_⟩:=h
    rfl
  obtain ⟨z,rfl,q⟩:=h
  refine ⟨_,pss_one (ps_ret (pe_tup (pa_cons pe_str (pa_cons pe_str (pa_cons (pv 0) pa_nil))))),?_⟩
  exact ⟨_,rfl,(by show 3 ≤ sizeLine; decide),fun p hp => q _ _ (same_new hp _) (.name (SqT.of upd_same))⟩
end
end K24
namespace K24
open PySem L2 Kk
noncomputable def Kd.sm:Kd → Prop
  | .num n => 0 ≤ n ∧ n ≤ 10 ^ 18
  | .name q t => (PyData.strOk q = true ∧ q.length ≤ 14) ∧ PyData.strOk t = true ∧ t.length ≤ 14
  | .pair a b => Kd.sm a ∧ Kd.sm b
theorem sm_ok:∀ {k:Kd},Kd.sm k → Kd.ok k
  | .num _,_ => True.intro
  | .name _ _,⟨⟨a,b⟩,c,d⟩ => ⟨⟨a,by omega⟩,c,by omega⟩
  | .pair _ _,⟨a,b⟩ => ⟨sm_ok a,sm_ok b⟩
noncomputable def Fn.dat (f:List Kd × Kd):PyData:=.tuple [.tuple (f.1.map Kd.dat),Kd.dat f.2]
theorem kds_dat {K:PySem.W.Frag} {H:Hp}:∀ {xs:List V} {ks:List Kd},KdsAt K H xs ks → Dats K H xs (ks.map Kd.dat)
  | _,_,.nil => .nil
  | _,_,.cons h r => .cons (kd_dat h) (kds_dat r)
theorem fn_dat {K:PySem.W.Frag} {H:Hp} {v:V} {f:List Kd × Kd} (h:FunAt K H v f):Dat K H v (Fn.dat f):=by
  obtain ⟨p,ta,x,xs,rfl,h1,h2,h3,h4⟩:=h
  exact .tup h1 (.cons (.tup h2 (kds_dat h3)) (.cons (kd_dat h4) .nil))
end K24
namespace K24
open PySem L2 Kk
section
variable {P:Program} {w:World} {K:PySem.W.Frag} {mg:Str → Option Value} {base:Heap}
end
noncomputable def look {α:Type} (m:List (Str × α)) (z:Str):Option α:=(m.find? fun q => decide (q.1 = z)).map (·.2)
theorem look_val {α:Type} {R:V → α → Prop}:∀ {kvs:List (Key × V)} {m:List (Str × α)},PkAt R kvs m → ∀ z:Str,(valV kvs (.inr z) = none ∧ look m z = none) ∨ ∃ v x,valV kvs (.inr z) = some v ∧ look m z = some x ∧ R v x
  | _,_,.nil,z => .inl ⟨rfl,rfl⟩
  | p :: ps,q :: qs,.cons ⟨h1,h2⟩ r,z => by
    unfold look valV
    rw [List.find?_cons,List.find?_cons]
    by_cases e:q.1 = z
    · rw [decide_eq_true (show p.1 = Sum.inr z by rw [h1,e]),decide_eq_true e]
      exact .inr ⟨_,_,rfl,rfl,h2⟩
    · rw [decide_eq_false (show ¬ p.1 = Sum.inr z by rw [h1]; exact fun z' => e (Sum.inr.inj z')),decide_eq_false e]
      exact look_val r z
noncomputable def putFn (G:Str × Str → Option Kd) (f:List Kd × Kd):List Kd × Kd:=(f.1.map (Kd.put G),Kd.put G f.2)
structure FaceA (K:PySem.W.Frag) (H:Hp) (CF fa:Addr) (dx d1 d2:Addr) (fs:List (Str × V)) (kv1 kv2:List (Key × V)) (m1:List (Str × Kd)) (m2:List (Str × (List Kd × Kd))):Prop where
  obj:H fa = some (.ins CF dx fs)
  fk:fs.lookup ("kinds":Str) = some (.ref d1)
  ff:fs.lookup ("funs":Str) = some (.ref d2)
  h1:H d1 = some (.dK kv1)
  h2:H d2 = some (.dK kv2)
  p1:PkAt (KdAt K H) kv1 m1
  p2:PkAt (FunAt K H) kv2 m2
  nh:fs.lookup ("hidden":Str) = none
  np:fs.lookup ("put":Str) = none
structure Walk (K:PySem.W.Frag) (H H3:Hp) (d:Addr) (o:Obj) (kv:List (Key × V)):Prop where
  old:∀ b u,H b = some u → b ≠ d → H3 b = some u
  fz:H3 d = some (.frz o (.dK kv))
  tup:∀ a xs,SqT K H a xs → SqT K H3 a xs
end K24
namespace K24
open PySem L2 Kk
noncomputable def SmK (q:Str × Kd):Prop:=(PyData.strOk q.1 = true ∧ q.1.length ≤ 14) ∧ Kd.sm q.2 ∧ q.2.words ≤ 60 ∧ Kd.depth q.2 ≤ 20
noncomputable def SmF (q:Str × (List Kd × Kd)):Prop:=(PyData.strOk q.1 = true ∧ q.1.length ≤ 14) ∧ q.2.1.length ≤ 4 ∧ ∀ k ∈ q.2.2 :: q.2.1,Kd.sm k ∧ k.words ≤ 60 ∧ Kd.depth k ≤ 20
section
variable {P:Program} {w:World} {K:PySem.W.Frag} {mg:Str → Option Value} {base:Heap}
end
end K24
namespace K24
open PySem L2 Kk
theorem GvAt.keep {K:PySem.W.Frag} {H H':Hp} {kvs:List (List Key × V)} {G:Str × Str → Option Kd} (e:∀ a xs,SqT K H a xs → SqT K H' a xs) (h:GvAt K H kvs G):GvAt K H' kvs G:=fun nn => by
  rcases h nn with h | ⟨v,k',h1,h2,h3⟩
  · exact .inl h
  · exact .inr ⟨v,k',h1,h2,kd_keep e h3⟩
section
variable {P:Program} {w:World} {K:PySem.W.Frag} {mg:Str → Option Value} {base:Heap}
end
end K24
namespace K24
open PySem L2 Kk
section
variable {P:Program} {w:World} {K:PySem.W.Frag} {mg:Str → Option Value} {base:Heap}
end
end K24
namespace K24
open PySem L2 Kk
section
variable {P:Program} {w:World} {K:PySem.W.Frag} {mg:Str → Option Value} {base:Heap}
end
end K24
namespace K24
open PySem L2 Kk
noncomputable def FaceN (K:PySem.W.Frag) (H0 H:Hp) (CF fa:Addr) (m1:List (Str × Kd)) (m2:List (Str × (List Kd × Kd))):Prop :=
  ∃ (dx d1 d2:Addr) (fs:List (Str × V)) (kv1 kv2:List (Key × V)),H0 d1 = none ∧ H0 d2 = none ∧ d1 ≠ d2 ∧ H fa = some (.ins CF dx fs) ∧ fs.lookup ("kinds":Str) = some (.ref d1) ∧ fs.lookup ("funs":Str) = some (.ref d2) ∧ H d1 = some (.dK kv1) ∧ H d2 = some (.dK kv2) ∧ PkAt (KdAt K H) kv1 m1 ∧ PkAt (FunAt K H) kv2 m2 ∧ fs.lookup ("hidden":Str) = none ∧ fs.lookup ("put":Str) = none
section
variable {P:Program} {w:World} {K:PySem.W.Frag} {mg:Str → Option Value} {base:Heap}
end
end K24
namespace K24
open PySem L2 Kk
section
variable {P:Program} {w:World} {K:PySem.W.Frag} {mg:Str → Option Value} {base:Heap}
noncomputable def spBounded (K:PySem.W.Frag) (CT:Addr):Sp:=fun vs H Q E => ∃ (x:V) (k:Kd) (m:Int),vs = [x,.int m] ∧ KdAt K H x k ∧ k.words ≤ 900 ∧ 0 ≤ m ∧ m ≤ 1000000 ∧
  ∀ H',Same H H' → if (k.words:Int) > m then E (.ref CT) none H' else Q x H'
theorem scBounded:FnScope ["kind","most","words"] ["kind","most"] (defScope sBounded):=⟨rfl,rfl,rfl,by decide +kernel,rfl,by decide +kernel,by decide +kernel⟩
theorem ok_bounded {f fw CT:Addr} {fd fdw:FuncData} (F:Fun K "bounded" "bounded" sBounded f fd) (GW:FnOk P w K mg base CX0 1 fw fdw ["kind"] (spWords K)) (bW:Binds K fdw ["kind"] []) (kW:PySem.W.keepIn K (.ref fw) = true) (mW:mg "words_in" = some (.ref fw))
    (mT:mg "TooBig" = some (.ref CT)) (xT:PySem.W.excIn K CT bmVE "ValueError.__new__" = true):FnOk P w K mg base (CX1 P w) 2 f fd ["kind","most"] (spBounded K CT):=by
  refine F.okX scBounded (fun vs H Q E h => ?_) (fun cdv A outer s H vs Q E hr h => ?_)
  · obtain ⟨x,k,m,rfl,_⟩:=h
    rfl
  obtain ⟨x,k,m,rfl,hk,h9,m0,m1,q⟩:=h
  refine ⟨_,pss_cons (ps_set (i:=2) scBounded.nd rfl (Or.inl rfl) (pe_call GW hr rfl mW kW bW .nil pass0 (pa_cons (pv 0) pa_nil)))
    (pss_cons (ps_if (pt_cmpR op_gt (pv 2) (pv 1) (nomark _))
      (pss_one (ps_raise1 rfl mT xT (pa_cons (pe_fstr (pj_cons pe_str (pj_cons (pe_fv (pv 2)) (pj_cons pe_str (pj_cons (pe_fv (pv 1)) (pj_cons pe_str pj_nil))))) (by decide)) pa_nil))) pss_nil)
    (pss_one (ps_ret (pv 0)))),?_⟩
  refine ⟨_,rfl,x,k,rfl,hk,h9,fun H1 s1 => ?_⟩
  have q1:=q H1 s1
  refine ⟨_,rfl,_,rfl,_,_,rfl,rfl,_,rfl,?_⟩
  refine ite2 (fun c => ?_) (fun c => ?_)
  · have c':(k.words:Int) > m:=of_decide_eq_true c
    rw [if_pos c'] at q1
    have l9:(0:Int) ≤ (k.words:Int) ∧ (k.words:Int) ≤ 1000000:=⟨by omega,by omega⟩
    refine ⟨_,rfl,by decide +kernel,_,rfl,.inr ⟨_,rfl,log_small l9.1 l9.2,_,rfl,Nat.le_trans (txt_small l9.1 l9.2) (by decide),_,rfl,by decide +kernel,_,rfl,.inr ⟨_,rfl,log_small m0 m1,_,rfl,Nat.le_trans (txt_small m0 m1) (by decide),_,rfl,by decide +kernel,fun z hz => ⟨(by show 1 ≤ sizeLine; decide),q1⟩⟩⟩⟩
  · have c':¬ (k.words:Int) > m:=fun z => c (decide_eq_true z)
    rw [if_neg c'] at q1
    exact ⟨_,rfl,q1⟩
end
end K24
namespace K24
open PySem L2 Kk
noncomputable def KvAt (K:PySem.W.Frag) (H:Hp) (kvs:List (Key × V)) (g:Str → Option Kd):Prop :=
  ∀ t,(valV kvs (.inr t) = none ∧ g t = none) ∨ ∃ v k,valV kvs (.inr t) = some v ∧ g t = some k ∧ KdAt K H v k
theorem KvAt.same {K:PySem.W.Frag} {H H':Hp} {kvs:List (Key × V)} {g:Str → Option Kd} (e:Same H H') (h:KvAt K H kvs g):KvAt K H' kvs g:=fun n => by
  rcases h n with h | ⟨v,k,h1,h2,h3⟩
  · exact .inl h
  · exact .inr ⟨v,k,h1,h2,h3.same e⟩
noncomputable def FaceTold (K:PySem.W.Frag) (H:Hp) (CF:Addr) (v:V) (g:Str → Option Kd):Prop :=
  ∃ a dx fs d kvs,v = .ref a ∧ H a = some (.ins CF dx fs) ∧ fs.lookup ("kinds":Str) = some (.ref d) ∧ H d = some (.dK kvs) ∧ KvAt K H kvs g
theorem FaceTold.same {K:PySem.W.Frag} {H H':Hp} {CF:Addr} {v:V} {g:Str → Option Kd} (e:Same H H') (h:FaceTold K H CF v g):FaceTold K H' CF v g:=by
  obtain ⟨a,dx,fs,d,kvs,h1,h2,h3,h4,h5⟩:=h
  exact ⟨a,dx,fs,d,kvs,h1,e _ _ h2,h3,e _ _ h4,h5.same e⟩
noncomputable def PartsAt (K:PySem.W.Frag) (H:Hp) (CF:Addr) (kvs:List (Key × V)) (PG:Str → Option (Str → Option Kd)):Prop :=
  ∀ q,(valV kvs (.inr q) = none ∧ PG q = none) ∨ ∃ v g,valV kvs (.inr q) = some v ∧ PG q = some g ∧ FaceTold K H CF v g
theorem PartsAt.same {K:PySem.W.Frag} {H H':Hp} {CF:Addr} {kvs:List (Key × V)} {PG:Str → Option (Str → Option Kd)} (e:Same H H') (h:PartsAt K H CF kvs PG):PartsAt K H' CF kvs PG:=fun n => by
  rcases h n with h | ⟨v,g,h1,h2,h3⟩
  · exact .inl h
  · exact .inr ⟨v,g,h1,h2,h3.same e⟩
noncomputable def tell (OG:Str → Option Kd) (PG:Str → Option (Str → Option Kd)) (n:Str × Str):Option Kd:=if n.1 = "" then OG n.2 else (PG n.1).bind fun g => g n.2
noncomputable def Told (o:Option Kd) (K:PySem.W.Frag) (H:Hp) (Q:VK) (X:Prop):Prop:=(o = none ∧ X) ∨ ∃ k,o = some k ∧ ∀ v,KdAt K H v k → Q v H
noncomputable def spToldKind (K:PySem.W.Frag) (CF CN:Addr):Sp:=fun vs H Q E => ∃ (q t:Str) (o p:Addr) (okv pkv:List (Key × V)) (OG:Str → Option Kd) (PG:Str → Option (Str → Option Kd)),
  vs = [.str q,.str t,.ref o,.ref p] ∧ okW q ∧ okW t ∧ H o = some (.dK okv) ∧ KvAt K H okv OG ∧ H p = some (.dK pkv) ∧ PartsAt K H CF pkv PG ∧ Told (tell OG PG (q,t)) K H Q (E (.ref CN) none H)
section
variable {P:Program} {w:World} {K:PySem.W.Frag} {mg:Str → Option Value} {base:Heap}
theorem scToldKind:FnScope ["part","word","own","parts","kinds"] ["part","word","own","parts"] (defScope sToldKind):=⟨rfl,rfl,rfl,by decide +kernel,rfl,by decide +kernel,by decide +kernel⟩
theorem ok_toldKind {f CF CN:Addr} {fd:FuncData} (F:Fun K "told_kind" "told_kind" sToldKind f fd) (cF:Cls K CF) (nF:NoAttr K CF "kinds") (mN:mg "NoKind" = some (.ref CN)) (xN:PySem.W.excIn K CN bmVE "ValueError.__new__" = true) :
    FnOk P w K mg base (CX1 P w) 1 f fd ["part","word","own","parts"] (spToldKind K CF CN):=by
  refine F.okX scToldKind (fun vs H Q E h => ?_) (fun cdv A outer s H vs Q E hr h => ?_)
  · obtain ⟨q,t,o,p,okv,pkv,OG,PG,rfl,_⟩:=h
    rfl
  obtain ⟨q,t,o,p,okv,pkv,OG,PG,rfl,hq,ht,ho,hO,hp,hP,hT⟩:=h
  have hu:=hu_of hr
  have lq:q.length ≤ 100000:=Nat.le_trans hq.2 (by decide)
  have lt:t.length ≤ 100000:=Nat.le_trans ht.2 (by decide)
  have zq:q.length ≤ sizeLine:=Nat.le_trans lq (by decide)
  have zt:t.length ≤ sizeLine:=Nat.le_trans lt (by decide)
  obtain ⟨u1,d1,k1⟩:∃ t',PSs (cxOf (CX1 P w) P w K mg base ["part","word","own","parts","kinds"] "told_kind" (defScope sToldKind) f cdv A outer s H E) (List.drop 1 (defBody sToldKind)) t' ∧
      ∀ (d:Addr) (kvs:List (Key × V)) (g:Str → Option Kd),H d = some (.dK kvs) → KvAt K H kvs g → Told (g t) K H Q (E (.ref CN) none H) →
        t' { nx:=fun _ H' => Q .non H',rt:=Q } [some (.str q),some (.str t),some (.ref o),some (.ref p),some (.ref d)] H:=by
    refine ⟨_,pss_cons (ps_if (pt_cmp (pc_dnotin hu (pv 1) (pv 4)) (by with_unfolding_all rfl))
        (pss_one (ps_raise1 rfl mN xN (pa_cons (pe_fstr (pj_cons pe_str (pj_cons (pe_fr (pv 1)) (pj_cons pe_str (pj_cons (pe_fr (pv 0)) pj_nil)))) (by decide)) pa_nil))) pss_nil)
      (pss_one (ps_ret (pe_dget hu (pv 4) (pv 1) (fun _ _ => rfl)))),?_⟩
    intro d kvs g hd hg hT
    refine ⟨_,rfl,_,rfl,d,_,rfl,DGet.k (k:=.inr t) hd,_,rfl,?_⟩
    rcases hg t with ⟨h1,h2⟩ | ⟨v,k,h1,h2,h3⟩
    · rw [h1]
      rcases hT with ⟨_,hE⟩ | ⟨k,hk,_⟩
      · refine iteT ⟨_,rfl,by decide +kernel,_,rfl,t,rfl,ht.1,ht.2,fun z hz => ⟨z,rfl,Nat.le_trans hz (by decide),_,rfl,by decide +kernel,_,rfl,q,rfl,hq.1,hq.2,fun z2 hz2 => ⟨z2,rfl,Nat.le_trans hz2 (by decide),fun z3 hz3 => ⟨(by show 1 ≤ sizeLine; decide),hE⟩⟩⟩⟩
      · rw [h2] at hk
        cases hk
    · rw [h1]
      rcases hT with ⟨hn,_⟩ | ⟨k',hk,hQ⟩
      · rw [h2] at hn
        cases hn
      · rw [h2] at hk
        cases hk
        exact iteF ⟨_,rfl,_,rfl,d,v,rfl,h1 ▸ DGet.k (k:=.inr t) hd,hQ v h3⟩
  refine ⟨_,pss_cons (ps_if (pt_cmpR op_eq (pv 0) pe_str (nomark _)) (pss_one (ps_set (i:=4) scToldKind.nd rfl (Or.inl rfl) (pv 2)))
      (pss_one (ps_if (pt_cmp (pc_din hu (pv 0) (pv 3)) (by with_unfolding_all rfl)) (pss_one (ps_set (i:=4) scToldKind.nd rfl (Or.inl rfl) (pe_fld (pe_dget hu (pv 3) (pv 0) (fun _ _ => rfl)) rfl)))
        (pss_one (ps_raise1 rfl mN xN (pa_cons (pe_fstr (pj_cons pe_str (pj_cons (pe_fv (pv 0)) (pj_cons pe_str (pj_cons (pe_fv (pv 0)) (pj_cons pe_str (pj_cons (pe_fv (pv 1)) pj_nil)))))) (by decide)) pa_nil)))))) d1,?_⟩
  refine ⟨_,rfl,rfl,_,rfl,?_⟩
  refine ite2 (fun c => ?_) (fun c => ?_)
  · have c':V.str q = V.str "":=of_decide_eq_true c
    have e:q = "":=by injection c'
    have hT':Told (OG t) K H Q (E (.ref CN) none H):=by
      unfold tell at hT
      rw [if_pos e] at hT
      exact hT
    exact ⟨_,rfl,k1 o okv OG ho hO hT'⟩
  · have c':¬ q = "":=fun e => c (decide_eq_true (by rw [e]))
    have hT':Told ((PG q).bind fun g => g t) K H Q (E (.ref CN) none H):=by
      unfold tell at hT
      rw [if_neg c'] at hT
      exact hT
    refine ⟨_,rfl,_,rfl,p,_,rfl,DGet.k (k:=.inr q) hp,_,rfl,?_⟩
    rcases hP q with ⟨h1,h2⟩ | ⟨v,g,h1,h2,h3⟩
    · rw [h1]
      rw [h2] at hT'
      rcases hT' with ⟨_,hE⟩ | ⟨k,hk,_⟩
      · refine iteF ⟨_,rfl,by decide +kernel,_,rfl,.inl ⟨q,rfl,zq,q,rfl,Nat.le_trans lq (by decide),_,rfl,by decide +kernel,_,rfl,.inl ⟨q,rfl,zq,q,rfl,Nat.le_trans lq (by decide),_,rfl,by decide +kernel,_,rfl,.inl ⟨t,rfl,zt,t,rfl,Nat.le_trans lt (by decide),fun z3 hz3 => ⟨(by show 1 ≤ sizeLine; decide),hE⟩⟩⟩⟩⟩
      · cases hk
    · rw [h1]
      rw [h2] at hT'
      obtain ⟨a,dx,fs,d,kvs,rfl,h4,h5,h6,h7⟩:=h3
      exact iteT ⟨_,rfl,_,rfl,p,.ref a,rfl,h1 ▸ DGet.k (k:=.inr q) hp,a,CF,dx,fs,_,rfl,h4,cF,nF,h5,k1 d kvs g h6 h7 hT'⟩
end
end K24
namespace K24
open PySem L2 Kk
theorem put_congr {G T:Str × Str → Option Kd}:∀ {k:Kd},(∀ n ∈ Kd.names k,G n = T n) → Kd.put G k = Kd.put T k
  | .num _,_ => rfl
  | .name q t,h => by
    show (G (q,t)).getD _ = (T (q,t)).getD _
    rw [h (q,t) (List.mem_singleton.mpr rfl)]
  | .pair a b,h => by
    show Kd.pair (Kd.put G a) (Kd.put G b) = Kd.pair (Kd.put T a) (Kd.put T b)
    rw [put_congr (k:=a) fun n hn => h n (List.mem_append_left _ hn),put_congr (k:=b) fun n hn => h n (List.mem_append_right _ hn)]
theorem addN_mem {acc:List (Str × Str)} {m n:Str × Str} (h:n ∈ acc ∨ n = m):n ∈ addN acc m:=by
  unfold addN
  split
  · rename_i hm
    rcases h with h | rfl
    · exact h
    · exact hm
  · rcases h with h | rfl
    · exact List.mem_append_left _ h
    · exact List.mem_append_right _ (List.mem_singleton.mpr rfl)
theorem firsts_mem:∀ {l acc:List (Str × Str)} {n:Str × Str},n ∈ acc ∨ n ∈ l → n ∈ firsts acc l
  | [],acc,n,h => h.elim id fun z => nomatch z
  | m :: l,acc,n,h => by
    refine firsts_mem (l:=l) (acc:=addN acc m) ?_
    rcases h with h | h
    · exact .inl (addN_mem (.inl h))
    · rcases List.mem_cons.mp h with h | h
      · exact .inl (addN_mem (.inr h))
      · exact .inr h
theorem mem_addN {acc:List (Str × Str)} {m n:Str × Str} (h:n ∈ addN acc m):n ∈ acc ∨ n = m:=by
  unfold addN at h
  split at h
  · exact .inl h
  · rcases List.mem_append.mp h with q | q
    · exact .inl q
    · exact .inr (List.mem_singleton.mp q)
theorem mem_firsts:∀ {l acc:List (Str × Str)} {n:Str × Str},n ∈ firsts acc l → n ∈ acc ∨ n ∈ l
  | [],acc,n,h => .inl h
  | m :: l,acc,n,h => by
    rcases mem_firsts (l:=l) (acc:=addN acc m) h with q | q
    · rcases mem_addN q with q | q
      · exact .inl q
      · exact .inr (q ▸ List.mem_cons_self)
    · exact .inr (List.mem_cons_of_mem _ q)
theorem firsts_len:∀ (l acc:List (Str × Str)),(firsts acc l).length ≤ acc.length + l.length
  | [],acc => Nat.le_refl _
  | m :: l,acc => by
    have h1:=firsts_len l (addN acc m)
    have h2:=addN_len acc m
    show (firsts (addN acc m) l).length ≤ acc.length + (l.length + 1)
    omega
theorem names_len:∀ k:Kd,(Kd.names k).length ≤ k.words
  | .num _ => Nat.zero_le _
  | .name _ _ => Nat.le_refl _
  | .pair a b => by
    have h1:=names_len a
    have h2:=names_len b
    show (Kd.names a ++ Kd.names b).length ≤ 1 + a.words + b.words
    rw [List.length_append]
    omega
theorem paired_get {H:Hp}:∀ {dn:List (Str × Str)} {as:List Addr} {i:Nat} {b:Addr},Paired (fun (n:Str × Str) (a:Addr) => H a = some (.tup [.str n.1,.str n.2])) dn as → as[i]? = some b → ∃ n:Str × Str,dn[i]? = some n ∧ H b = some (.tup [.str n.1,.str n.2])
  | _,_,_,_,.nil,e => by simp at e
  | _,_,0,_,.cons a _,e => by
    obtain rfl:=Option.some.inj e
    exact ⟨_,rfl,a⟩
  | _,_,i + 1,_,.cons _ r,e => paired_get (i:=i) r e
theorem gv_put {K:PySem.W.Frag} {H:Hp} {kvs:List (List Key × V)} {G:Str × Str → Option Kd} {n:Str × Str} {v:V} {k:Kd} (h:GvAt K H kvs G) (hv:KdAt K H v k):GvAt K H (putK kvs (keyN n) v) (fun m => if m = n then some k else G m):=fun m => by
  by_cases e:m = n
  · subst e
    exact .inr ⟨v,k,by rw [valV_put,if_pos rfl],if_pos rfl,hv⟩
  · have e2:keyN m ≠ keyN n:=fun z => e (keyN_inj z)
    rcases h m with ⟨h1,h2⟩ | ⟨v',k',h1,h2,h3⟩
    · exact .inl ⟨by rw [valV_put,if_neg e2]; exact h1,(if_neg e).trans h2⟩
    · exact .inr ⟨v',k',by rw [valV_put,if_neg e2]; exact h1,(if_neg e).trans h2,h3⟩
noncomputable def spNormal (K:PySem.W.Frag) (CF CN CT:Addr):Sp:=fun vs H Q E => ∃ (x:V) (k:Kd) (o p:Addr) (m:Int) (okv pkv:List (Key × V)) (OG:Str → Option Kd) (PG:Str → Option (Str → Option Kd)),
  vs = [x,.ref o,.ref p,.int m] ∧ KdAt K H x k ∧ k.words ≤ 900 ∧ Kd.depth k ≤ 40 ∧ (∀ n ∈ Kd.names k,okW n.1 ∧ okW n.2) ∧ 0 ≤ m ∧ m ≤ 1000000 ∧ H o = some (.dK okv) ∧ KvAt K H okv OG ∧ H p = some (.dK pkv) ∧ PartsAt K H CF pkv PG ∧
  (∀ H',Same H H' → (∃ n ∈ Kd.names k,tell OG PG n = none) → E (.ref CN) none H') ∧
  ((∀ n ∈ Kd.names k,tell OG PG n ≠ none) → (Kd.put (tell OG PG) k).words ≤ 900 ∧ ∀ H',Same H H' → if ((Kd.put (tell OG PG) k).words:Int) > m then E (.ref CT) none H' else ∀ v,KdAt K H' v (Kd.put (tell OG PG) k) → Q v H')
section
variable {P:Program} {w:World} {K:PySem.W.Frag} {mg:Str → Option Value} {base:Heap}
theorem scNormal:FnScope ["kind","own","parts","most","given","part","word"] ["kind","own","parts","most"] (defScope sNormal):=⟨rfl,rfl,rfl,by decide +kernel,rfl,by decide +kernel,by decide +kernel⟩
set_option maxHeartbeats 0 in
theorem ok_normal {f fn fp fb ft CF CN CT:Addr} {dV:Value} {fd fdn fdp fdb fdt:FuncData} (F:FunD K "normal" "normal" sNormal dV f fd)
    (GN:FnOk P w K mg base CX0 1 fn fdn ["kind"] (spNames K)) (bN:Binds K fdn ["kind"] []) (kN:PySem.W.keepIn K (.ref fn) = true) (mN:mg "names_in" = some (.ref fn))
    (GP:FnOk P w K mg base CX0 40 fp fdp ["kind","given"] (spPut K 40)) (bP:Binds K fdp ["kind","given"] []) (kP:PySem.W.keepIn K (.ref fp) = true) (mP:mg "put" = some (.ref fp))
    (GB:FnOk P w K mg base (CX1 P w) 2 fb fdb ["kind","most"] (spBounded K CT)) (bB:Binds K fdb ["kind","most"] []) (kB:PySem.W.keepIn K (.ref fb) = true) (mB:mg "bounded" = some (.ref fb))
    (GT:FnOk P w K mg base (CX1 P w) 1 ft fdt ["part","word","own","parts"] (spToldKind K CF CN)) (bT:Binds K fdt ["part","word","own","parts"] []) (kT:PySem.W.keepIn K (.ref ft) = true) (mT:mg "told_kind" = some (.ref ft)) :
    FnOk P w K mg base (CX1 P w) 41 f fd ["kind","own","parts","most"] (spNormal K CF CN CT):=by
  refine F.okX scNormal (fun vs H Q E h => ?_) (fun cdv A outer s H vs Q E hr h => ?_)
  · obtain ⟨x,k,o,p,m,okv,pkv,OG,PG,rfl,_⟩:=h
    rfl
  obtain ⟨x,k,o,p,m,okv,pkv,OG,PG,rfl,hk,hw,hdp,hnm,m0,m1,ho,hO,hp,hP,q1,q2⟩:=h
  have hu:=hu_of hr
  have hr1:Room 1 _:=hr.mono (by decide)
  have hr2:Room 2 _:=hr.mono (by decide)
  refine ⟨_,pss_cons (ps_set (i:=4) scNormal.nd rfl (Or.inl rfl) pe_dnewT)
    (pss_cons (ps_for PassesOwn.leaving rfl (pi_list (pe_call GN hr1 rfl mN kN bN .nil pass0 (pa_cons (pv 0) pa_nil)))
      (pg_tup rfl (pgs_cons (pg_name (i:=5) scNormal.nd rfl (Or.inl rfl)) (pgs_cons (pg_name (i:=6) scNormal.nd rfl (Or.inl rfl)) pgs_nil)))
      (pss_one (ps_dput hu (pv 4) (pe_tup (pa_cons (pv 5) (pa_cons (pv 6) pa_nil))) (pe_call GT hr1 rfl mT kT bT .nil pass1 (pa_cons (pv 5) (pa_cons (pv 6) (pa_cons (pv 1) (pa_cons (pv 2) pa_nil))))) rfl)))
    (pss_one (ps_ret (pe_call GB hr2 rfl mB kB bB .nil pass1 (pa_cons (pe_call GP hr rfl mP kP bP .nil pass0 (pa_cons (pv 0) (pa_cons (pv 4) pa_nil))) (pa_cons (pv 3) pa_nil)))))),?_⟩
  intro g hg
  have sg:=same_new hg (.dT [])
  refine ⟨_,rfl,x,k,rfl,hk.same sg,hw,fun H1 l as s1 _ hl hpr => ?_⟩
  have gne:l ≠ g:=fun e => by
    have z:=s1 _ _ (upd_same (H:=H) (a:=g) (o:=.dT []))
    rw [← e,hl] at z
    cases z
  have hS1:Same H H1:=same_trans sg s1
  have hlen:=Paired.length hpr
  refine ⟨l,rfl,⟨_,SqL.of hl⟩,for_list (K:=K) (xs:=as.map V.ref) (fun i σ H3 => ∃ (x5 x6:Option V) (kvs:List (List Key × V)),σ = [some x,some (.ref o),some (.ref p),some (.int m),some (.ref g),x5,x6] ∧ Same H H3 ∧ H3 l = some (.lst (as.map V.ref)) ∧ H3 g = some (.dT kvs) ∧
      Paired (fun (n:Str × Str) (a:Addr) => H3 a = some (.tup [.str n.1,.str n.2])) (firsts [] (Kd.names k)) as ∧ kvs.length ≤ i ∧ (∀ n ∈ (firsts [] (Kd.names k)).take i,tell OG PG n ≠ none) ∧ GvAt K H3 kvs (fun n => if n ∈ (firsts [] (Kd.names k)).take i then tell OG PG n else none))
    ⟨none,none,[],rfl,hS1,hl,s1 _ _ upd_same,hpr,Nat.le_refl _,fun n hn => (by simp at hn),fun n => .inl ⟨rfl,by simp⟩⟩ ?_ ?_ ?_⟩
  · rintro i σ H3 _ ⟨x5,x6,kvs,rfl,_,h3,_⟩
    exact SqL.of h3
  · rintro i y σ H3 hy ⟨x5,x6,kvs,rfl,s3,hl3,hg3,hp3,hkl,hto,hG⟩
    obtain ⟨b,hb,rfl⟩:∃ b,as[i]? = some b ∧ V.ref b = y:=by
      rw [List.getElem?_map] at hy
      exact Option.map_eq_some_iff.mp hy
    obtain ⟨n,hn,htu⟩:=paired_get hp3 hb
    have hnm':n ∈ Kd.names k:=by
      rcases mem_firsts (List.mem_of_getElem? hn) with z | z
      · cases z
      · exact z
    have hil:i < as.length:=(List.getElem?_eq_some_iff.mp hb).1
    have etake:(firsts [] (Kd.names k)).take (i + 1) = (firsts [] (Kd.names k)).take i ++ [n]:=by
      rw [List.take_add_one,hn]
      rfl
    have hkz:kvs.length < sizeLine:=by
      have h1:=firsts_len (Kd.names k) []
      have h2:=names_len k
      have h3:([]:List (Str × Str)).length = 0:=rfl
      exact Nat.lt_of_lt_of_le (Nat.lt_succ_self _) (small (by omega))
    refine ⟨b,_,rfl,SqT.of htu,rfl,_,_,rfl,_,_,rfl,rfl,?_⟩
    refine ⟨_,rfl,_,rfl,_,rfl,_,rfl,n.1,n.2,o,p,okv,pkv,OG,PG,rfl,(hnm n hnm').1,(hnm n hnm').2,s3 _ _ ho,hO.same s3,s3 _ _ hp,hP.same s3,?_⟩
    cases ht:tell OG PG n with
    | none => exact .inl ⟨rfl,q1 _ s3 ⟨n,hnm',ht⟩⟩
    | some kk =>
      refine .inr ⟨kk,rfl,fun v hv => ?_⟩
      refine ⟨_,rfl,_,rfl,_,rfl,(by show 2 ≤ sizeLine; decide),fun c hc => ?_⟩
      have sc:=same_new hc (.tup [.str n.1,.str n.2])
      have hg4:=sc _ _ hg3
      have hcg:g ≠ c:=ne_of_none hg3 hc
      have hcl:l ≠ c:=ne_of_none hl3 hc
      have hc0:H c = none:=by
        cases e:H c with
        | none => rfl
        | some u => rw [s3 _ _ e] at hc; cases hc
      refine ⟨g,_,rfl,DPut.t (k:=keyN n) hg4 upd_same hkz,?_⟩
      have keep:∀ a xs,SqT K (upd H3 c (.tup [.str n.1,.str n.2])) a xs → SqT K (upd (upd H3 c (.tup [.str n.1,.str n.2])) g (.dT (putK kvs (keyN n) v))) a xs:=fun a xs t => by
        rcases t with (t | ⟨o',t⟩) | t
        · exact .inl (.inl (by rw [upd_ne (fun e => by rw [e,hg4] at t; cases t)]; exact t))
        · exact .inl (.inr ⟨o',by rw [upd_ne (fun e => by rw [e,hg4] at t; cases t)]; exact t⟩)
        · exact .inr t
      refine ⟨_,_,putK kvs (keyN n) v,rfl,sput (same_trans s3 sc) hg,?_,upd_same,?_,?_,?_,?_⟩
      · rw [upd_ne gne]
        exact sc _ _ hl3
      · exact Paired.imp' (fun m a e => by rw [upd_ne (fun z => by rw [z,hg3] at e; cases e)]; exact sc _ _ e) hp3
      · have:=length_putK kvs (keyN n) v
        omega
      · rw [etake]
        intro m hm
        rcases List.mem_append.mp hm with z | z
        · exact hto m z
        · rw [List.mem_singleton.mp z,ht]
          exact fun e => nomatch e
      · have hG2:=gv_put (n:=n) (hG.same sc) (hv.same sc)
        rw [etake]
        intro mm
        have eG:(if mm ∈ (firsts [] (Kd.names k)).take i ++ [n] then tell OG PG mm else none) = (if mm = n then some kk else if mm ∈ (firsts [] (Kd.names k)).take i then tell OG PG mm else none):=by
          by_cases e:mm = n
          · subst e
            rw [if_pos (List.mem_append_right _ (List.mem_singleton.mpr rfl)),if_pos rfl,ht]
          · rw [if_neg e]
            by_cases e2:mm ∈ (firsts [] (Kd.names k)).take i
            · rw [if_pos e2,if_pos (List.mem_append_left _ e2)]
            · rw [if_neg e2,if_neg (fun z => (List.mem_append.mp z).elim e2 fun z2 => e (List.mem_singleton.mp z2))]
        rcases hG2 mm with ⟨h1,h2⟩ | ⟨v',k',h1,h2,h3⟩
        · exact .inl ⟨h1,eG.trans h2⟩
        · exact .inr ⟨v',k',h1,eG.trans h2,kd_keep keep h3⟩
  · rintro σ H3 ⟨x5,x6,kvs,rfl,s3,hl3,hg3,hp3,hkl,hto,hG⟩
    rw [List.length_map,← hlen,List.take_length] at hto hG
    have hall:∀ n ∈ Kd.names k,tell OG PG n ≠ none:=fun n hn => hto n (firsts_mem (.inr hn))
    obtain ⟨hb9,q3⟩:=q2 hall
    have epc:Kd.put (fun n => if n ∈ firsts [] (Kd.names k) then tell OG PG n else none) k = Kd.put (tell OG PG) k:=put_congr fun n hn => if_pos (firsts_mem (.inr hn))
    refine ⟨_,rfl,_,rfl,x,g,k,kvs,_,rfl,hk.same s3,hdp,hg3,hG,fun H4 v4 s4 hv4 => ?_⟩
    rw [epc] at hv4
    refine ⟨_,rfl,v4,_,m,rfl,hv4,hb9,m0,m1,fun H5 s5 => ?_⟩
    have q4:=q3 H5 (same_trans s3 (same_trans s4 s5))
    by_cases c:((Kd.put (tell OG PG) k).words:Int) > m
    · rw [if_pos c] at q4 ⊢
      exact q4
    · rw [if_neg c] at q4 ⊢
      exact q4 v4 (hv4.same s5)
end
end K24
namespace K24
open PySem L2 Kk
noncomputable def ownG (gl:List (Str × Kd)):Str × Str → Option Kd:=fun n => if n.1 = "" then look gl n.2 else none
section
variable {P:Program} {w:World} {K:PySem.W.Frag} {mg:Str → Option Value} {base:Heap}
end
end K24
namespace K24
open PySem L2 Kk
theorem at_nat0 {α:Type} {xs:List α} {i:Nat} {x:α} (h:xs[i]? = some x):atI xs (0 + (i:Int)) = some x:=by
  rw [Int.zero_add]
  exact atI_nat h
noncomputable def forB:Stmt → List Stmt
  | .For _ _ body _ _ => body
  | _ => []
theorem own_sm {z:Str} (h:smW z):Kd.sm (ownK z):=⟨⟨by decide +kernel,by decide +kernel⟩,h⟩
theorem e18:(0:Int) < ((10:Int) ^ (18:Int).toNat):=by decide
theorem sm_num (c:Int):Kd.sm (.num (1 + c % (10:Int) ^ (18:Int).toNat)):=by
  have a0:=Int.emod_nonneg c (Int.ne_of_gt e18)
  have a1:=Int.emod_lt_of_pos c e18
  have e10:(10:Int) ^ (18:Int).toNat = 10 ^ 18:=rfl
  refine ⟨by omega,?_⟩
  rw [e10] at a1 ⊢
  omega
theorem look_in {α:Type} {m:List (Str × α)} {z:Str} {x:α} (h:look m z = some x):(z,x) ∈ m:=by
  unfold look at h
  obtain ⟨q,hq,rfl⟩:=Option.map_eq_some_iff.mp h
  have e0:=List.find?_some hq
  have e:q.1 = z:=of_decide_eq_true e0
  rw [← e]
  exact List.mem_of_find?_eq_some hq
noncomputable def over {α:Type} (m:List (Str × α)) (z:Str) (x:α):List (Str × α):=m.map fun q => if q.1 = z then (q.1,x) else q
structure FD (K:PySem.W.Frag) (H:Hp) (t d e:Addr) (kv fv:List (Key × V)) (m1:List (Str × Kd)) (m2:List (Str × (List Kd × Kd))):Prop where
  tu:SqT K H t [.ref d,.ref e]
  h1:H d = some (.dK kv)
  h2:H e = some (.dK fv)
  p1:PkAt (KdAt K H) kv m1
  p2:PkAt (FunAt K H) fv m2
end K24
namespace K24
open PySem L2 Kk
inductive It where
  | hid (w:Str) | told (w:Str) (k:Kd) | fn (w:Str) (as:List Kd) (r:Kd)
noncomputable def ItAt (K:PySem.W.Frag) (H:Hp) (v:V):It → Prop
  | .hid w => ∃ p,v = .ref p ∧ SqT K H p [.str "hid",.str w]
  | .told w k => ∃ p x,v = .ref p ∧ SqT K H p [.str "told",.str w,x] ∧ KdAt K H x k
  | .fn w as r => ∃ p ta x xs,v = .ref p ∧ SqT K H p [.str "fun",.str w,.ref ta,x] ∧ SqT K H ta xs ∧ KdsAt K H xs as ∧ KdAt K H x r
theorem ItAt.keep {K:PySem.W.Frag} {H H':Hp} (hk:∀ a xs,SqT K H a xs → SqT K H' a xs) {v:V}:∀ {i:It},ItAt K H v i → ItAt K H' v i
  | .hid _,⟨p,h1,h2⟩ => ⟨p,h1,hk _ _ h2⟩
  | .told _ _,⟨p,x,h1,h2,h3⟩ => ⟨p,x,h1,hk _ _ h2,kd_keep hk h3⟩
  | .fn _ _ _,⟨p,ta,x,xs,h1,h2,h3,h4,h5⟩ => ⟨p,ta,x,xs,h1,hk _ _ h2,hk _ _ h3,kds_keep hk h4,kd_keep hk h5⟩
theorem ItAt.same {K:PySem.W.Frag} {H H':Hp} (s:Same H H') {v:V} {i:It} (h:ItAt K H v i):ItAt K H' v i:=h.keep fun _ _ t => s.tup t
noncomputable abbrev Rw:=List (Str × Kd) × List (Str × (List Kd × Kd))
noncomputable def rstep (g:Str → Option Kd) (s:Rw):It → Rw
  | .hid w => (s.1 ++ [(w,(g w).getD (ownK w))],s.2)
  | .told w k => (s.1 ++ [(w,Kd.put (ownG s.1) k)],s.2)
  | .fn w as r => (s.1,s.2 ++ [(w,putFn (ownG s.1) (as,r))])
noncomputable def rows (g:Str → Option Kd) (its:List It):Rw:=its.foldl (rstep g) ([],[])
noncomputable def It.k:It → Option Str
  | .hid w => some w | .told w _ => some w | .fn _ _ _ => none
noncomputable def It.f:It → Option Str
  | .fn w _ _ => some w | _ => none
noncomputable def kW (its:List It):List Str:=its.filterMap It.k
noncomputable def fW (its:List It):List Str:=its.filterMap It.f
theorem take_snoc {its:List It} {i:Nat} {it:It} (h:its[i]? = some it):its.take (i + 1) = its.take i ++ [it]:=by
  rw [List.take_add_one,h]
  rfl
noncomputable def Tk (ws : List Str) (k : Kd) : Prop := (∃ z ∈ ws, k = ownK z) ∨ ∃ z ∈ ws, ∃ n : Int, k = .pair (ownK z) (.num n) ∧ 0 ≤ n ∧ n ≤ 10 ^ 18
noncomputable def ItOk (pre:List It):It → Prop
  | .hid w => smW w ∧ w ∉ kW pre
  | .told w k => smW w ∧ w ∉ kW pre ∧ Tk (kW pre) k
  | .fn w as r => smW w ∧ w ∉ fW pre ∧ as.length ≤ 4 ∧ ∀ k ∈ r :: as,∃ z ∈ kW pre,k = ownK z
structure ItsOk (its:List It):Prop where
  each:∀ i it,its[i]? = some it → ItOk (its.take i) it
  l1:(kW its).length ≤ 16
  l2:(fW its).length ≤ 16
  ln:its.length ≤ 32
structure RS (s:Rw):Prop where
  k:∀ j q,s.1[j]? = some q → smW q.1 ∧ Kd.sm q.2 ∧ q.2.words ≤ 2 * j + 1 ∧ Kd.depth q.2 ≤ j + 1
  f:∀ q ∈ s.2,smW q.1 ∧ q.2.1.length ≤ 4 ∧ ∀ k ∈ q.2.2 :: q.2.1,∃ p ∈ s.1,k = p.2
  n1:(s.1.map (·.1)).Nodup
  n2:(s.2.map (·.1)).Nodup
theorem nd_snoc {α:Type} {l:List (Str × α)} {z:Str} {x:α} (h:(l.map (·.1)).Nodup) (hz:z ∉ l.map (·.1)):((l ++ [(z,x)]).map (·.1)).Nodup:=by
  rw [List.map_append,List.nodup_append]
  refine ⟨h,by simp,fun a ha b hb e => ?_⟩
  have hb':b = z:=List.mem_singleton.mp hb
  rw [e,hb'] at ha
  exact hz ha
theorem look_ex {α:Type} {m:List (Str × α)} {z:Str} (h:z ∈ m.map (·.1)):∃ x,look m z = some x:=by
  cases hh:look m z with
  | some x => exact ⟨x,rfl⟩
  | none =>
    unfold look at hh
    rw [Option.map_eq_none_iff,List.find?_eq_none] at hh
    obtain ⟨q,hq,e⟩:=List.mem_map.mp h
    exact absurd (decide_eq_true e) (hh q hq)
theorem get_snoc {α:Type} {l:List α} {x q:α} {j:Nat} (h:(l ++ [x])[j]? = some q):l[j]? = some q ∨ (j = l.length ∧ q = x):=by
  rcases Nat.lt_or_ge j l.length with hj | hj
  · rw [List.getElem?_append_left hj] at h
    exact .inl h
  · rw [List.getElem?_append_right hj] at h
    have h0:j - l.length = 0:=by
      have:=(List.getElem?_eq_some_iff.mp h).1
      simp only [List.length_singleton] at this
      omega
    rw [h0] at h
    exact .inr ⟨by omega,(Option.some.inj h).symm⟩
end K24
namespace K24
open PySem L2 Kk
noncomputable def Gdn (n:Nat) (d:PyData):Prop:=PyData.canLay0 d = true ∧ PyData.depth d ≤ n
theorem Gdn.mono {n m:Nat} {d:PyData} (h:Gdn n d) (hm:n ≤ m):Gdn m d:=⟨h.1,Nat.le_trans h.2 hm⟩
theorem gdn_all {n:Nat}:∀ {ds:List PyData},(∀ d ∈ ds,Gdn n d) → PyData.canLayAll0 ds = true ∧ PyData.depthAll ds ≤ n
  | [],_ => ⟨by simp [PyData.canLayAll0],by simp [PyData.depthAll]⟩
  | d :: ds,h => by
    obtain ⟨i1,i2⟩:=gdn_all (ds:=ds) fun e he => h e (.tail _ he)
    obtain ⟨k1,k2⟩:=h d (.head _)
    refine ⟨by simp only [PyData.canLayAll0,Bool.and_eq_true]; exact ⟨k1,i1⟩,?_⟩
    simp only [PyData.depthAll]
    exact Nat.max_le.mpr ⟨k2,i2⟩
theorem gdn_tup {n:Nat} {ds:List PyData} (h:∀ d ∈ ds,Gdn n d):Gdn (n + 1) (.tuple ds):=by
  obtain ⟨a,b⟩:=gdn_all h
  refine ⟨by simp only [PyData.canLay0,a],?_⟩
  simp only [PyData.depth]
  omega
theorem gdn_lst {n:Nat} {ds:List PyData} (h:∀ d ∈ ds,Gdn n d):Gdn (n + 1) (.list ds):=by
  obtain ⟨a,b⟩:=gdn_all h
  refine ⟨by simp only [PyData.canLay0,a],?_⟩
  simp only [PyData.depth]
  omega
theorem gdn_str {n:Nat} {z:Str} (h:PyData.strOk z = true):Gdn n (.str z):=⟨by simp only [PyData.canLay0,h],by simp [PyData.depth]⟩
theorem gdn_kd {n:Nat} {k:Kd} (h:Kd.sm k) (hd:Kd.depth k ≤ n):Gdn n (Kd.dat k):=⟨lay_kd (sm_ok h),Nat.le_trans (deep_kd k) hd⟩
theorem gdn_fn {n:Nat} {f:List Kd × Kd} (h:∀ k ∈ f.2 :: f.1,Kd.sm k ∧ Kd.depth k ≤ n):Gdn (n + 2) (Fn.dat f):=by
  refine gdn_tup fun d hd => ?_
  rcases List.mem_cons.mp hd with rfl | hd
  · refine gdn_tup fun d hd => ?_
    obtain ⟨k,hk,rfl⟩:=List.mem_map.mp hd
    exact gdn_kd (h k (.tail _ hk)).1 (h k (.tail _ hk)).2
  · rw [List.mem_singleton.mp hd]
    exact (gdn_kd (h f.2 (.head _)).1 (h f.2 (.head _)).2).mono (by omega)
theorem Gdn.shaped {n:Nat} {d:PyData} (h:Gdn n d) (hn:n ≤ 64):SeqAt.shaped d = true:=by
  unfold SeqAt.shaped
  rw [h.1,decide_eq_true (Nat.le_trans h.2 hn)]
  rfl
theorem Gdn.refl {n:Nat} {d:PyData} (h:Gdn n d):PyData.eqv d d = true:=SeqAt.eqv_refl _ h.1
noncomputable def kindsD (m:List (Str × Kd)):PyData:=.list (m.map fun q => .tuple [.str q.1,Kd.dat q.2])
noncomputable def funsD (m:List (Str × (List Kd × Kd))):PyData:=.list (m.map fun q => .tuple [.str q.1,Fn.dat q.2])
theorem items_dat {α:Type} {K:PySem.W.Frag} {H:Hp} {R:V → α → Prop} {D:α → PyData} (hR:∀ v x,R v x → Dat K H v (D x)):∀ {kvs:List (Key × V)} {m:List (Str × α)} {as:List Addr},PkAt R kvs m → Paired (fun (p:Key × V) (k:Addr) => H k = some (.tup [kV p.1,p.2])) kvs as → Dats K H (as.map V.ref) (m.map fun q => PyData.tuple [.str q.1,D q.2])
  | _,_,_,.nil,.nil => .nil
  | _,(z,x) :: m,_,.cons ⟨e,h⟩ t,.cons h1 u => by
    rw [e] at h1
    exact .cons (.tup (SqT.of h1) (.cons (.str _) (.cons (hR _ _ h) .nil))) (items_dat hR t u)
structure Cmp (m1:List (Str × Kd)) (m2:List (Str × (List Kd × Kd))):Prop where
  k:∀ q ∈ m1,SmK q
  f:∀ q ∈ m2,SmF q
end K24
namespace K24
open PySem L2 Kk
noncomputable abbrev PGt:=Str → Option (Str → Option Kd)
noncomputable def Tl (PG:PGt) (s:Rw):Str × Str → Option Kd:=tell (look s.1) PG
noncomputable def lackB (T:Str × Str → Option Kd) (k:Kd):Bool:=(Kd.names k).any fun n => (T n).isNone
noncomputable def bigB (T:Str × Str → Option Kd) (k:Kd):Bool:=!lackB T k && decide (40 < (Kd.put T k).words)
noncomputable def It.ks:It → List Kd
  | .hid _ => [] | .told _ k => [k] | .fn _ as r => as ++ [r]
noncomputable def It.w:It → Str
  | .hid w => w | .told w _ => w | .fn w _ _ => w
noncomputable def twB (s:Rw):It → Bool
  | .hid w => decide (w ∈ s.1.map (·.1)) | .told w _ => decide (w ∈ s.1.map (·.1)) | .fn w _ _ => decide (w ∈ s.2.map (·.1))
noncomputable def wrong (PG:PGt) (s:Rw) (it:It):List Str:=(if twB s it = true then [("twice":Str)] else []) ++ ((if (It.ks it).any (lackB (Tl PG s)) = true then [("no":Str)] else []) ++ (if (It.ks it).any (bigB (Tl PG s)) = true then [("big":Str)] else []))
noncomputable def nstep (PG:PGt) (s:Rw):It → Rw
  | .hid w => (s.1 ++ [(w,ownK w)],s.2)
  | .told w k => (s.1 ++ [(w,Kd.put (Tl PG s) k)],s.2)
  | .fn w as r => (s.1,s.2 ++ [(w,putFn (Tl PG s) (as,r))])
noncomputable def stA (PG:PGt) (its:List It):Rw:=its.foldl (nstep PG) ([],[])
theorem stA_snoc {PG:PGt} {its:List It} {it:It}:stA PG (its ++ [it]) = nstep PG (stA PG its) it:=by
  unfold stA
  rw [List.foldl_append]
  rfl
noncomputable def OkUp (PG:PGt) (its:List It):Prop:=∀ i it,its[i]? = some it → wrong PG (stA PG (its.take i)) it = []
noncomputable def kErr (PG:PGt) (s:Rw) (k:Kd):Option Str:=if lackB (Tl PG s) k = true then some "no" else if bigB (Tl PG s) k = true then some "big" else none
noncomputable def KB (k:Kd):Prop:=Kd.sm k ∧ k.words ≤ 5
structure IB (it:It):Prop where
  w:smW (It.w it)
  n:(It.ks it).length ≤ 5
  k:∀ k ∈ It.ks it,KB k
structure NS (s:Rw):Prop where
  k:∀ q ∈ s.1,smW q.1 ∧ Kd.sm q.2 ∧ q.2.words ≤ 40
  f:∀ q ∈ s.2,smW q.1 ∧ q.2.1.length ≤ 4 ∧ ∀ k ∈ q.2.2 :: q.2.1,Kd.sm k ∧ k.words ≤ 40
  n1:(s.1.map (·.1)).Nodup
  n2:(s.2.map (·.1)).Nodup
noncomputable def PB (PG:PGt):Prop:=∀ q g z k,PG q = some g → g z = some k → Kd.sm k ∧ k.words ≤ 40
theorem NS.nil:NS ([],[]):=⟨fun _ h => (nomatch h),fun _ h => (nomatch h),List.nodup_nil,List.nodup_nil⟩
theorem tl_b {PG:PGt} {s:Rw} (pb:PB PG) (h:NS s) {n:Str × Str} {k:Kd} (e:Tl PG s n = some k):Kd.sm k ∧ k.words ≤ 40:=by
  unfold Tl tell at e
  by_cases c:n.1 = ""
  · rw [if_pos c] at e
    exact (h.k _ (look_in e)).2
  · rw [if_neg c] at e
    obtain ⟨g,e1,e2⟩:=Option.bind_eq_some_iff.mp e
    exact pb _ _ _ _ e1 e2
theorem put_words {G:Str × Str → Option Kd} (hG:∀ n k,G n = some k → k.words ≤ 40):∀ k:Kd,(Kd.put G k).words ≤ 40 * k.words
  | .num _ => by show 1 ≤ 40 * 1; decide
  | .name q t => by
    show ((G (q,t)).getD (.name q t)).words ≤ 40 * 1
    cases e:G (q,t) with
    | none => show 1 ≤ 40; decide
    | some k => exact hG _ _ e
  | .pair a b => by
    have h1:=put_words hG a
    have h2:=put_words hG b
    show 1 + (Kd.put G a).words + (Kd.put G b).words ≤ 40 * (1 + a.words + b.words)
    omega
theorem big_no {T:Str × Str → Option Kd} {k:Kd} (h1:lackB T k = false) (h2:bigB T k = false):(Kd.put T k).words ≤ 40:=by
  unfold bigB at h2
  rw [h1] at h2
  have:decide (40 < (Kd.put T k).words) = false:=by simpa using h2
  have:=of_decide_eq_false this
  omega
theorem wrong_nil {PG:PGt} {s:Rw} {it:It}:wrong PG s it = [] ↔ twB s it = false ∧ ∀ k ∈ It.ks it,kErr PG s k = none:=by
  unfold wrong
  constructor
  · intro h
    obtain ⟨h1,h23⟩:=List.append_eq_nil_iff.mp h
    obtain ⟨h2,h3⟩:=List.append_eq_nil_iff.mp h23
    refine ⟨?_,fun k hk => ?_⟩
    · cases e:twB s it with
      | false => rfl
      | true => rw [e,if_pos rfl] at h1; cases h1
    · have l:lackB (Tl PG s) k = false:=by
        cases e:lackB (Tl PG s) k with
        | false => rfl
        | true => rw [if_pos (List.any_eq_true.mpr ⟨k,hk,e⟩)] at h2; cases h2
      have b:bigB (Tl PG s) k = false:=by
        cases e:bigB (Tl PG s) k with
        | false => rfl
        | true => rw [if_pos (List.any_eq_true.mpr ⟨k,hk,e⟩)] at h3; cases h3
      unfold kErr
      rw [l,b]
      rfl
  · rintro ⟨h1,h2⟩
    have key:∀ k ∈ It.ks it,lackB (Tl PG s) k = false ∧ bigB (Tl PG s) k = false:=fun k hk => by
      have:=h2 k hk
      unfold kErr at this
      cases l:lackB (Tl PG s) k with
      | true => rw [l,if_pos rfl] at this; cases this
      | false =>
        rw [l,if_neg Bool.false_ne_true] at this
        cases b:bigB (Tl PG s) k with
        | true => rw [b,if_pos rfl] at this; cases this
        | false => exact ⟨rfl,rfl⟩
    rw [h1,if_neg Bool.false_ne_true,if_neg (fun z => by obtain ⟨k,hk,e⟩:=List.any_eq_true.mp z; rw [(key k hk).1] at e; cases e),if_neg (fun z => by obtain ⟨k,hk,e⟩:=List.any_eq_true.mp z; rw [(key k hk).2] at e; cases e)]
    rfl
theorem wrong_tw {PG:PGt} {s:Rw} {it:It} (h:twB s it = true):("twice":Str) ∈ wrong PG s it:=by
  unfold wrong
  rw [if_pos h]
  exact List.mem_append_left _ (List.mem_singleton.mpr rfl)
theorem wrong_k {PG:PGt} {s:Rw} {it:It} {k:Kd} {e:Str} (hk:k ∈ It.ks it) (h:kErr PG s k = some e):e ∈ wrong PG s it:=by
  unfold kErr at h
  unfold wrong
  refine List.mem_append_right _ ?_
  by_cases l:lackB (Tl PG s) k = true
  · rw [if_pos l] at h
    cases h
    rw [if_pos (List.any_eq_true.mpr ⟨k,hk,l⟩)]
    exact List.mem_append_left _ (List.mem_singleton.mpr rfl)
  · rw [if_neg l] at h
    by_cases b:bigB (Tl PG s) k = true
    · rw [if_pos b] at h
      cases h
      exact List.mem_append_right _ (by rw [if_pos (List.any_eq_true.mpr ⟨k,hk,b⟩)]; exact List.mem_singleton.mpr rfl)
    · rw [if_neg b] at h
      cases h
theorem kErr_none {PG:PGt} {s:Rw} {k:Kd} (h:kErr PG s k = none):lackB (Tl PG s) k = false ∧ (Kd.put (Tl PG s) k).words ≤ 40:=by
  unfold kErr at h
  cases l:lackB (Tl PG s) k with
  | true => rw [l,if_pos rfl] at h; cases h
  | false =>
    rw [l,if_neg Bool.false_ne_true] at h
    refine ⟨rfl,big_no l ?_⟩
    cases b:bigB (Tl PG s) k with
    | true => rw [b,if_pos rfl] at h; cases h
    | false => rfl
theorem sm_putA {G:Str × Str → Option Kd} (hG:∀ n k,G n = some k → Kd.sm k):∀ {k:Kd},Kd.sm k → Kd.sm (Kd.put G k)
  | .num _,h => h
  | .name q t,h => by
    show Kd.sm ((G (q,t)).getD (.name q t))
    cases e:G (q,t) with
    | none => exact h
    | some k => exact hG _ _ e
  | .pair a b,⟨h1,h2⟩ => ⟨sm_putA hG h1,sm_putA hG h2⟩
theorem put_sm {PG:PGt} {s:Rw} (pb:PB PG) (h:NS s) {k:Kd} (hk:Kd.sm k):Kd.sm (Kd.put (Tl PG s) k):=by
  refine sm_putA (fun n k' e => (tl_b pb h e).1) hk
theorem NS.step {PG:PGt} {s:Rw} {it:It} (pb:PB PG) (h:NS s) (ib:IB it) (hw:wrong PG s it = []):NS (nstep PG s it):=by
  obtain ⟨tw,hk⟩:=wrong_nil.mp hw
  cases it with
  | hid w =>
    have nw:w ∉ s.1.map (·.1):=of_decide_eq_false tw
    refine ⟨fun q hq => ?_,h.f,nd_snoc h.n1 nw,h.n2⟩
    rcases List.mem_append.mp hq with hq | hq
    · exact h.k q hq
    · rw [List.mem_singleton.mp hq]
      exact ⟨ib.w,own_sm ib.w,by show 1 ≤ 40; decide⟩
  | told w k =>
    have nw:w ∉ s.1.map (·.1):=of_decide_eq_false tw
    refine ⟨fun q hq => ?_,h.f,nd_snoc h.n1 nw,h.n2⟩
    rcases List.mem_append.mp hq with hq | hq
    · exact h.k q hq
    · rw [List.mem_singleton.mp hq]
      exact ⟨ib.w,put_sm pb h (ib.k k (.head _)).1,(kErr_none (hk k (.head _))).2⟩
  | fn w as r =>
    have nw:w ∉ s.2.map (·.1):=of_decide_eq_false tw
    refine ⟨h.k,fun q hq => ?_,h.n1,nd_snoc h.n2 nw⟩
    rcases List.mem_append.mp hq with hq | hq
    · exact h.f q hq
    · rw [List.mem_singleton.mp hq]
      have hl:=ib.n
      have el:(It.ks (.fn w as r)).length = as.length + 1:=by show (as ++ [r]).length = _; simp
      refine ⟨ib.w,by show (as.map _).length ≤ 4; rw [List.length_map]; omega,fun k hk' => ?_⟩
      have key:∃ j ∈ It.ks (.fn w as r),k = Kd.put (Tl PG s) j:=by
        rcases List.mem_cons.mp hk' with e | e
        · exact ⟨r,List.mem_append_right _ (List.mem_singleton.mpr rfl),e⟩
        · obtain ⟨j,hj,e⟩:=List.mem_map.mp e
          exact ⟨j,List.mem_append_left _ hj,e.symm⟩
      obtain ⟨j,hj,rfl⟩:=key
      exact ⟨put_sm pb h (ib.k j hj).1,(kErr_none (hk j hj)).2⟩
theorem OkUp.snoc {PG:PGt} {its:List It} {it:It} (h:OkUp PG its) (hw:wrong PG (stA PG its) it = []):OkUp PG (its ++ [it]):=fun i j hj => by
  rcases get_snoc hj with hj | ⟨rfl,rfl⟩
  · have hi:=(List.getElem?_eq_some_iff.mp hj).1
    rw [List.take_append_of_le_length (by omega)]
    exact h i j hj
  · rw [List.take_append_of_le_length (Nat.le_refl _),List.take_length]
    exact hw
theorem OkUp.ns {PG:PGt} (pb:PB PG) {its:List It} (h:OkUp PG its) (ib:∀ it ∈ its,IB it):∀ n,NS (stA PG (its.take n))
  | 0 => NS.nil
  | n + 1 => by
    have ih:=OkUp.ns pb h ib n
    cases e:its[n]? with
    | none => rw [List.take_of_length_le (Nat.le_succ_of_le (List.getElem?_eq_none_iff.mp e))]; rw [List.take_of_length_le (List.getElem?_eq_none_iff.mp e)] at ih; exact ih
    | some it =>
      rw [take_snoc e,stA_snoc]
      exact ih.step pb (ib it (List.mem_of_getElem? e)) (h n it e)
theorem stA_len {PG:PGt}:∀ (its:List It) (s:Rw),(its.foldl (nstep PG) s).1.length ≤ s.1.length + its.length ∧ (its.foldl (nstep PG) s).2.length ≤ s.2.length + its.length
  | [],s => ⟨Nat.le_refl _,Nat.le_refl _⟩
  | it :: its,s => by
    obtain ⟨h1,h2⟩:=stA_len (PG:=PG) its (nstep PG s it)
    have e:(nstep PG s it).1.length ≤ s.1.length + 1 ∧ (nstep PG s it).2.length ≤ s.2.length + 1:=by
      cases it <;> simp [nstep]
    show (its.foldl (nstep PG) (nstep PG s it)).1.length ≤ s.1.length + (its.length + 1) ∧ (its.foldl (nstep PG) (nstep PG s it)).2.length ≤ s.2.length + (its.length + 1)
    omega
end K24
namespace K24
open PySem L2 Kk
theorem kv_of {K:PySem.W.Frag} {H:Hp} {kvs:List (Key × V)} {m:List (Str × Kd)} (h:PkAt (KdAt K H) kvs m):KvAt K H kvs (look m):=fun t => by
  rcases look_val h t with h | ⟨v,k,h1,h2,h3⟩
  · exact .inl h
  · exact .inr ⟨v,k,h1,h2,h3⟩
noncomputable def cErr (CW CN CT:Addr) (e:Str):Addr:=if e = "twice" then CW else if e = "no" then CN else CT
theorem sm_names:∀ {k:Kd},Kd.sm k → ∀ n ∈ Kd.names k,okW n.1 ∧ okW n.2
  | k,h => names_ok (sm_ok h)
noncomputable def spFaceOf (K:PySem.W.Frag) (CF CW CN CT:Addr):Sp:=fun vs H Q E => ∃ (l g:Addr) (xs:List V) (its:List It) (pkv:List (Key × V)) (PG:PGt),vs = [.ref l,.ref g] ∧ SqT K H l xs ∧ its.length ≤ 100 ∧ Paired (ItAt K H) (xs.take its.length) its ∧ (∀ it ∈ its,IB it) ∧ OkUp PG its ∧ H g = some (.dK pkv) ∧ PartsAt K H CF pkv PG ∧ PB PG ∧
  ((xs.length = its.length ∧ ∀ H' (x:Addr),Same H H' → H x = none → FaceN K H H' CF x (stA PG its).1 (stA PG its).2 → Q (.ref x) H') ∨
   ∃ v it,xs[its.length]? = some v ∧ ItAt K H v it ∧ IB it ∧ wrong PG (stA PG its) it ≠ [] ∧ ∀ H' e,Same H H' → e ∈ wrong PG (stA PG its) it → E (.ref (cErr CW CN CT e)) none H')
section
variable {P:Program} {w:World} {K:PySem.W.Frag} {mg:Str → Option Value} {base:Heap}
theorem bindNm {f T:Addr} {fd:FuncData} {oT:Value} {dT:Option Addr} {nT:Nat} {sT:Array (Option Value)} {tk:Tok} (F:FunD K "normal" "normal" sNormal (.ref T) f fd) (lT:K.lookup T = some ⟨oT,dT,.seq #[.int 40 tk] nT,sT⟩):Binds K fd ["kind","own","parts","most"] [.int 40 tk] :=
  F.binds lT fun _ _ _ _ _ _ us hl => by
    have hl':us.length = 3:=by simpa using hl
    match us,hl' with
    | [_,_,_],_ => exact ⟨_,rfl,rfl⟩
noncomputable abbrev foN:List Str:=["items","parts","kinds","funs","item","word","taken"]
noncomputable abbrev foP:List Str:=["items","parts"]
theorem scFaceOf:FnScope foN foP (defScope sFaceOf):=⟨rfl,rfl,rfl,by decide +kernel,rfl,by decide +kernel,by decide +kernel⟩
theorem nm_sp {CF CW CN CT d g:Addr} {H:Hp} {x:V} {k:Kd} {Q:VK} {E:XK} {kv pkv:List (Key × V)} {s:Rw} {PG:PGt} (hx:KdAt K H x k) (kb:KB k) (hd:H d = some (.dK kv)) (hp:PkAt (KdAt K H) kv s.1) (ns:NS s) (hg:H g = some (.dK pkv)) (hP:PartsAt K H CF pkv PG) (pb:PB PG)
    (qE:∀ e,kErr PG s k = some e → ∀ H',Same H H' → E (.ref (cErr CW CN CT e)) none H') (q:kErr PG s k = none → ∀ H' v,Same H H' → KdAt K H' v (Kd.put (Tl PG s) k) → Q v H') :
    spNormal K CF CN CT [x,.ref d,.ref g,.int 40] H Q E:=by
  have hdp:=depth_words k
  have hw:=kb.2
  have pw:=put_words (G:=Tl PG s) (fun n k' e => (tl_b pb ns e).2) k
  refine ⟨x,k,d,g,40,kv,pkv,look s.1,PG,rfl,hx,by omega,by omega,sm_names kb.1,by decide,by decide,hd,kv_of hp,hg,hP,fun H' s' ⟨m,hm,e⟩ => ?_,fun hall => ?_⟩
  · have l:lackB (Tl PG s) k = true:=List.any_eq_true.mpr ⟨m,hm,by show (Tl PG s m).isNone = true; unfold Tl; rw [e]; rfl⟩
    have:=qE "no" (by unfold kErr; rw [if_pos l]) H' s'
    exact this
  · have l:lackB (Tl PG s) k = false:=by
      refine Bool.eq_false_iff.mpr fun z => ?_
      obtain ⟨m,hm,e⟩:=List.any_eq_true.mp z
      exact hall m hm (Option.isNone_iff_eq_none.mp e)
    refine ⟨by show (Kd.put (Tl PG s) k).words ≤ 900; omega,fun H' s' => ?_⟩
    show if ((Kd.put (Tl PG s) k).words:Int) > 40 then _ else ∀ v,KdAt K H' v (Kd.put (Tl PG s) k) → Q v H'
    by_cases c:((Kd.put (Tl PG s) k).words:Int) > 40
    · rw [if_pos c]
      have b:bigB (Tl PG s) k = true:=by
        unfold bigB
        rw [l,decide_eq_true (by omega)]
        rfl
      have:=qE "big" (by unfold kErr; rw [l,if_neg Bool.false_ne_true,if_pos b]) H' s'
      exact this
    · rw [if_neg c]
      have b:bigB (Tl PG s) k = false:=by
        unfold bigB
        rw [l,decide_eq_false (by omega)]
        rfl
      exact fun v hv => q (by unfold kErr; rw [l,b]; rfl) H' v s' hv
set_option maxHeartbeats 0 in
theorem ok_faceOf {f fn fo fi CF CW CN CT T:Addr} {fd fdn fdo fdi:FuncData} {oT:Value} {dT:Option Addr} {nT:Nat} {sT:Array (Option Value)} {tk:Tok} (F:Fun K "face_of" "face_of" sFaceOf f fd)
    (FN:FunD K "normal" "normal" sNormal (.ref T) fn fdn) (lT:K.lookup T = some ⟨oT,dT,.seq #[.int 40 tk] nT,sT⟩) (GN:FnOk P w K mg base (CX1 P w) 41 fn fdn ["kind","own","parts","most"] (spNormal K CF CN CT)) (kN:PySem.W.keepIn K (.ref fn) = true) (mN:mg "normal" = some (.ref fn))
    (GO:FnOk P w K mg base CX0 1 fo fdo ["word"] (spOwn K)) (bO:Binds K fdo ["word"] []) (kO:PySem.W.keepIn K (.ref fo) = true) (mO:mg "own_name" = some (.ref fo))
    (GI:FnOk P w K mg base CX0 1 fi fdi ["self","kinds","funs"] (spInitF CF)) (bI:Binds K fdi ["self","kinds","funs"] []) (MF:Mk K CF fi) (mC:mg "Face" = some (.ref CF)) (mt:mg "tuple" = none) (mW:mg "Twice" = some (.ref CW)) (xW:PySem.W.excIn K CW bmVE "ValueError.__new__" = true) :
    FnOk P w K mg base (CX1 P w) 42 f fd foP (spFaceOf K CF CW CN CT):=by
  refine F.okX scFaceOf (fun vs H Q E h => ?_) (fun cdv A outer s H vs Q E hr h => ?_)
  · obtain ⟨l,g,xs,its,pkv,PG,rfl,_⟩:=h
    rfl
  obtain ⟨l,g,xs,its,pkv,PG,rfl,hl,hl9,hits,hib,hok,hg,hP,pb,q⟩:=h
  have hu:=hu_of hr
  have hr1:Room 1 _:=hr.mono (by decide)
  have hr2:Room (1 + 1) _:=hr.mono (by decide)
  have bN:=bindNm FN lT
  have dN:Vals [V.int 40] [Value.int 40 tk]:=.cons ⟨tk,rfl⟩ .nil
  refine ⟨_,pss_cons (ps_set (i:=2) scFaceOf.nd rfl (Or.inr rfl) pe_dnewK)
    (pss_cons (ps_set (i:=3) scFaceOf.nd rfl (Or.inl rfl) pe_dnewK)
    (pss_cons (ps_for PassesOwn.leaving rfl (pi_tup (pv 0)) (pg_name (i:=4) scFaceOf.nd rfl (Or.inl rfl))
      (pss_cons (ps_set (i:=5) scFaceOf.nd rfl (Or.inl rfl) (pe_ix ix_tup (pv 4) pe_int (fun _ _ => rfl)))
      (pss_cons (ps_if (pt_cmp (pc_din hu (pv 5) (pe_ifExp (pt_cmpR op_eq (pe_ix ix_tup (pv 4) pe_int (fun _ _ => rfl)) pe_str (nomark _)) (pv 3) (pv 2))) (by with_unfolding_all rfl)) (pss_one (ps_raise1 rfl mW xW (pa_cons (pe_fstr (pj_cons pe_str (pj_cons (pe_fv (pv 5)) (pj_cons pe_str pj_nil))) (by decide)) pa_nil))) pss_nil)
      (pss_one (ps_if (pt_cmpR op_eq (pe_ix ix_tup (pv 4) pe_int (fun _ _ => rfl)) pe_str (nomark _))
        (pss_one (ps_dput hu (pv 2) (pv 5) (pe_call GO hr1 rfl mO kO bO .nil pass0 (pa_cons (pv 5) pa_nil)) rfl))
        (pss_one (ps_if (pt_cmpR op_eq (pe_ix ix_tup (pv 4) pe_int (fun _ _ => rfl)) pe_str (nomark _))
          (pss_one (ps_dput hu (pv 2) (pv 5) (pe_call GN hr rfl mN kN bN dN pass1 (pa_cons (pe_ix ix_tup (pv 4) pe_int (fun _ _ => rfl)) (pa_cons (pv 2) (pa_cons (pv 1) pa_nil)))) rfl))
          (pss_cons (ps_set (i:=6) scFaceOf.nd rfl (Or.inl rfl) (pe_callTy call_tuple_of (by rfl) mt bootTuple (pa_cons (pe_compX (own:=["kind"]) (caps:=["kinds","parts"]) (κ:=[2,1]) ⟨rfl,by decide +kernel,by decide +kernel,rfl,rfl,(fun y hy => by simp only [List.mem_cons,List.not_mem_nil,or_false] at hy; rcases hy with rfl | rfl <;> rfl),(fun y hy => by simp only [List.mem_cons,List.not_mem_nil,or_false] at hy; rcases hy with rfl | rfl <;> exact ⟨.inl rfl,rfl,.inl rfl⟩)⟩ rfl
              (pi_tup (pe_ix ix_tup (pv 4) pe_int (fun _ _ => rfl))) (fun _ _ _ _ _ => pg_name (i:=0) (show (["kind","kinds","parts"]:List Str).Nodup from by decide +kernel) rfl (Or.inl rfl)) (fun _ _ _ _ _ hps => pe_call GN hr rfl mN kN bN dN hps (pa_cons (pv 0) (pa_cons (pv 1) (pa_cons (pv 2) pa_nil))))) pa_nil)))
          (pss_one (ps_dput hu (pv 3) (pv 5) (pe_tup (pa_cons (pv 6) (pa_cons (pe_call GN hr (by rfl) mN kN bN dN pass1 (pa_cons (pe_ix ix_tup (pv 4) pe_int (fun _ _ => rfl)) (pa_cons (pv 2) (pa_cons (pv 1) pa_nil)))) pa_nil))) rfl))))))))))
    (pss_one (ps_ret (pe_make MF GI hr2 (by rfl) mC bI .nil pass0 (pa_cons (pv 2) (pa_cons (pv 3) pa_nil))))))),?_⟩
  intro d hd0
  have sd:=same_new hd0 (.dK [])
  intro e he0
  have se:=same_new he0 (.dK [])
  have he00:H e = none:=sd.free he0
  have nde:d ≠ e:=fun z => by rw [← z,upd_same] at he0; cases he0
  have s00:=sd.trans se
  refine ⟨_,rfl,l,rfl,⟨_,s00.tup hl⟩,for_tup (K:=K) (xs:=xs) (fun i σ H3 => ∃ (kv fv:List (Key × V)) (x4 x5 x6:Option V),σ = [some (.ref l),some (.ref g),some (.ref d),some (.ref e),x4,x5,x6] ∧ i ≤ its.length ∧ Same H H3 ∧ H3 d = some (.dK kv) ∧ H3 e = some (.dK fv) ∧ PkAt (KdAt K H3) kv (stA PG (its.take i)).1 ∧ PkAt (FunAt K H3) fv (stA PG (its.take i)).2)
    ⟨[],[],none,none,none,rfl,Nat.zero_le _,s00,se _ _ upd_same,upd_same,.nil,.nil⟩ ?_ ?_ ?_⟩
  · rintro i σ H3 _ ⟨kv,fv,x4,x5,x6,rfl,_,s3,_⟩
    exact s3.tup hl
  · rintro i y σ H3 hy ⟨kv,fv,x4,x5,x6,rfl,hi,s3,hd3,he3,hp1,hp2⟩
    have ns:=hok.ns pb hib i
    obtain ⟨it,hat,ib,hE,hN⟩:∃ it,ItAt K H y it ∧ IB it ∧ (∀ e' ∈ wrong PG (stA PG (its.take i)) it,∀ H',Same H H' → E (.ref (cErr CW CN CT e')) none H') ∧ (wrong PG (stA PG (its.take i)) it = [] → its[i]? = some it):=by
      rcases Nat.lt_or_ge i its.length with hlt | hge
      · obtain ⟨it,hit,hat⟩:=pair_get (j:=i) hits (by rw [List.getElem?_take_of_lt hlt]; exact hy)
        exact ⟨it,hat,hib it (List.mem_of_getElem? hit),fun e' he' => (by rw [hok i it hit] at he'; cases he'),fun _ => hit⟩
      · have ei:i = its.length:=by omega
        subst ei
        rcases q with ⟨hlen,_⟩ | ⟨v,it,hv,hat,ib,hw,hE⟩
        · have:=(List.getElem?_eq_some_iff.mp hy).1
          omega
        · rw [hy] at hv
          cases hv
          rw [List.take_length]
          exact ⟨it,hat,ib,fun e' he' H' s' => hE H' e' s' he',fun z => absurd z hw⟩
    replace hat:=hat.same s3
    have hg3:=s3 _ _ hg
    have hP3:=hP.same s3
    have ll:=stA_len (PG:=PG) (its.take i) ([],[])
    have l0:(its.take i).length ≤ 100:=Nat.le_trans (List.length_take_le' _ _) hl9
    have ll1:(stA PG (its.take i)).1.length ≤ 100:=by
      have:=ll.1
      show ((its.take i).foldl (nstep PG) ([],[])).1.length ≤ 100
      simp only [List.length_nil] at this
      omega
    have ll2:(stA PG (its.take i)).2.length ≤ 100:=by
      have:=ll.2
      show ((its.take i).foldl (nstep PG) ([],[])).2.length ≤ 100
      simp only [List.length_nil] at this
      omega
    have kl:kv.length = (stA PG (its.take i)).1.length:=Paired.length hp1
    have fl:fv.length = (stA PG (its.take i)).2.length:=Paired.length hp2
    have kz:kv.length < sizeLine:=Nat.lt_of_lt_of_le (Nat.lt_succ_self _) (small (by omega))
    have fz:fv.length < sizeLine:=Nat.lt_of_lt_of_le (Nat.lt_succ_self _) (small (by omega))
    have goOn:wrong PG (stA PG (its.take i)) it = [] → i + 1 ≤ its.length ∧ stA PG (its.take (i + 1)) = nstep PG (stA PG (its.take i)) it:=fun z => by
      have hit:=hN z
      exact ⟨(List.getElem?_eq_some_iff.mp hit).1,by rw [take_snoc hit,stA_snoc]⟩
    have keyK:∀ z:Str,(valV kv (.inr z)).isSome = decide (z ∈ (stA PG (its.take i)).1.map (·.1)):=fun z => by
      rcases look_val hp1 z with ⟨h1,h2⟩ | ⟨v,k,h1,h2,_⟩
      · rw [h1]
        refine (decide_eq_false fun hm => ?_).symm
        obtain ⟨x,hx⟩:=look_ex hm
        rw [h2] at hx
        cases hx
      · rw [h1]
        exact (decide_eq_true (List.mem_map.mpr ⟨_,look_in h2,rfl⟩)).symm
    have keyF:∀ z:Str,(valV fv (.inr z)).isSome = decide (z ∈ (stA PG (its.take i)).2.map (·.1)):=fun z => by
      rcases look_val hp2 z with ⟨h1,h2⟩ | ⟨v,k,h1,h2,_⟩
      · rw [h1]
        refine (decide_eq_false fun hm => ?_).symm
        obtain ⟨x,hx⟩:=look_ex hm
        rw [h2] at hx
        cases hx
      · rw [h1]
        exact (decide_eq_true (List.mem_map.mpr ⟨_,look_in h2,rfl⟩)).symm
    have twc:∀ (z:Str),smW z → twB (stA PG (its.take i)) it = true → E (.ref CW) none H3:=fun z hz tw => hE _ (wrong_tw tw) H3 s3
    have putK1:∀ (H4:Hp) (z:Str) (v:V) (k:Kd) (x4 x5 x6:Option V),Same H3 H4 → KdAt K H4 v k → wrong PG (stA PG (its.take i)) it = [] → nstep PG (stA PG (its.take i)) it = ((stA PG (its.take i)).1 ++ [(z,k)],(stA PG (its.take i)).2) → z ∉ (stA PG (its.take i)).1.map (·.1) →
        ∃ (kv' fv':List (Key × V)) (y4 y5 y6:Option V),[some (.ref l),some (.ref g),some (.ref d),some (.ref e),x4,x5,x6] = [some (.ref l),some (.ref g),some (.ref d),some (.ref e),y4,y5,y6] ∧ i + 1 ≤ its.length ∧ Same H (upd H4 d (.dK (putK kv (.inr z) v))) ∧ upd H4 d (.dK (putK kv (.inr z) v)) d = some (.dK kv') ∧ upd H4 d (.dK (putK kv (.inr z) v)) e = some (.dK fv') ∧ PkAt (KdAt K (upd H4 d (.dK (putK kv (.inr z) v)))) kv' (stA PG (its.take (i + 1))).1 ∧ PkAt (FunAt K (upd H4 d (.dK (putK kv (.inr z) v)))) fv' (stA PG (its.take (i + 1))).2:=by
      intro H4 z v k x4 x5 x6 s4 hv hw hst hz
      have hd4:=s4 _ _ hd3
      have kp:∀ a ys,SqT K H4 a ys → SqT K (upd H4 d (.dK (putK kv (.inr z) v))) a ys:=fun a ys t => sqt_dk hd4 t
      obtain ⟨g1,g2⟩:=goOn hw
      rw [g2,hst]
      refine ⟨_,fv,x4,x5,x6,rfl,g1,sput (s3.trans s4) hd0,upd_same,by rw [upd_ne (Ne.symm nde)]; exact s4 _ _ he3,PkAt.put (hp1.imp fun v' x' h => kd_keep (fun a ys t => kp a ys (s4.tup t)) h) hz (kd_keep kp hv),hp2.imp fun v' x' h => h.keep fun a ys t => kp a ys (s4.tup t)⟩
    cases it with
    | hid z =>
      obtain ⟨p,rfl,hp⟩:=hat
      have sz:smW z:=ib.w
      have zl:z.length ≤ sizeLine:=Nat.le_trans sz.2 (by decide)
      refine ⟨_,rfl,_,_,_,_,rfl,rfl,hp,(show atI [V.str "hid",.str z] 1 = some (.str z) from rfl),?_⟩
      refine ⟨_,rfl,_,rfl,_,_,_,_,rfl,rfl,hp,(show atI [V.str "hid",.str z] 0 = some (.str "hid") from rfl),rfl,_,rfl,ite2 (fun c => absurd c (by decide +kernel)) (fun _ => ?_)⟩
      refine ⟨_,rfl,d,_,rfl,DGet.k (k:=.inr z) hd3,_,rfl,?_⟩
      refine ite2 (fun c => ?_) (fun c => ?_)
      · have c':twB (stA PG (its.take i)) (.hid z) = true:=(keyK z).symm.trans c
        exact ⟨_,rfl,by decide +kernel,_,rfl,.inl ⟨z,rfl,zl,z,rfl,Nat.le_trans sz.2 (by decide),_,rfl,by decide +kernel,fun y hy => ⟨(by show 1 ≤ sizeLine; decide),twc z sz c'⟩⟩⟩
      have nz:z ∉ (stA PG (its.take i)).1.map (·.1):=of_decide_eq_false ((keyK z).symm.trans (Bool.eq_false_iff.mpr c))
      refine ⟨_,rfl,_,_,_,_,rfl,rfl,hp,(show atI [V.str "hid",.str z] 0 = some (.str "hid") from rfl),rfl,_,rfl,ite2 (fun _ => ?_) (fun c => absurd (by decide +kernel) c)⟩
      refine ⟨_,rfl,z,rfl,fun H4 x s4 hx => ?_⟩
      exact ⟨_,rfl,_,rfl,d,_,rfl,DPut.k (k:=.inr z) (s4 _ _ hd3) kz,putK1 _ z _ _ _ _ _ s4 hx (wrong_nil.mpr ⟨decide_eq_false nz,fun _ h => nomatch h⟩) rfl nz⟩
    | told z k =>
      obtain ⟨p,x,rfl,hp,hx⟩:=hat
      have sz:smW z:=ib.w
      have zl:z.length ≤ sizeLine:=Nat.le_trans sz.2 (by decide)
      refine ⟨_,rfl,_,_,_,_,rfl,rfl,hp,(show atI [V.str "told",.str z,x] 1 = some (.str z) from rfl),?_⟩
      refine ⟨_,rfl,_,rfl,_,_,_,_,rfl,rfl,hp,(show atI [V.str "told",.str z,x] 0 = some (.str "told") from rfl),rfl,_,rfl,ite2 (fun c => absurd c (by decide +kernel)) (fun _ => ?_)⟩
      refine ⟨_,rfl,d,_,rfl,DGet.k (k:=.inr z) hd3,_,rfl,?_⟩
      refine ite2 (fun c => ?_) (fun c => ?_)
      · have c':twB (stA PG (its.take i)) (.told z k) = true:=(keyK z).symm.trans c
        exact ⟨_,rfl,by decide +kernel,_,rfl,.inl ⟨z,rfl,zl,z,rfl,Nat.le_trans sz.2 (by decide),_,rfl,by decide +kernel,fun y hy => ⟨(by show 1 ≤ sizeLine; decide),twc z sz c'⟩⟩⟩
      have nz:z ∉ (stA PG (its.take i)).1.map (·.1):=of_decide_eq_false ((keyK z).symm.trans (Bool.eq_false_iff.mpr c))
      refine ⟨_,rfl,_,_,_,_,rfl,rfl,hp,(show atI [V.str "told",.str z,x] 0 = some (.str "told") from rfl),rfl,_,rfl,ite2 (fun c => absurd c (by decide +kernel)) (fun _ => ?_)⟩
      refine ⟨_,rfl,_,_,_,_,rfl,rfl,hp,(show atI [V.str "told",.str z,x] 0 = some (.str "told") from rfl),rfl,_,rfl,ite2 (fun _ => ?_) (fun c => absurd (by decide +kernel) c)⟩
      refine ⟨_,rfl,_,_,_,_,rfl,rfl,hp,(show atI [V.str "told",.str z,x] 2 = some x from rfl),_,rfl,_,rfl,nm_sp (CW:=CW) hx (ib.k k (.head _)) hd3 hp1 ns hg3 hP3 pb (fun e' he' H' s' => hE e' (wrong_k (.head _) he') H' (s3.trans s')) fun hk H4 v s4 hv => ?_⟩
      exact ⟨_,rfl,_,rfl,d,_,rfl,DPut.k (k:=.inr z) (s4 _ _ hd3) kz,putK1 _ z _ _ _ _ _ s4 hv (wrong_nil.mpr ⟨decide_eq_false nz,fun j hj => by rw [List.mem_singleton.mp hj]; exact hk⟩) rfl nz⟩
    | fn z as r =>
      obtain ⟨p,ta,x,ys,rfl,hp,hta,hks,hx⟩:=hat
      have sz:smW z:=ib.w
      have zl:z.length ≤ sizeLine:=Nat.le_trans sz.2 (by decide)
      refine ⟨_,rfl,_,_,_,_,rfl,rfl,hp,(show atI [V.str "fun",.str z,.ref ta,x] 1 = some (.str z) from rfl),?_⟩
      refine ⟨_,rfl,_,rfl,_,_,_,_,rfl,rfl,hp,(show atI [V.str "fun",.str z,.ref ta,x] 0 = some (.str "fun") from rfl),rfl,_,rfl,ite2 (fun _ => ?_) (fun c => absurd (by decide +kernel) c)⟩
      refine ⟨_,rfl,e,_,rfl,DGet.k (k:=.inr z) he3,_,rfl,?_⟩
      refine ite2 (fun c => ?_) (fun c => ?_)
      · have c':twB (stA PG (its.take i)) (.fn z as r) = true:=(keyF z).symm.trans c
        exact ⟨_,rfl,by decide +kernel,_,rfl,.inl ⟨z,rfl,zl,z,rfl,Nat.le_trans sz.2 (by decide),_,rfl,by decide +kernel,fun y hy => ⟨(by show 1 ≤ sizeLine; decide),twc z sz c'⟩⟩⟩
      have nz:z ∉ (stA PG (its.take i)).2.map (·.1):=of_decide_eq_false ((keyF z).symm.trans (Bool.eq_false_iff.mpr c))
      refine ⟨_,rfl,_,_,_,_,rfl,rfl,hp,(show atI [V.str "fun",.str z,.ref ta,x] 0 = some (.str "fun") from rfl),rfl,_,rfl,ite2 (fun c => absurd c (by decide +kernel)) (fun _ => ?_)⟩
      refine ⟨_,rfl,_,_,_,_,rfl,rfl,hp,(show atI [V.str "fun",.str z,.ref ta,x] 0 = some (.str "fun") from rfl),rfl,_,rfl,ite2 (fun c => absurd c (by decide +kernel)) (fun _ => ?_)⟩
      have hlx:=hks.length
      have l5:(as ++ [r]).length ≤ 5:=ib.n
      have l4:as.length ≤ 4:=by rw [List.length_append] at l5; simp only [List.length_singleton] at l5; omega
      have inA:∀ j ∈ as,j ∈ It.ks (.fn z as r):=fun j hj => List.mem_append_left _ hj
      have inR:r ∈ It.ks (.fn z as r):=List.mem_append_right _ (List.mem_singleton.mpr rfl)
      refine ⟨_,rfl,_,_,_,_,rfl,rfl,hp,(show atI [V.str "fun",.str z,.ref ta,x] 2 = some (.ref ta) from rfl),ta,rfl,⟨_,hta⟩,?_⟩
      refine comp_by (xs:=ys) (fun j us H4 => Same H3 H4 ∧ KdsAt K H4 us ((as.take j).map (Kd.put (Tl PG (stA PG (its.take i))))) ∧ us.length = j ∧ ∀ k ∈ as.take j,kErr PG (stA PG (its.take i)) k = none) ⟨Same.refl _,.nil,rfl,fun _ h => by simp at h⟩ (small (by omega)) ?_ ?_ ?_ ?_ ?_ ?_
      · rintro j us H4 ⟨_,_,h,_⟩
        exact Nat.le_of_eq h
      · rintro j u us H4 hu ⟨s4,_⟩
        exact ⟨_,_,s4.tup hta,hu⟩
      · rintro j us u H4 H' hn ⟨s4,_⟩ hy
        exact ⟨hy.1,hy.2 _ (s4.tup hta)⟩
      · rintro us H4 ⟨s4,_⟩
        exact ⟨_,s4.tup hta,Nat.le_refl _⟩
      · rintro j u us H4 N hN' hu ⟨s4,hus,hz,hke⟩
        obtain ⟨k1,hk1,hku⟩:=kds_get hks hu
        have hm:k1 ∈ as:=List.mem_of_getElem? hk1
        have et:as.take (j + 1) = as.take j ++ [k1]:=by rw [List.take_add_one,hk1]; rfl
        refine ⟨rfl,tYes_go ⟨_,rfl,_,rfl,_,rfl,nm_sp (CW:=CW) (hku.same s4) (ib.k k1 (inA k1 hm)) (s4 _ _ hd3) (hp1.imp fun _ _ h => h.same s4) ns (s4 _ _ hg3) (hP3.same s4) pb (fun e' he' H' s' => hE e' (wrong_k (inA k1 hm) he') H' (s3.trans (s4.trans s'))) fun hk H5 v s5 hv => hN' _ _ ⟨s4.trans s5,?_,?_,?_⟩⟩⟩
        · rw [et,List.map_append]
          exact (hus.same s5).append (one hv)
        · rw [List.length_append,hz]
          rfl
        · rw [et]
          intro k hk'
          rcases List.mem_append.mp hk' with h | h
          · exact hke k h
          · rw [List.mem_singleton.mp h]
            exact hk
      · rintro us H4 D ⟨s4,hus,hz,hke⟩ hD
        have eA:as.take ys.length = as:=by rw [hlx]; exact List.take_length
        rw [eA] at hus hke
        have e1:=same_new hD (.lst us)
        refine ⟨D,us,rfl,.inl ⟨SqL.of upd_same,fun ta' hta' => ?_⟩⟩
        have e2:=same_new hta' (.tup us)
        have s5:=s4.trans (e1.trans e2)
        refine ⟨_,rfl,_,rfl,_,_,_,_,rfl,rfl,s5.tup hp,(show atI [V.str "fun",.str z,.ref ta,x] 3 = some x from rfl),_,rfl,_,rfl,nm_sp (CW:=CW) (hx.same s5) (ib.k r inR) (s5 _ _ hd3) (hp1.imp fun _ _ h => h.same s5) ns (s5 _ _ hg3) (hP3.same s5) pb (fun e' he' H' s' => hE e' (wrong_k inR he') H' (s3.trans (s5.trans s'))) fun hk H6 x' s6 hx' => ?_⟩
        have hwn:wrong PG (stA PG (its.take i)) (.fn z as r) = []:=wrong_nil.mpr ⟨decide_eq_false nz,fun j hj => by
          rcases List.mem_append.mp hj with h | h
          · exact hke j h
          · rw [List.mem_singleton.mp h]; exact hk⟩
        obtain ⟨g1,g2⟩:=goOn hwn
        refine ⟨(by show 2 ≤ sizeLine; decide),fun p' hp' => ?_⟩
        have e7:=same_new hp' (.tup [.ref ta',x'])
        have s7:=s5.trans (s6.trans e7)
        have he7:=s7 _ _ he3
        refine ⟨_,rfl,_,rfl,e,_,rfl,DPut.k (k:=.inr z) he7 fz,?_⟩
        have kp:∀ a zs,SqT K (upd H6 p' (.tup [.ref ta',x'])) a zs → SqT K (upd (upd H6 p' (.tup [.ref ta',x'])) e (.dK (putK fv (.inr z) (.ref p')))) a zs:=fun a zs t => sqt_dk he7 t
        rw [g2]
        refine ⟨kv,_,_,_,_,rfl,g1,sput (s3.trans s7) he00,by rw [upd_ne nde]; exact s7 _ _ hd3,upd_same,hp1.imp fun _ _ h => kd_keep (fun a zs t => kp a zs (s7.tup t)) h,?_⟩
        refine PkAt.put (hp2.imp fun _ _ h => h.keep fun a zs t => kp a zs (s7.tup t)) nz ⟨p',ta',x',us,rfl,kp _ _ (SqT.of upd_same),kp _ _ (SqT.of (e7 _ _ (s6 _ _ upd_same))),kds_keep (fun a zs t => kp a zs ((e1.trans (e2.trans (s6.trans e7))).tup t)) hus,kd_keep (fun a zs t => kp a zs (e7.tup t)) hx'⟩
  · rintro σ H3 ⟨kv,fv,x4,x5,x6,rfl,hi,s3,hd3,he3,hp1,hp2⟩
    rcases q with ⟨hlen,q⟩ | ⟨v,it,hv,_⟩
    rotate_left
    · have:=(List.getElem?_eq_some_iff.mp hv).1
      omega
    rw [hlen,List.take_length] at hp1 hp2
    refine ⟨_,rfl,_,rfl,fun x dx' nx ndx nex => ?_⟩
    have ea:=same_new ndx (.own x)
    have nx':upd H3 dx' (.own x) x = none:=by rw [upd_ne (Ne.symm nex)]; exact nx
    have eb:=same_new nx' (.ins CF dx' [])
    have eab:=ea.trans eb
    refine ⟨x,dx',d,e,kv,fv,rfl,upd_same,eab _ _ hd3,eab _ _ he3,fun d2 e2 fs' H7 hd he nde2 hx lk lf lh lp hd7 he7 keep => ⟨rfl,?_⟩⟩
    have s7:Same H3 H7:=fun b o hb => keep b o (eab _ _ hb) (fun z => by rw [z,nx] at hb; cases hb)
    exact q H7 x (s3.trans s7) (s3.free nx) ⟨dx',d2,e2,fs',kv,fv,(s3.trans eab).free hd,(s3.trans eab).free he,nde2,hx,lk,lf,hd7,he7,hp1.imp fun v y h => h.same s7,hp2.imp fun v y h => h.keep fun a xs t => s7.tup t,lh,lp⟩
end
end K24
namespace K24
open PySem L2 Kk
theorem at2 (c:Int) (a b:V):∃ x,atI [a,b] (c % 2) = some x ∧ (x = a ∨ x = b):=by
  have r0:=Int.emod_nonneg c (show (2:Int) ≠ 0 by decide)
  have r1:=Int.emod_lt_of_pos c (show (0:Int) < 2 by decide)
  have h3:c % 2 = 0 ∨ c % 2 = 1:=by omega
  rcases h3 with e | e <;> rw [e]
  · exact ⟨a,rfl,.inl rfl⟩
  · exact ⟨b,rfl,.inr rfl⟩
theorem at_len (c:Int) {ws:List Str} (h:0 < ws.length):∃ z ∈ ws,atI (ws.map V.str) (c % ((ws.map V.str).length:Int)) = some (.str z):=by
  rw [List.length_map]
  have a0:0 ≤ c % (ws.length:Int):=Int.emod_nonneg _ (by omega)
  have a1:c % (ws.length:Int) < (ws.length:Int):=Int.emod_lt_of_pos _ (by omega)
  have hj:(c % (ws.length:Int)).toNat < ws.length:=by omega
  refine ⟨ws[(c % (ws.length:Int)).toNat],List.getElem_mem hj,?_⟩
  have e:c % (ws.length:Int) = (((c % (ws.length:Int)).toNat:Nat):Int):=by omega
  have q:atI (ws.map V.str) (((c % (ws.length:Int)).toNat:Nat):Int) = some (V.str ws[(c % (ws.length:Int)).toNat]):=atI_nat (by rw [List.getElem?_map,List.getElem?_eq_getElem hj]; rfl)
  rw [← e] at q
  exact q
noncomputable def spLeaf (K:PySem.W.Frag):Sp:=fun vs H Q _ => ∃ (c:Int) (l:Addr) (ws:List Str) (z:Str),vs = [.int c,.ref l,.str z] ∧ SqL K H l (ws.map V.str) ∧ 0 < ws.length ∧ (∀ x ∈ ws,smW x) ∧ smW z ∧ ∀ H' v k,Same H H' → KdAt K H' v k → Kd.sm k → k.words = 1 → Q v H'
noncomputable def spKindL (K:PySem.W.Frag):Sp:=fun vs H Q _ => ∃ (c:Int) (l:Addr) (ws:List Str) (z:Str),vs = [.int c,.ref l,.str z] ∧ SqL K H l (ws.map V.str) ∧ 0 < ws.length ∧ (∀ x ∈ ws,smW x) ∧ smW z ∧ ∀ H' v k,Same H H' → KdAt K H' v k → KB k → Q v H'
theorem smW_out:smW "out":=⟨by decide +kernel,by decide +kernel⟩
theorem smW_near:smW "near":=⟨by decide +kernel,by decide +kernel⟩
theorem smW_zz:smW "zz":=⟨by decide +kernel,by decide +kernel⟩
theorem smW_lost:smW "lost":=⟨by decide +kernel,by decide +kernel⟩
theorem smW_nil:smW "":=⟨by decide +kernel,by decide +kernel⟩
section
variable {P:Program} {w:World} {K:PySem.W.Frag} {mg:Str → Option Value} {base:Heap}
noncomputable abbrev lfN:List Str:=["_law_cell_here","_law_words","_law_q","_law_which"]
noncomputable abbrev lfP:List Str:=["_law_cell_here","_law_words","_law_q"]
theorem scLeaf:FnScope lfN lfP (defScope sLeaf):=⟨rfl,rfl,rfl,by decide +kernel,rfl,by decide +kernel,by decide +kernel⟩
theorem ok_leaf {f:Addr} {fd:FuncData} (F:Fun K "_law_leaf" "_law_leaf" sLeaf f fd) (ml:mg "len" = none):FnOk P w K mg base CX0 1 f fd lfP (spLeaf K):=by
  refine F.ok scLeaf (fun vs H Q E h => ?_) (fun cdv A outer s H vs Q E hr h => ?_)
  · obtain ⟨c,l,ws,z,rfl,_⟩:=h
    rfl
  obtain ⟨c,l,ws,z,rfl,hl,hn,hw,hz,q⟩:=h
  refine ⟨_,pss_cons (ps_set (i:=3) scLeaf.nd rfl (Or.inl rfl) (pe_op op_mod (pv 0) pe_int))
    (pss_cons (ps_if (pt_cmpR op_lt (pv 3) pe_int (nomark _)) (pss_one (ps_ret (pe_tup (pa_cons pe_str (pa_cons (pe_op op_add pe_int (pe_op op_mod (pe_op op_fdiv (pv 0) pe_int) (pe_op op_pow pe_int pe_int))) pa_nil))))) pss_nil)
    (pss_cons (ps_if (pt_cmpR op_eq (pv 3) pe_int (nomark _)) (pss_one (ps_ret (pe_tup (pa_cons pe_str (pa_cons (pv 2) (pa_cons (pe_ix ix_list (pe_lst (pa_cons pe_str (pa_cons pe_str pa_nil))) (pe_op op_mod (pe_op op_fdiv (pv 0) pe_int) pe_int) (fun _ _ => rfl)) pa_nil)))))) pss_nil)
    (pss_cons (ps_if (PW.pt (pw_and (pt_cmpR op_eq (pv 3) pe_int (nomark _)) (pw_and1 (pt_cmpR op_eq (pe_op op_mod (pe_op op_fdiv (pv 0) pe_int) pe_int) pe_int (nomark _)))))
      (pss_one (ps_ret (pe_tup (pa_cons pe_str (pa_cons (pe_ix ix_list (pe_lst (pa_cons (pv 2) (pa_cons pe_str pa_nil))) (pe_op op_mod (pe_op op_fdiv (pv 0) pe_int) pe_int) (fun _ _ => rfl)) (pa_cons pe_str pa_nil)))))) pss_nil)
    (pss_one (ps_ret (pe_tup (pa_cons pe_str (pa_cons pe_str (pa_cons (pe_ix ix_list (pv 1) (pe_op op_mod (pe_op op_fdiv (pv 0) pe_int) (pe_callB call_len_seq rfl ml PySem.boot_len (pa_cons (pv 1) pa_nil))) (fun _ _ => rfl)) pa_nil))))))))),?_⟩
  refine ⟨_,rfl,_,_,rfl,rfl,(by show (0:Int) < 8; decide),?_⟩
  refine ⟨_,rfl,_,_,rfl,rfl,_,rfl,ite2 (fun _ => ?_) (fun _ => ?_)⟩
  · refine ⟨_,rfl,_,_,rfl,rfl,⟨by decide,by decide⟩,_,_,rfl,rfl,⟨by decide,by decide,by decide⟩,_,_,rfl,rfl,e18,_,_,rfl,rfl,(by show 2 ≤ sizeLine; decide),fun a ha => ?_⟩
    exact q _ _ _ (same_new ha _) (.num (SqT.of upd_same)) (sm_num _) rfl
  refine ⟨_,rfl,rfl,_,rfl,ite2 (fun _ => ?_) (fun _ => ?_)⟩
  · obtain ⟨x,hx,hx2⟩:=at2 (c / 8) (V.str "out") (V.str "near")
    refine ⟨_,rfl,(by show 2 ≤ sizeLine; decide),fun p hp => ?_⟩
    have sp:=same_new hp (.lst [.str "out",.str "near"])
    refine ⟨_,rfl,_,_,rfl,rfl,⟨by decide,by decide⟩,_,_,rfl,rfl,(by show (0:Int) < 2; decide),p,_,_,_,rfl,rfl,SqL.of upd_same,hx,(by show 3 ≤ sizeLine; decide),fun a ha => ?_⟩
    obtain ⟨t,rfl,ht⟩:∃ t,x = .str t ∧ smW t:=by
      rcases hx2 with e | e
      · exact ⟨_,e,smW_out⟩
      · exact ⟨_,e,smW_near⟩
    exact q _ _ _ (sp.trans (same_new ha _)) (.name (SqT.of upd_same)) ⟨hz,ht⟩ rfl
  have rest:∀ (σ:St) ,True:=fun _ => trivial
  have last:∃ z' ∈ ws,atI (ws.map V.str) (c / 8 % ((ws.map V.str).length:Int)) = some (.str z'):=at_len _ hn
  obtain ⟨z',hz',hat⟩:=last
  have lp:(0:Int) < ((ws.map V.str).length:Int):=by rw [List.length_map]; omega
  have fin:∀ H,SqL K H l (ws.map V.str) → (∀ a,H a = none → ∀ H',H' = upd H a (.tup [.str "name",.str "",.str z']) → Q (.ref a) H') → True:=fun _ _ _ => trivial
  refine ⟨_,rfl,rfl,_,rfl,ite2 (fun _ => ?_) (fun _ => ?_)⟩
  · refine ⟨_,rfl,_,_,rfl,rfl,⟨by decide,by decide⟩,_,_,rfl,rfl,(by show (0:Int) < 16; decide),rfl,_,rfl,ite2 (fun _ => ?_) (fun _ => ?_)⟩
    · obtain ⟨x,hx,hx2⟩:=at2 (c / 128) (V.str z) (V.str "zz")
      refine ⟨_,rfl,(by show 2 ≤ sizeLine; decide),fun p hp => ?_⟩
      have sp:=same_new hp (.lst [.str z,.str "zz"])
      refine ⟨_,rfl,_,_,rfl,rfl,⟨by decide,by decide⟩,_,_,rfl,rfl,(by show (0:Int) < 2; decide),p,_,_,_,rfl,rfl,SqL.of upd_same,hx,(by show 3 ≤ sizeLine; decide),fun a ha => ?_⟩
      obtain ⟨t,rfl,ht⟩:∃ t,x = .str t ∧ smW t:=by
        rcases hx2 with e | e
        · exact ⟨_,e,hz⟩
        · exact ⟨_,e,smW_zz⟩
      exact q _ _ _ (sp.trans (same_new ha _)) (.name (SqT.of upd_same)) ⟨ht,smW_lost⟩ rfl
    · refine ⟨_,rfl,_,rfl,_,_,rfl,rfl,⟨by decide,by decide⟩,_,rfl,l,_,rfl,.inl hl,_,_,rfl,rfl,lp,l,_,_,_,rfl,rfl,hl,hat,(by show 3 ≤ sizeLine; decide),fun a ha => ?_⟩
      exact q _ _ _ (same_new ha _) (.name (SqT.of upd_same)) ⟨smW_nil,hw _ hz'⟩ rfl
  · refine ⟨_,rfl,_,rfl,_,_,rfl,rfl,⟨by decide,by decide⟩,_,rfl,l,_,rfl,.inl hl,_,_,rfl,rfl,lp,l,_,_,_,rfl,rfl,hl,hat,(by show 3 ≤ sizeLine; decide),fun a ha => ?_⟩
    exact q _ _ _ (same_new ha _) (.name (SqT.of upd_same)) ⟨smW_nil,hw _ hz'⟩ rfl
noncomputable abbrev kdN:List Str:=["_law_cell_here","_law_words","_law_q","_law_kind_here"]
theorem scKindL:FnScope kdN lfP (defScope sKindL):=⟨rfl,rfl,rfl,by decide +kernel,rfl,by decide +kernel,by decide +kernel⟩
theorem ok_kindL {f fl:Addr} {fd fdl:FuncData} (F:Fun K "_law_kind" "_law_kind" sKindL f fd) (GL:FnOk P w K mg base CX0 1 fl fdl lfP (spLeaf K)) (bL:Binds K fdl lfP []) (kL:PySem.W.keepIn K (.ref fl) = true) (mL:mg "_law_leaf" = some (.ref fl)):FnOk P w K mg base CX0 2 f fd lfP (spKindL K):=by
  refine F.ok scKindL (fun vs H Q E h => ?_) (fun cdv A outer s H vs Q E hr h => ?_)
  · obtain ⟨c,l,ws,z,rfl,_⟩:=h
    rfl
  obtain ⟨c,l,ws,z,rfl,hl,hn,hw,hz,q⟩:=h
  refine ⟨_,pss_cons (ps_set (i:=3) scKindL.nd rfl (Or.inl rfl) (pe_call GL hr rfl mL kL bL .nil pass0 (pa_cons (pe_op op_fdiv (pv 0) pe_int) (pa_cons (pv 1) (pa_cons (pv 2) pa_nil)))))
    (pss_cons (ps_if (pt_cmpR op_eq (pe_op op_mod (pv 0) pe_int) pe_int (nomark _)) (pss_one (ps_set (i:=3) scKindL.nd rfl (Or.inl rfl) (pe_tup (pa_cons pe_str (pa_cons (pv 3) (pa_cons (pe_call GL hr rfl mL kL bL .nil pass0 (pa_cons (pe_op op_add (pe_op op_fdiv (pv 0) pe_int) pe_int) (pa_cons (pv 1) (pa_cons (pv 2) pa_nil)))) pa_nil)))))) pss_nil)
    (pss_cons (ps_if (pt_cmpR op_eq (pe_op op_mod (pv 0) pe_int) pe_int (nomark _)) (pss_one (ps_set (i:=3) scKindL.nd rfl (Or.inl rfl) (pe_tup (pa_cons pe_str (pa_cons (pv 3) (pa_cons (pe_tup (pa_cons pe_str (pa_cons (pe_call GL hr rfl mL kL bL .nil pass0 (pa_cons (pe_op op_add (pe_op op_fdiv (pv 0) pe_int) pe_int) (pa_cons (pv 1) (pa_cons (pv 2) pa_nil)))) (pa_cons (pv 3) pa_nil)))) pa_nil)))))) pss_nil)
    (pss_one (ps_ret (pv 3))))),?_⟩
  refine ⟨_,rfl,_,_,rfl,rfl,⟨by decide,by decide⟩,_,rfl,_,rfl,c / 4,l,ws,z,rfl,hl,hn,hw,hz,fun H1 v k s1 hv sk wk => ?_⟩
  refine ⟨_,rfl,_,_,rfl,rfl,(by show (0:Int) < 4; decide),rfl,_,rfl,ite2 (fun c1 => ?_) (fun _ => ?_)⟩
  · have c1':c % 4 = 1:=by
      have:=of_decide_eq_true c1
      injection this
    refine ⟨_,rfl,_,rfl,_,_,rfl,rfl,⟨by decide,by decide⟩,_,_,rfl,rfl,_,rfl,_,rfl,c / 5 + 3,l,ws,z,rfl,sql_same s1 hl,hn,hw,hz,fun H2 v2 k2 s2 hv2 sk2 wk2 => ⟨(by show 3 ≤ sizeLine; decide),fun a ha => ?_⟩⟩
    have sa:=same_new ha (.tup [.str "pair",v,v2])
    refine ⟨_,rfl,_,_,rfl,rfl,(by show (0:Int) < 4; decide),rfl,_,rfl,ite2 (fun c2 => ?_) (fun _ => ?_)⟩
    · have:=of_decide_eq_true c2
      injection this with this
      omega
    exact ⟨_,rfl,q _ _ _ (s1.trans (s2.trans sa)) (.pair (SqT.of upd_same) (hv.same (s2.trans sa)) (hv2.same sa)) ⟨⟨sk,sk2⟩,by show 1 + k.words + k2.words ≤ 5; omega⟩⟩
  refine ⟨_,rfl,_,_,rfl,rfl,(by show (0:Int) < 4; decide),rfl,_,rfl,ite2 (fun c2 => ?_) (fun _ => ?_)⟩
  · refine ⟨_,rfl,_,rfl,_,_,rfl,rfl,⟨by decide,by decide⟩,_,_,rfl,rfl,_,rfl,_,rfl,c / 7 + 5,l,ws,z,rfl,sql_same s1 hl,hn,hw,hz,fun H2 v2 k2 s2 hv2 sk2 wk2 => ⟨_,rfl,(by show 3 ≤ sizeLine; decide),fun a ha => ⟨(by show 3 ≤ sizeLine; decide),fun b hb => ?_⟩⟩⟩
    have sa:=same_new ha (.tup [.str "pair",v2,v])
    have sb:=same_new hb (.tup [.str "pair",v,.ref a])
    exact ⟨_,rfl,q _ _ _ (s1.trans (s2.trans (sa.trans sb))) (.pair (SqT.of upd_same) (hv.same (s2.trans (sa.trans sb))) (.pair (SqT.of (sb _ _ upd_same)) (hv2.same (sa.trans sb)) (hv.same (s2.trans (sa.trans sb))))) ⟨⟨sk,sk2,sk⟩,by show 1 + k.words + (1 + k2.words + k.words) ≤ 5; omega⟩⟩
  exact ⟨_,rfl,q _ _ _ s1 hv ⟨sk,by omega⟩⟩
end
end K24
namespace K24
open PySem L2 Kk
noncomputable def outO (T:Str × Str → Option Kd) (k:Kd):Option Kd:=if lackB T k = true then none else some (Kd.put T k)
noncomputable def OptAt (K:PySem.W.Frag) (H:Hp) (v:V):Option Kd → Prop
  | none => v = .non
  | some k => KdAt K H v k ∧ v ≠ .non
theorem kd_non {K:PySem.W.Frag} {H:Hp} {v:V} {k:Kd} (h:KdAt K H v k):v ≠ .non:=by
  cases h <;> exact fun z => nomatch z
theorem OptAt.same {K:PySem.W.Frag} {H H':Hp} (s:Same H H') {v:V}:∀ {o:Option Kd},OptAt K H v o → OptAt K H' v o
  | none,h => h
  | some _,⟨h,n⟩ => ⟨h.same s,n⟩
noncomputable def tell2 (OG:Str → Option Kd) (G:Str × Str → Option Kd):Str × Str → Option Kd:=fun n => if n.1 = "" then OG n.2 else G n
noncomputable def spOut (K:PySem.W.Frag) (n:Nat):Sp:=fun vs H Q _ => ∃ (x:V) (k:Kd) (o g:Addr) (okv:List (Key × V)) (kvs:List (List Key × V)) (OG:Str → Option Kd) (G:Str × Str → Option Kd),vs = [x,.ref o,.ref g] ∧ KdAt K H x k ∧ Kd.depth k ≤ n ∧ H o = some (.dK okv) ∧ KvAt K H okv OG ∧ H g = some (.dT kvs) ∧ GvAt K H kvs G ∧
  ∀ H' v,Same H H' → OptAt K H' v (outO (tell2 OG G) k) → Q v H'
theorem lack_pair (T:Str × Str → Option Kd) (a b:Kd):lackB T (.pair a b) = (lackB T a || lackB T b):=by
  unfold lackB
  rw [show Kd.names (.pair a b) = Kd.names a ++ Kd.names b from rfl,List.any_append]
section
variable {P:Program} {w:World} {K:PySem.W.Frag} {mg:Str → Option Value} {base:Heap}
noncomputable abbrev ouN:List Str:=["_law_kind_here","_law_own","_law_away","_law_one","_law_other"]
noncomputable abbrev ouP:List Str:=["_law_kind_here","_law_own","_law_away"]
theorem scOut:FnScope ouN ouP (defScope sOut):=⟨rfl,rfl,rfl,by decide +kernel,rfl,by decide +kernel,by decide +kernel⟩
theorem ok_out {f:Addr} {fd:FuncData} (F:Fun K "_law_out" "_law_out" sOut f fd) (bP:Binds K fd ouP []) (kP:PySem.W.keepIn K (.ref f) = true) (mP:mg "_law_out" = some (.ref f)):∀ n,FnOk P w K mg base CX0 n f fd ouP (spOut K n)
  | 0 => ⟨fun vs H Q E h => by obtain ⟨x,k,o,g,okv,kvs,OG,G,rfl,_⟩:=h; rfl,fun A outer s H args us vs Q E _ _ _ _ h => by
      obtain ⟨x,k,o,g,okv,kvs,OG,G,_,_,hd,_⟩:=h
      have:=depth_pos k
      omega⟩
  | n + 1 => by
    have IH:=ok_out F bP kP mP n
    refine F.ok scOut (fun vs H Q E h => ?_) (fun cdv A outer s H vs Q E hr h => ?_)
    · obtain ⟨x,k,o,g,okv,kvs,OG,G,rfl,_⟩:=h
      rfl
    obtain ⟨x,k,o,g,okv,kvs,OG,G,rfl,hk,hd,ho,hO,hg,hG,q⟩:=h
    have hu:=hu_of hr
    refine ⟨_,pss_cons (ps_if (pt_cmpR op_eq (pe_ix ix_tup (pv 0) pe_int (fun _ _ => rfl)) pe_str (nomark _))
        (pss_cons (ps_set (i:=3) scOut.nd rfl (Or.inl rfl) (pe_call IH hr rfl mP kP bP .nil pass0 (pa_cons (pe_ix ix_tup (pv 0) pe_int (fun _ _ => rfl)) (pa_cons (pv 1) (pa_cons (pv 2) pa_nil)))))
        (pss_cons (ps_set (i:=4) scOut.nd rfl (Or.inl rfl) (pe_call IH hr rfl mP kP bP .nil pass0 (pa_cons (pe_ix ix_tup (pv 0) pe_int (fun _ _ => rfl)) (pa_cons (pv 1) (pa_cons (pv 2) pa_nil)))))
        (pss_cons (ps_if (PW.pt (pw_or (pt_cmpR op_isN (pv 3) pe_non (nomark _)) (pw_or1 (pt_cmpR op_isN (pv 4) pe_non (nomark _))))) (pss_one (ps_ret pe_non)) pss_nil)
        (pss_one (ps_ret (pe_tup (pa_cons pe_str (pa_cons (pv 3) (pa_cons (pv 4) pa_nil)))))))))  pss_nil)
      (pss_cons (ps_if (pt_cmpR op_eq (pe_ix ix_tup (pv 0) pe_int (fun _ _ => rfl)) pe_str (nomark _)) (pss_one (ps_ret (pv 0))) pss_nil)
      (pss_cons (ps_if (pt_cmpR op_eq (pe_ix ix_tup (pv 0) pe_int (fun _ _ => rfl)) pe_str (nomark _)) (pss_one (ps_ret (pe_dget2 hu (pv 1) (pe_ix ix_tup (pv 0) pe_int (fun _ _ => rfl)) pe_non ⟨rfl,rfl,rfl,rfl⟩))) pss_nil)
      (pss_one (ps_ret (pe_dget2 hu (pv 2) (pe_tup (pa_cons (pe_ix ix_tup (pv 0) pe_int (fun _ _ => rfl)) (pa_cons (pe_ix ix_tup (pv 0) pe_int (fun _ _ => rfl)) pa_nil))) pe_non ⟨rfl,rfl,rfl,rfl⟩))))),?_⟩
    cases hk with
    | @num p m t =>
      refine ⟨_,rfl,_,_,_,_,rfl,rfl,t,(show atI [V.str "num",.int m] 0 = some (.str "num") from rfl),rfl,_,rfl,ite2 (fun c => absurd c (by decide +kernel)) (fun _ => ?_)⟩
      refine ⟨_,rfl,_,_,_,_,rfl,rfl,t,(show atI [V.str "num",.int m] 0 = some (.str "num") from rfl),rfl,_,rfl,ite2 (fun _ => ?_) (fun c => absurd (by decide +kernel) c)⟩
      exact ⟨_,rfl,q _ _ (Same.refl _) ⟨.num t,fun z => nomatch z⟩⟩
    | @name p a b t =>
      refine ⟨_,rfl,_,_,_,_,rfl,rfl,t,(show atI [V.str "name",.str a,.str b] 0 = some (.str "name") from rfl),rfl,_,rfl,ite2 (fun c => absurd c (by decide +kernel)) (fun _ => ?_)⟩
      refine ⟨_,rfl,_,_,_,_,rfl,rfl,t,(show atI [V.str "name",.str a,.str b] 0 = some (.str "name") from rfl),rfl,_,rfl,ite2 (fun c => absurd c (by decide +kernel)) (fun _ => ?_)⟩
      have eT:outO (tell2 OG G) (.name a b) = tell2 OG G (a,b):=by
        unfold outO lackB
        show (if ((tell2 OG G (a,b)).isNone || false) = true then none else some ((tell2 OG G (a,b)).getD _)) = _
        cases tell2 OG G (a,b) with
        | none => rfl
        | some k => rfl
      refine ⟨_,rfl,_,_,_,_,rfl,rfl,t,(show atI [V.str "name",.str a,.str b] 1 = some (.str a) from rfl),rfl,_,rfl,ite2 (fun c => ?_) (fun c => ?_)⟩
      · have e:a = "":=by
          have:=of_decide_eq_true c
          injection this
        have e2:tell2 OG G (a,b) = OG b:=if_pos e
        refine ⟨_,rfl,o,rfl,.inl ⟨okv,.inl ho⟩,_,rfl,_,_,_,_,rfl,rfl,t,(show atI [V.str "name",.str a,.str b] 2 = some (.str b) from rfl),_,DGet.k (k:=.inr b) ho,q _ _ (Same.refl _) ?_⟩
        rw [eT,e2]
        rcases hO b with ⟨h1,h2⟩ | ⟨v,k',h1,h2,h3⟩
        · rw [h1,h2]
          exact rfl
        · rw [h1,h2]
          exact ⟨h3,kd_non h3⟩
      · have e:¬ a = "":=fun z => c (decide_eq_true (by rw [z]))
        have e2:tell2 OG G (a,b) = G (a,b):=if_neg e
        refine ⟨_,rfl,g,rfl,.inr ⟨kvs,.inl hg⟩,_,rfl,_,_,_,_,rfl,rfl,t,(show atI [V.str "name",.str a,.str b] 1 = some (.str a) from rfl),_,rfl,_,_,_,_,rfl,rfl,t,(show atI [V.str "name",.str a,.str b] 2 = some (.str b) from rfl),(by show 2 ≤ sizeLine; decide),fun y hy => ?_⟩
        have sy:=same_new hy (.tup [.str a,.str b])
        refine ⟨_,DGet.t (k:=keyN (a,b)) (sy _ _ hg) upd_same,q _ _ sy ?_⟩
        rw [eT,e2]
        rcases hG (a,b) with ⟨h1,h2⟩ | ⟨v,k',h1,h2,h3⟩
        · rw [h1,h2]
          exact rfl
        · rw [h1,h2]
          exact ⟨h3.same sy,kd_non h3⟩
    | @pair p y z a b t ha hb =>
      have hd':1 + max (Kd.depth a) (Kd.depth b) ≤ n + 1:=hd
      refine ⟨_,rfl,_,_,_,_,rfl,rfl,t,(show atI [V.str "pair",y,z] 0 = some (.str "pair") from rfl),rfl,_,rfl,ite2 (fun _ => ?_) (fun c => absurd (by decide +kernel) c)⟩
      refine ⟨_,rfl,_,_,_,_,rfl,rfl,t,(show atI [V.str "pair",y,z] 1 = some y from rfl),_,rfl,_,rfl,y,a,o,g,okv,kvs,OG,G,rfl,ha,by omega,ho,hO,hg,hG,fun H1 v1 s1 k1 => ?_⟩
      refine ⟨_,rfl,_,_,_,_,rfl,rfl,s1.tup t,(show atI [V.str "pair",y,z] 2 = some z from rfl),_,rfl,_,rfl,z,b,o,g,okv,kvs,OG,G,rfl,hb.same s1,by omega,s1 _ _ ho,hO.same s1,s1 _ _ hg,hG.same s1,fun H2 v2 s2 k2 => ?_⟩
      replace k1:=k1.same s2
      have no:lackB (tell2 OG G) (.pair a b) = true → ∀ H',Same H H' → Q .non H':=fun l H' s' => q _ _ s' (by unfold outO; rw [if_pos l]; exact rfl)
      refine ⟨_,rfl,rfl,_,rfl,ite2 (fun c => ?_) (fun c => ?_)⟩
      · refine ite2 (fun _ => ?_) (fun z => absurd rfl z)
        refine no ?_ _ (s1.trans s2)
        rw [lack_pair]
        have:v1 = .non:=of_decide_eq_true c
        cases l:lackB (tell2 OG G) a with
        | true => rfl
        | false =>
          unfold outO at k1
          rw [l,if_neg Bool.false_ne_true] at k1
          exact absurd this k1.2
      have n1:¬ v1 = .non:=of_decide_eq_false (Bool.eq_false_iff.mpr c)
      have l1:lackB (tell2 OG G) a = false:=by
        cases l:lackB (tell2 OG G) a with
        | false => rfl
        | true =>
          unfold outO at k1
          rw [l,if_pos rfl] at k1
          exact absurd k1 n1
      refine ⟨_,rfl,rfl,_,rfl,ite2 (fun c => ?_) (fun c => ?_)⟩
      · refine no ?_ _ (s1.trans s2)
        rw [lack_pair,l1]
        have:v2 = .non:=of_decide_eq_true c
        cases l:lackB (tell2 OG G) b with
        | true => rfl
        | false =>
          unfold outO at k2
          rw [l,if_neg Bool.false_ne_true] at k2
          exact absurd this k2.2
      have n2:¬ v2 = .non:=of_decide_eq_false (Bool.eq_false_iff.mpr c)
      have l2:lackB (tell2 OG G) b = false:=by
        cases l:lackB (tell2 OG G) b with
        | false => rfl
        | true =>
          unfold outO at k2
          rw [l,if_pos rfl] at k2
          exact absurd k2 n2
      unfold outO at k1 k2
      rw [l1,if_neg Bool.false_ne_true] at k1
      rw [l2,if_neg Bool.false_ne_true] at k2
      refine ⟨_,rfl,_,rfl,(by show 3 ≤ sizeLine; decide),fun c hc => q _ _ (same_trans (same_trans s1 s2) (same_new hc _)) ?_⟩
      unfold outO
      rw [lack_pair,l1,l2,if_neg (by decide)]
      exact ⟨.pair (SqT.of upd_same) (k1.1.same (same_new hc _)) (k2.1.same (same_new hc _)),fun z => nomatch z⟩
noncomputable def spSizeL (K:PySem.W.Frag):Sp:=fun vs H Q _ => ∃ (x:V) (k:Kd),vs = [x] ∧ KdAt K H x k ∧ k.words ≤ 900 ∧ ∀ H',Same H H' → Q (.int k.words) H'
noncomputable abbrev szN:List Str:=["_law_kind_here","_law_left","_law_many","_law_one"]
theorem scSizeL:FnScope szN ["_law_kind_here"] (defScope sSizeL):=⟨rfl,rfl,rfl,by decide +kernel,rfl,by decide +kernel,by decide +kernel⟩
theorem ok_sizeL {f:Addr} {fd:FuncData} (F:Fun K "_law_size" "_law_size" sSizeL f fd) (ml:mg "len" = none):FnOk P w K mg base CX0 1 f fd ["_law_kind_here"] (spSizeL K):=by
  refine F.ok scSizeL (fun vs H Q E h => ?_) (fun cdv A outer s H vs Q E hr h => ?_)
  · obtain ⟨x,k,rfl,_⟩:=h
    rfl
  obtain ⟨x,k,rfl,hk,h9,q⟩:=h
  refine ⟨_,pss_cons (ps_set (i:=1) scSizeL.nd rfl (Or.inl rfl) (pe_lst (pa_cons (pv 0) pa_nil)))
    (pss_cons (ps_set (i:=2) scSizeL.nd rfl (Or.inl rfl) pe_int)
    (pss_cons (ps_while PassesOwn.never (pt_cmpR op_gt (pe_callB call_len_seq rfl ml PySem.boot_len (pa_cons (pv 1) pa_nil)) pe_int (nomark _))
      (pss_cons (ps_set (i:=3) scSizeL.nd rfl (Or.inl rfl) (pe_bm0 PySem.F.plainAttrs_list PySem.F.slot_list_pop PySem.F.type_list_pop mt_pop (pv 1)))
      (pss_cons (ps_set (i:=2) scSizeL.nd rfl (Or.inl rfl) (pe_op op_add (pv 2) pe_int))
      (pss_one (ps_if (pt_cmpR op_eq (pe_ix ix_tup (pv 3) pe_int (fun _ _ => rfl)) pe_str (nomark _))
        (pss_one (ps_set (i:=1) scSizeL.nd rfl (Or.inl rfl) (pe_op op_cat (pv 1) (pe_lst (pa_cons (pe_ix ix_tup (pv 3) pe_int (fun _ _ => rfl)) (pa_cons (pe_ix ix_tup (pv 3) pe_int (fun _ _ => rfl)) pa_nil)))))) pss_nil)))))
    (pss_one (ps_ret (pv 2))))),?_⟩
  refine ⟨_,rfl,(by show 1 ≤ sizeLine; decide),fun l hl => ?_⟩
  refine while_by (fun σ H2 => ∃ (l:Addr) (vs:List V) (ks:List Kd) (n:Nat) (h:Option V),σ = [some x,some (.ref l),some (.int n),h] ∧ H l = none ∧ Same H H2 ∧ H2 l = some (.lst vs) ∧ KdsAt K H vs ks ∧ n + sumW ks = k.words)
    (fun σ _ => match σ with | [_,_,some (.int n),_] => k.words - n.toNat | _ => 0) ⟨l,[x],[k],0,none,rfl,hl,same_new hl _,upd_same,one hk,by rw [sumW_one]; omega⟩ ?_ ?_
  · rintro σ H2 ⟨l,vs,ks,n,h,rfl,hl,s2,hv2,hv,hn⟩
    refine ⟨_,rfl,l,_,rfl,.inl (SqL.of hv2),_,_,rfl,rfl,_,rfl,?_⟩
    refine ite2 (fun c => ?_) (fun c => ?_)
    · have c':(0:Int) < (vs.length:Int):=of_decide_eq_true c
      have hne:vs ≠ []:=fun e => by rw [e] at c'; exact absurd c' (by decide)
      obtain ⟨us,v,rfl⟩:∃ us v,vs = us ++ [v]:=⟨_,_,(List.dropLast_concat_getLast hne).symm⟩
      obtain ⟨ls,j,rfl,hu,hj⟩:=snoc hv
      rw [sumW_app,sumW_one] at hn
      have hjp:=words_pos j
      have s3:Same H (upd H2 l (.lst us)):=sput s2 hl
      refine ⟨_,rfl,.inl ⟨rfl,_,SqL.of hv2⟩,l,_,v,rfl,rfl,hv2,snoc_get,?_⟩
      rw [List.dropLast_concat]
      have hl2:=len_sumW ls
      have hul:=hu.length
      refine ⟨_,rfl,_,_,rfl,rfl,?_⟩
      have e1:((n:Int) + 1) = ((n + 1:Nat):Int):=by omega
      cases hj with
      | @num p m t =>
        refine ⟨_,rfl,_,_,_,_,rfl,rfl,s3.tup t,(show atI [V.str "num",.int m] 0 = some (.str "num") from rfl),rfl,_,rfl,ite2 (fun c => absurd c (by decide +kernel)) (fun _ => ?_)⟩
        have hw:(Kd.num m).words = 1:=rfl
        rw [hw] at hn
        refine ⟨⟨l,us,ls,n + 1,_,by rw [← e1] <;> rfl,hl,s3,upd_same,hu,by omega⟩,?_⟩
        show k.words - ((n:Int) + 1).toNat < k.words - (n:Int).toNat
        omega
      | @name p q t h =>
        refine ⟨_,rfl,_,_,_,_,rfl,rfl,s3.tup h,(show atI [V.str "name",.str q,.str t] 0 = some (.str "name") from rfl),rfl,_,rfl,ite2 (fun c => absurd c (by decide +kernel)) (fun _ => ?_)⟩
        have hw:(Kd.name q t).words = 1:=rfl
        rw [hw] at hn
        refine ⟨⟨l,us,ls,n + 1,_,by rw [← e1] <;> rfl,hl,s3,upd_same,hu,by omega⟩,?_⟩
        show k.words - ((n:Int) + 1).toNat < k.words - (n:Int).toNat
        omega
      | @pair p y z a b t ha hb =>
        have hw:(Kd.pair a b).words = 1 + a.words + b.words:=rfl
        rw [hw] at hn hjp
        have h1:=words_pos a
        have h2:=words_pos b
        refine ⟨_,rfl,_,_,_,_,rfl,rfl,s3.tup t,(show atI [V.str "pair",y,z] 0 = some (.str "pair") from rfl),rfl,_,rfl,ite2 (fun _ => ?_) (fun c => absurd (by decide +kernel) c)⟩
        refine ⟨_,rfl,_,rfl,_,_,_,_,rfl,rfl,s3.tup t,(show atI [V.str "pair",y,z] 1 = some y from rfl),_,rfl,_,_,_,_,rfl,rfl,s3.tup t,(show atI [V.str "pair",y,z] 2 = some z from rfl),(by show 2 ≤ sizeLine; decide),fun p2 hp2 => ?_⟩
        have s4:=same_new hp2 (.lst [y,z])
        refine ⟨l,p2,us,_,rfl,rfl,s4 _ _ upd_same,upd_same,small (by show us.length + 2 ≤ 1000; omega),fun p3 hp3 => ?_⟩
        have s5:=same_new hp3 (.lst (us ++ [y,z]))
        refine ⟨⟨p3,us ++ [y,z],ls ++ [a,b],n + 1,_,by rw [← e1] <;> rfl,(s3.trans s4).free hp3,s3.trans (s4.trans s5),upd_same,hu.append (.cons ha (.cons hb .nil)),?_⟩,?_⟩
        · rw [sumW_app]
          show n + 1 + (sumW ls + (a.words + (b.words + 0))) = k.words
          omega
        · show k.words - ((n:Int) + 1).toNat < k.words - (n:Int).toNat
          omega
    · have c':¬ (0:Int) < (vs.length:Int):=of_decide_eq_false (Bool.eq_false_iff.mpr c)
      have hv0:vs = []:=List.length_eq_zero_iff.mp (by omega)
      subst hv0
      cases hv
      have e:n = k.words:=hn
      subst e
      exact ⟨_,rfl,q _ s2⟩
  · rintro σ H2 Q1 Q2 hq ⟨v,e1,a,xs,e2,hs,i,j,e3,e4,b,e5,h⟩
    exact ⟨v,e1,a,xs,e2,hs,i,j,e3,e4,b,e5,hq _ _ h⟩
end
end K24
namespace K24
open PySem L2 Kk
noncomputable def spItem (K:PySem.W.Frag):Sp:=fun vs H Q _ => ∃ (c d:Int) (l:Addr) (ws:List Str) (z:Str),vs = [.int c,.int d,.ref l,.str z] ∧ SqL K H l (ws.map V.str) ∧ 0 < ws.length ∧ (∀ x ∈ ws,smW x) ∧ smW z ∧ ∀ H' v it,Same H H' → ItAt K H' v it → IB it → Q v H'
section
variable {P:Program} {w:World} {K:PySem.W.Frag} {mg:Str → Option Value} {base:Heap}
noncomputable abbrev imN:List Str:=["_law_cell_here","_law_other","_law_words","_law_q","_law_word_here","_law_args"]
noncomputable abbrev imP:List Str:=["_law_cell_here","_law_other","_law_words","_law_q"]
theorem scItem:FnScope imN imP (defScope sItem):=⟨rfl,rfl,rfl,by decide +kernel,rfl,by decide +kernel,by decide +kernel⟩
set_option maxHeartbeats 0 in
theorem ok_item {f fk:Addr} {fd fdk:FuncData} (F:Fun K "_law_item" "_law_item" sItem f fd) (GK:FnOk P w K mg base CX0 2 fk fdk lfP (spKindL K)) (bK:Binds K fdk lfP []) (kK:PySem.W.keepIn K (.ref fk) = true) (mK:mg "_law_kind" = some (.ref fk)) (ml:mg "len" = none) (mr:mg "range" = none) (mt:mg "tuple" = none):FnOk P w K mg base CX0 3 f fd imP (spItem K):=by
  refine F.ok scItem (fun vs H Q E h => ?_) (fun cdv A outer s H vs Q E hr h => ?_)
  · obtain ⟨c,d,l,ws,z,rfl,_⟩:=h
    rfl
  obtain ⟨c,d,l,ws,z,rfl,hl,hn,hw,hz,q⟩:=h
  refine ⟨_,pss_cons (ps_set (i:=4) scItem.nd rfl (Or.inl rfl) (pe_ix ix_list (pv 2) (pe_op op_mod (pe_op op_fdiv (pv 0) pe_int) (pe_callB call_len_seq rfl ml PySem.boot_len (pa_cons (pv 2) pa_nil))) (fun _ _ => rfl)))
    (pss_cons (ps_if (pt_cmpR op_eq (pe_op op_mod (pv 0) pe_int) pe_int (nomark _)) (pss_one (ps_ret (pe_tup (pa_cons pe_str (pa_cons (pv 4) pa_nil))))) pss_nil)
    (pss_cons (ps_if (pt_cmpR op_lt (pe_op op_mod (pv 0) pe_int) pe_int (nomark _)) (pss_one (ps_ret (pe_tup (pa_cons pe_str (pa_cons (pv 4) (pa_cons (pe_call GK hr rfl mK kK bK .nil pass0 (pa_cons (pv 1) (pa_cons (pv 2) (pa_cons (pv 3) pa_nil)))) pa_nil)))))) pss_nil)
    (pss_cons (ps_comp (i0:=5) (own:=["_law_k"]) (caps:=["_law_other","_law_q","_law_words"]) (κ:=[1,3,2]) scItem.nd rfl (Or.inl rfl) rfl ⟨rfl,by decide +kernel,by decide +kernel,rfl,rfl,(fun y hy => by simp only [List.mem_cons,List.not_mem_nil,or_false] at hy; rcases hy with rfl | rfl | rfl <;> rfl),(fun y hy => by simp only [List.mem_cons,List.not_mem_nil,or_false] at hy; rcases hy with rfl | rfl | rfl <;> exact ⟨.inl rfl,rfl,.inl rfl⟩)⟩ rfl
      (pi_range1 rfl mr (pa_cons (pe_op op_mod (pe_op op_fdiv (pv 1) pe_int) pe_int) pa_nil)) (fun _ _ _ _ => pg_name (i:=0) (show (["_law_k","_law_other","_law_q","_law_words"]:List Str).Nodup from by decide +kernel) rfl (Or.inl rfl))
      (fun _ _ _ _ => pe_call GK hr rfl mK kK bK .nil pass0 (pa_cons (pe_op op_fdiv (pv 1) (pe_op op_add pe_int (pe_op op_mul pe_int (pv 0)))) (pa_cons (pv 3) (pa_cons (pv 2) pa_nil)))))
    (pss_one (ps_ret (pe_tup (pa_cons pe_str (pa_cons (pv 4) (pa_cons (pe_callTy call_tuple_of rfl mt bootTuple (pa_cons (pv 5) pa_nil)) (pa_cons (pe_call GK hr rfl mK kK bK .nil pass0 (pa_cons (pe_op op_fdiv (pv 1) pe_int) (pa_cons (pv 2) (pa_cons (pv 3) pa_nil)))) pa_nil)))))))))),?_⟩
  obtain ⟨y,hy,hat⟩:=at_len (c / 4) hn
  have lp:(0:Int) < ((ws.map V.str).length:Int):=by rw [List.length_map]; omega
  have hyo:=hw y hy
  refine ⟨_,rfl,_,rfl,_,_,rfl,rfl,⟨by decide,by decide⟩,_,rfl,l,_,rfl,.inl hl,_,_,rfl,rfl,lp,l,_,_,_,rfl,rfl,hl,hat,?_⟩
  refine ⟨_,rfl,_,_,rfl,rfl,(by show (0:Int) < 4; decide),rfl,_,rfl,ite2 (fun _ => ?_) (fun _ => ?_)⟩
  · refine ⟨_,rfl,(by show 2 ≤ sizeLine; decide),fun p hp => ?_⟩
    exact q _ _ (.hid y) (same_new hp _) ⟨p,rfl,SqT.of upd_same⟩ ⟨hyo,by show 0 ≤ 5; decide,fun _ h => nomatch h⟩
  refine ⟨_,rfl,_,_,rfl,rfl,(by show (0:Int) < 4; decide),_,_,rfl,rfl,_,rfl,ite2 (fun _ => ?_) (fun _ => ?_)⟩
  · refine ⟨_,rfl,_,rfl,_,rfl,_,rfl,d,l,ws,z,rfl,hl,hn,hw,hz,fun H1 v k s1 hv kb => ⟨(by show 3 ≤ sizeLine; decide),fun p hp => ?_⟩⟩
    have sp:=same_new hp (.tup [.str "told",.str y,v])
    exact q _ _ (.told y k) (s1.trans sp) ⟨p,v,rfl,SqT.of upd_same,hv.same sp⟩ ⟨hyo,by show 1 ≤ 5; decide,fun j hj => by rw [List.mem_singleton.mp hj]; exact kb⟩
  have t0:=Int.emod_nonneg (d / 64) (show (5:Int) ≠ 0 by decide)
  have t1:=Int.emod_lt_of_pos (d / 64) (show (0:Int) < 5 by decide)
  refine ⟨_,rfl,_,_,rfl,rfl,⟨by decide,by decide⟩,_,_,rfl,rfl,(by show (0:Int) < 5; decide),_,rfl,by omega,by omega,?_⟩
  refine comp_by (J:=Itr 0 (d / 64 % 5).toNat) (xs:=rangeV 0 (d / 64 % 5).toNat) (fun n ys H5 => n ≤ (d / 64 % 5).toNat ∧ Same H H5 ∧ ∃ ks,KdsAt K H5 ys ks ∧ ks.length = n ∧ ∀ k ∈ ks,KB k) ⟨Nat.zero_le _,Same.refl _,[],.nil,rfl,fun k hk => nomatch hk⟩ (by rw [rangeV_len]; exact small (by omega)) ?_ ?_ ?_ ?_ ?_ ?_
  · rintro n ys H5 ⟨hn,_,ks,h1,h2,_⟩
    rw [h1.length,h2]
    exact Nat.le_refl _
  · rintro n x ys H5 hx _
    exact itr_go hx
  · rintro n ys x H5 H' hn _ hy
    rw [rangeV_len] at hn
    exact itr_yld' hn hy
  · rintro ys H5 _
    rw [rangeV_len]
    exact Nat.le_refl _
  · rintro n x ys H5 N hN hx ⟨hn',s5,ks,h1,h2,h3⟩
    obtain ⟨hn2,rfl⟩:=rangeV_get.mp hx
    refine ⟨rfl,tYes_go ⟨_,rfl,_,rfl,_,_,rfl,rfl,.inl ⟨by omega,by omega⟩,_,_,rfl,rfl,_,_,rfl,rfl,⟨by omega,by omega⟩,_,rfl,_,rfl,_,l,ws,z,rfl,sql_same s5 hl,hn,hw,hz,fun H6 v k s6 hv kb => hN _ _ ⟨hn2,s5.trans s6,ks ++ [k],(h1.same s6).append (one hv),by rw [List.length_append,h2]; rfl,fun j hj => ?_⟩⟩⟩
    rcases List.mem_append.mp hj with h | h
    · exact h3 j h
    · rw [List.mem_singleton.mp h]
      exact kb
  · rintro ys H5 D ⟨_,s5,ks,h1,h2,h3⟩ hD
    rw [rangeV_len] at h2
    have sD:=same_new hD (.lst ys)
    refine ⟨_,rfl,_,rfl,D,ys,rfl,.inl ⟨SqL.of upd_same,fun ta hta => ?_⟩⟩
    have sT:=same_new hta (.tup ys)
    have s6:=s5.trans (sD.trans sT)
    refine ⟨_,rfl,_,_,rfl,rfl,⟨by decide,by decide⟩,_,rfl,_,rfl,_,l,ws,z,rfl,sql_same s6 hl,hn,hw,hz,fun H7 v k s7 hv kb => ⟨(by show 4 ≤ sizeLine; decide),fun p hp => ?_⟩⟩
    have sp:=same_new hp (.tup [.str "fun",.str y,.ref ta,v])
    refine q _ _ (.fn y ks k) (s6.trans (s7.trans sp)) ⟨p,ta,v,ys,rfl,SqT.of upd_same,(s7.trans sp).tup (SqT.of upd_same),h1.same ((sD.trans sT).trans (s7.trans sp)),hv.same sp⟩ ⟨hyo,?_,fun j hj => ?_⟩
    · show (ks ++ [k]).length ≤ 5
      rw [List.length_append,h2]
      simp only [List.length_singleton]
      omega
    · rcases List.mem_append.mp hj with h | h
      · exact h3 j h
      · rw [List.mem_singleton.mp h]
        exact kb
end
end K24
namespace K24
open PySem L2 Kk
theorem cut_m1 {ys:List V} {a:V}:cutV (ys ++ [a]) none (some (-1)) = ys:=by
  unfold cutV
  have e:HT.sIx (ys ++ [a]).length (ys ++ [a]).length (some (-1)) = ys.length:=by
    show (if (-1:Int) < 0 then ((-1:Int) + ((ys ++ [a]).length:Int)).toNat else min (-1:Int).toNat (ys ++ [a]).length) = _
    rw [if_pos (by decide),List.length_append]
    simp only [List.length_singleton]
    omega
  rw [e,HT.sIx_none,List.drop_zero,Nat.sub_zero,List.take_append_of_le_length (Nat.le_refl _),List.take_length]
theorem at_m1 {ys:List V} {a:V}:atI (ys ++ [a]) (-1) = some a:=atI_last ys a
theorem strs_dat {K:PySem.W.Frag} {H:Hp}:∀ W:List Str,Dats K H (W.map V.str) (W.map PyData.str)
  | [] => .nil
  | z :: W => .cons (.str z) (strs_dat W)
theorem wrong_mem {PG:PGt} {s:Rw} {it:It} {e:Str} (h:e ∈ wrong PG s it):e = "twice" ∨ e = "no" ∨ e = "big":=by
  unfold wrong at h
  rcases List.mem_append.mp h with h | h
  · split at h
    · exact .inl (List.mem_singleton.mp h)
    · cases h
  · rcases List.mem_append.mp h with h | h
    · split at h
      · exact .inr (.inl (List.mem_singleton.mp h))
      · cases h
    · split at h
      · exact .inr (.inr (List.mem_singleton.mp h))
      · cases h
theorem wrong_ok {PG:PGt} {s:Rw} {it:It} {e:Str} (h:e ∈ wrong PG s it):PyData.strOk e = true:=by
  rcases wrong_mem h with rfl | rfl | rfl <;> decide +kernel
theorem strs_gd {W:List Str} (h:∀ z ∈ W,PyData.strOk z = true):Gdn 1 (.list (W.map PyData.str)):=gdn_lst fun d hd => by
  obtain ⟨z,hz,rfl⟩:=List.mem_map.mp hd
  exact gdn_str (h z hz)
theorem eqv_nil (W:List Str):PyData.eqv (.list (W.map PyData.str)) (.list []) = decide (W = []):=by
  cases W with
  | nil => simp [PyData.eqv,PyData.eqvAll]
  | cons z W => simp [PyData.eqv,PyData.eqvAll]
structure DS (K:PySem.W.Frag) (H B:Hp) (d e:Addr) (kv fv:List (Key × V)) (s:Rw):Prop where
  sm:Same H B
  hd:H d = none
  he:H e = none
  nde:d ≠ e
  bd:B d = some (.dK kv)
  be:B e = some (.dK fv)
  p1:PkAt (KdAt K B) kv s.1
  p2:PkAt (FunAt K B) fv s.2
theorem DS.same {K:PySem.W.Frag} {H B B':Hp} {d e:Addr} {kv fv:List (Key × V)} {s:Rw} (h:DS K H B d e kv fv s) (t:Same B B'):DS K H B' d e kv fv s :=
  ⟨h.sm.trans t,h.hd,h.he,h.nde,t _ _ h.bd,t _ _ h.be,h.p1.imp fun _ _ x => x.same t,h.p2.imp fun _ _ x => x.keep fun _ _ u => t.tup u⟩
theorem DS.put {K:PySem.W.Frag} {H B:Hp} {d e p:Addr} {kv fv:List (Key × V)} {s:Rw} {us vs:List V} (h:DS K H B d e kv fv s) (hp:H p = none) (bp:B p = some (.lst us)):DS K H (upd B p (.lst vs)) d e kv fv s:=by
  have kp:∀ a ys,SqT K B a ys → SqT K (upd B p (.lst vs)) a ys:=fun a ys t => sqt_upd bp t
  refine ⟨sput h.sm hp,h.hd,h.he,h.nde,?_,?_,h.p1.imp fun _ _ x => kd_keep kp x,h.p2.imp fun _ _ x => x.keep kp⟩
  · rw [upd_ne (fun z => by rw [← z,h.bd] at bp; cases bp)]
    exact h.bd
  · rw [upd_ne (fun z => by rw [← z,h.be] at bp; cases bp)]
    exact h.be
theorem opt_keep {K:PySem.W.Frag} {H H':Hp} (e:∀ a xs,SqT K H a xs → SqT K H' a xs) {v:V}:∀ {o:Option Kd},OptAt K H v o → OptAt K H' v o
  | none,h => h
  | some _,⟨h,n⟩ => ⟨kd_keep e h,n⟩
theorem paired_split {α β:Type} {R:α → β → Prop}:∀ {xs:List α} {ys:List β} {y:β},Paired R xs (ys ++ [y]) → ∃ us u,xs = us ++ [u] ∧ Paired R us ys ∧ R u y
  | _,[],y,.cons h .nil => ⟨[],_,rfl,.nil,h⟩
  | _,b :: ys,y,.cons h r => by
    obtain ⟨us,u,rfl,h1,h2⟩:=paired_split (ys:=ys) r
    exact ⟨_ :: us,u,rfl,.cons h h1,h2⟩
theorem opts_kds {K:PySem.W.Frag} {H:Hp} {T:Str × Str → Option Kd}:∀ {us:List V} {ks:List Kd},Paired (OptAt K H) us (ks.map (outO T)) → (∀ k ∈ ks,lackB T k = false) → KdsAt K H us (ks.map (Kd.put T))
  | _,[],.nil,_ => .nil
  | _,k :: ks,.cons h r,hk => by
    have e:outO T k = some (Kd.put T k):=by unfold outO; rw [hk k (.head _)]; rfl
    rw [e] at h
    exact .cons h.1 (opts_kds r fun j hj => hk j (.tail _ hj))
noncomputable abbrev duN:List Str:=["_law_items","_law_away","_law_kinds","_law_funs","_law_item_here","_law_wrong","_law_known","_law_some","_law_outs"]
noncomputable abbrev duP:List Str:=["_law_items","_law_away"]
noncomputable abbrev duB:List Stmt:=forB ((defBody sDue).getD 2 (.Pass ⟨0,0,0,0⟩))
section
variable {P:Program} {w:World} {K:PySem.W.Frag} {mg:Str → Option Value} {base:Heap}
theorem scDue:FnScope duN duP (defScope sDue):=⟨rfl,rfl,rfl,by decide +kernel,rfl,by decide +kernel,by decide +kernel⟩
variable {f:Addr} {cdv:Value} {A:Around} {outer:List Env} {s:Shared} {H:Hp} {E:XK}
set_option maxHeartbeats 0 in
theorem due_8 (mt:mg "tuple" = none) (hr:Room 5 (A.deeper (PyProof.Rows.envOfC "_law_due" (defScope sDue) s.heap.objs.size f cdv))) :
    ∃ t,PSs (cxOf CX0 P w K mg base duN "_law_due" (defScope sDue) f cdv A outer s H E).nox (List.drop 8 duB) t ∧
      ∀ (D:Ends) (B:Hp) (l g d e pw pD:Addr) (y:V) (x6 x7:Option V) (it:It) (rs:Rw) (PG:PGt) (us:List V) (kv fv:List (Key × V)),DS K H B d e kv fv rs → rs.1.length ≤ 100 → rs.2.length ≤ 100 → ItAt K B y it → B pw = some (.lst ((wrong PG rs it).map V.str)) → B pD = some (.lst us) → Paired (OptAt K B) us ((It.ks it).map (outO (Tl PG rs))) →
        (wrong PG rs it ≠ [] → ∀ H',Same H H' → H' pw = some (.lst ((wrong PG rs it).map V.str)) → D.rt (.ref pw) H') →
        (wrong PG rs it = [] → ∀ H' kv' fv',DS K H H' d e kv' fv' (nstep PG rs it) → D.nx [some (.ref l),some (.ref g),some (.ref d),some (.ref e),some y,some (.ref pw),x6,x7,some (.ref pD)] H') →
        t D [some (.ref l),some (.ref g),some (.ref d),some (.ref e),some y,some (.ref pw),x6,x7,some (.ref pD)] B:=by
  have hu:=hu_of hr
  have hu64:=hr.units
  refine ⟨_,pss_cons (ps_if (pt_cmpR (op_neD hu64) (pv 5) (pe_lst pa_nil) (nomark _)) (pss_one (ps_ret (pv 5))) pss_nil)
    (pss_one (ps_if (pt_cmpR op_eq (pe_ix ix_tup (pv 4) pe_int (fun _ _ => rfl)) pe_str (nomark _))
      (pss_one (ps_dput hu (pv 2) (pe_ix ix_tup (pv 4) pe_int (fun _ _ => rfl)) (pe_tup (pa_cons pe_str (pa_cons pe_str (pa_cons (pe_ix ix_tup (pv 4) pe_int (fun _ _ => rfl)) pa_nil)))) rfl))
      (pss_one (ps_if (pt_cmpR op_eq (pe_ix ix_tup (pv 4) pe_int (fun _ _ => rfl)) pe_str (nomark _))
        (pss_one (ps_dput hu (pv 2) (pe_ix ix_tup (pv 4) pe_int (fun _ _ => rfl)) (pe_ix ix_list (pv 8) pe_int (fun _ _ => rfl)) rfl))
        (pss_one (ps_dput hu (pv 3) (pe_ix ix_tup (pv 4) pe_int (fun _ _ => rfl)) (pe_tup (pa_cons (pe_callTy call_tuple_of rfl mt bootTuple (pa_cons (pe_slice sl_list (pv 8) po_none (po_some (pe_un un_neg pe_int))) pa_nil)) (pa_cons (pe_ix ix_list (pv 8) (pe_un un_neg pe_int) (fun _ _ => rfl)) pa_nil))) rfl)))))),?_⟩
  intro D B l g d e pw pD y x6 x7 it rs PG us kv fv ds l1 l2 hat hpw hpD hus qR qN
  refine ⟨_,rfl,(by show 0 ≤ sizeLine; decide),fun p0 hp0 => ?_⟩
  have s0:=same_new hp0 (.lst [])
  refine ⟨.list ((wrong PG rs it).map PyData.str),.list [],.lst (SqL.of (s0 _ _ hpw)) (strs_dat _),.lst (SqL.of upd_same) .nil,(strs_gd fun z hz => wrong_ok hz).shaped (by decide),by decide +kernel,_,rfl,?_⟩
  rw [eqv_nil]
  refine ite2 (fun c => ?_) (fun c => ?_)
  · have hne:wrong PG rs it ≠ []:=fun z => by rw [decide_eq_true z] at c; cases c
    exact ⟨_,rfl,qR hne _ (ds.sm.trans s0) (s0 _ _ hpw)⟩
  have hw:wrong PG rs it = []:=by
    by_cases z:wrong PG rs it = []
    · exact z
    · rw [decide_eq_false z] at c
      exact absurd rfl c
  replace qN:=qN hw
  obtain ⟨tw,hk⟩:=wrong_nil.mp hw
  have lk:∀ k ∈ It.ks it,lackB (Tl PG rs) k = false:=fun k h => (kErr_none (hk k h)).1
  replace ds:=ds.same s0
  have hat:=hat.same s0
  replace hpD:=s0 _ _ hpD
  replace hus:Paired (OptAt K (upd B p0 (.lst []))) us ((It.ks it).map (outO (Tl PG rs))):=Paired.mapP hus fun _ _ h => OptAt.same s0 h
  generalize upd B p0 (.lst []) = B1 at ds hat hpD hus ⊢
  have kl:kv.length = rs.1.length:=Paired.length ds.p1
  have fl:fv.length = rs.2.length:=Paired.length ds.p2
  have kz:kv.length < sizeLine:=Nat.lt_of_lt_of_le (Nat.lt_succ_self _) (small (by omega))
  have fz:fv.length < sizeLine:=Nat.lt_of_lt_of_le (Nat.lt_succ_self _) (small (by omega))
  have putK1:∀ (H4:Hp) (z:Str) (v:V) (k:Kd),Same B1 H4 → KdAt K H4 v k → z ∉ rs.1.map (·.1) → DS K H (upd H4 d (.dK (putK kv (.inr z) v))) d e (putK kv (.inr z) v) fv (rs.1 ++ [(z,k)],rs.2):=by
    intro H4 z v k s4 hv hz
    have d4:=ds.same s4
    have kp:∀ a ys,SqT K H4 a ys → SqT K (upd H4 d (.dK (putK kv (.inr z) v))) a ys:=fun a ys t => sqt_dk d4.bd t
    exact ⟨sput d4.sm ds.hd,ds.hd,ds.he,ds.nde,upd_same,by rw [upd_ne (Ne.symm ds.nde)]; exact d4.be,PkAt.put (d4.p1.imp fun _ _ h => kd_keep kp h) hz (kd_keep kp hv),d4.p2.imp fun _ _ h => h.keep kp⟩
  cases it with
  | hid z =>
    obtain ⟨p,rfl,hp⟩:=hat
    have nz:z ∉ rs.1.map (·.1):=of_decide_eq_false tw
    refine ⟨_,rfl,_,_,_,_,rfl,rfl,hp,(show atI [V.str "hid",.str z] 0 = some (.str "hid") from rfl),rfl,_,rfl,ite2 (fun _ => ?_) (fun c => absurd (by decide +kernel) c)⟩
    refine ⟨_,rfl,_,_,_,_,rfl,rfl,hp,(show atI [V.str "hid",.str z] 1 = some (.str z) from rfl),(by show 3 ≤ sizeLine; decide),fun q hq => ?_⟩
    have sq:=same_new hq (.tup [.str "name",.str "",.str z])
    exact ⟨_,rfl,_,rfl,_,_,_,_,rfl,rfl,sq.tup hp,(show atI [V.str "hid",.str z] 1 = some (.str z) from rfl),d,_,rfl,DPut.k (k:=.inr z) (sq _ _ ds.bd) kz,qN _ _ _ (putK1 _ z _ (ownK z) sq (.name (SqT.of upd_same)) nz)⟩
  | told z k =>
    obtain ⟨p,x,rfl,hp,hx⟩:=hat
    have nz:z ∉ rs.1.map (·.1):=of_decide_eq_false tw
    refine ⟨_,rfl,_,_,_,_,rfl,rfl,hp,(show atI [V.str "told",.str z,x] 0 = some (.str "told") from rfl),rfl,_,rfl,ite2 (fun c => absurd c (by decide +kernel)) (fun _ => ?_)⟩
    refine ⟨_,rfl,_,_,_,_,rfl,rfl,hp,(show atI [V.str "told",.str z,x] 0 = some (.str "told") from rfl),rfl,_,rfl,ite2 (fun _ => ?_) (fun c => absurd (by decide +kernel) c)⟩
    have hks:=opts_kds (ks:=[k]) hus lk
    obtain ⟨u,rfl,hu'⟩:∃ u,us = [u] ∧ KdAt K B1 u (Kd.put (Tl PG rs) k):=by
      cases hks with
      | cons a b => cases b; exact ⟨_,rfl,a⟩
    exact ⟨_,rfl,pD,_,_,_,rfl,rfl,SqL.of hpD,(show atI [u] 0 = some u from rfl),_,rfl,_,rfl,_,_,_,_,rfl,rfl,hp,(show atI [V.str "told",.str z,x] 1 = some (.str z) from rfl),d,_,rfl,DPut.k (k:=.inr z) ds.bd kz,qN _ _ _ (putK1 _ z _ _ (Same.refl _) hu' nz)⟩
  | fn z as r =>
    obtain ⟨p,ta,x,ys,rfl,hp,hta,hks,hx⟩:=hat
    have nz:z ∉ rs.2.map (·.1):=of_decide_eq_false tw
    refine ⟨_,rfl,_,_,_,_,rfl,rfl,hp,(show atI [V.str "fun",.str z,.ref ta,x] 0 = some (.str "fun") from rfl),rfl,_,rfl,ite2 (fun c => absurd c (by decide +kernel)) (fun _ => ?_)⟩
    refine ⟨_,rfl,_,_,_,_,rfl,rfl,hp,(show atI [V.str "fun",.str z,.ref ta,x] 0 = some (.str "fun") from rfl),rfl,_,rfl,ite2 (fun c => absurd c (by decide +kernel)) (fun _ => ?_)⟩
    have ek:(It.ks (.fn z as r)).map (outO (Tl PG rs)) = as.map (outO (Tl PG rs)) ++ [outO (Tl PG rs) r]:=by show (as ++ [r]).map _ = _; rw [List.map_append]; rfl
    rw [ek] at hus
    obtain ⟨vs,u,rfl,hv1,hv2⟩:=paired_split hus
    have hks1:=opts_kds (ks:=as) hv1 fun j hj => lk j (List.mem_append_left _ hj)
    have hks2:=opts_kds (us:=[u]) (ks:=[r]) (.cons hv2 .nil) fun j hj => lk j (List.mem_append_right _ hj)
    have hu':KdAt K B1 u (Kd.put (Tl PG rs) r):=by
      cases hks2 with
      | cons a b => exact a
    refine ⟨_,rfl,_,rfl,_,rfl,pD,_,rfl,SqL.of hpD,fun l3 hl3 => ?_⟩
    rw [cut_m1]
    have s3:=same_new hl3 (.lst vs)
    refine ⟨l3,vs,rfl,.inl ⟨SqL.of upd_same,fun ta' hta' => ?_⟩⟩
    have s4:=same_new hta' (.tup vs)
    have s34:=s3.trans s4
    refine ⟨_,rfl,_,rfl,pD,_,_,_,rfl,rfl,SqL.of (s34 _ _ hpD),at_m1,(by show 2 ≤ sizeLine; decide),fun p' hp' => ?_⟩
    have s5:=same_new hp' (.tup [.ref ta',u])
    have s6:=s34.trans s5
    have d6:=ds.same s6
    refine ⟨_,rfl,_,rfl,_,_,_,_,rfl,rfl,s6.tup hp,(show atI [V.str "fun",.str z,.ref ta,x] 1 = some (.str z) from rfl),e,_,rfl,DPut.k (k:=.inr z) d6.be fz,qN _ kv (putK fv (.inr z) (.ref p')) ?_⟩
    generalize hH6:upd (upd (upd B1 l3 (.lst vs)) ta' (.tup vs)) p' (.tup [.ref ta',u]) = H6 at s5 s6 d6
    have kp:∀ a zs,SqT K H6 a zs → SqT K (upd H6 e (.dK (putK fv (.inr z) (.ref p')))) a zs:=fun a zs t => sqt_dk d6.be t
    refine ⟨sput d6.sm ds.he,ds.hd,ds.he,ds.nde,by rw [upd_ne ds.nde]; exact d6.bd,upd_same,d6.p1.imp fun _ _ h => kd_keep kp h,?_⟩
    refine PkAt.put (d6.p2.imp fun _ _ h => h.keep kp) nz ⟨p',ta',u,vs,rfl,kp _ _ (SqT.of (by rw [← hH6]; exact upd_same)),kp _ _ (SqT.of (s5 _ _ upd_same)),kds_keep (fun a zs t => kp a zs (s6.tup t)) hks1,kd_keep (fun a zs t => kp a zs (s6.tup t)) hu'⟩
end
end K24
namespace K24
open PySem L2 Kk
noncomputable def odD:Option Kd → PyData
  | none => .none
  | some k => Kd.dat k
theorem opts_dat {K:PySem.W.Frag} {H:Hp}:∀ {us:List V} {os:List (Option Kd)},Paired (OptAt K H) us os → Dats K H us (os.map odD)
  | _,_,.nil => .nil
  | _,none :: _,.cons h r => by
    have h':_ = V.non:=h
    subst h'
    exact .cons .non (opts_dat r)
  | _,some k :: _,.cons h r => .cons (kd_dat h.1) (opts_dat r)
theorem eqv_none_kd (k:Kd):PyData.eqv (Kd.dat k) .none = false:=by
  cases k <;> simp [Kd.dat,PyData.eqv]
theorem any_none (T:Str × Str → Option Kd):∀ ks:List Kd,((ks.map (outO T)).map odD).any (fun e => PyData.eqv e .none) = ks.any (lackB T)
  | [] => rfl
  | k :: ks => by
    rw [List.map_cons,List.map_cons,List.any_cons,List.any_cons,any_none T ks]
    congr 1
    unfold outO
    cases lackB T k with
    | true => show PyData.eqv .none .none = true; decide +kernel
    | false => exact eqv_none_kd _
theorem opts_lay {T:Str × Str → Option Kd}:∀ {ks:List Kd},(∀ k ∈ ks,Kd.sm (Kd.put T k)) → PyData.canLayAll0 ((ks.map (outO T)).map odD) = true
  | [],_ => by simp [PyData.canLayAll0]
  | k :: ks,h => by
    simp only [List.map_cons,PyData.canLayAll0,Bool.and_eq_true]
    refine ⟨?_,opts_lay fun j hj => h j (.tail _ hj)⟩
    unfold outO
    cases lackB T k with
    | true => show PyData.canLay0 .none = true; decide +kernel
    | false => exact lay_kd (sm_ok (h k (.head _)))
noncomputable def szs (os:List (Option Kd)):List Int:=(os.filterMap id).map fun k => ((k.words:Nat):Int)
theorem szs_snoc (os:List (Option Kd)) (o:Option Kd):szs (os ++ [o]) = szs os ++ (o.map fun k => ((k.words:Nat):Int)).toList:=by
  unfold szs
  rw [List.filterMap_append,List.map_append]
  cases o <;> rfl
theorem szs_len (os:List (Option Kd)):(szs os).length ≤ os.length:=by
  unfold szs
  rw [List.length_map]
  exact List.length_filterMap_le _ _
theorem any_big (T:Str × Str → Option Kd) (ks:List Kd):ks.any (bigB T) = true ↔ ∃ x ∈ szs (ks.map (outO T)),(40:Int) < x:=by
  constructor
  · intro h
    obtain ⟨k,hk,b⟩:=List.any_eq_true.mp h
    unfold bigB at b
    have b':lackB T k = false ∧ 40 < (Kd.put T k).words:=by simpa using b
    refine ⟨((Kd.put T k).words:Int),?_,by omega⟩
    unfold szs
    refine List.mem_map.mpr ⟨Kd.put T k,List.mem_filterMap.mpr ⟨some (Kd.put T k),List.mem_map.mpr ⟨k,hk,?_⟩,rfl⟩,rfl⟩
    unfold outO
    rw [b'.1]
    rfl
  · rintro ⟨x,hx,hl⟩
    unfold szs at hx
    obtain ⟨j,hj,rfl⟩:=List.mem_map.mp hx
    obtain ⟨o,ho,e⟩:=List.mem_filterMap.mp hj
    obtain ⟨k,hk,rfl⟩:=List.mem_map.mp ho
    have e':outO T k = some j:=e
    unfold outO at e'
    cases l:lackB T k with
    | true => rw [l,if_pos rfl] at e'; cases e'
    | false =>
      rw [l,if_neg Bool.false_ne_true] at e'
      cases e'
      refine List.any_eq_true.mpr ⟨k,hk,?_⟩
      unfold bigB
      rw [l,decide_eq_true (by omega)]
      rfl
section
variable {P:Program} {w:World} {K:PySem.W.Frag} {mg:Str → Option Value} {base:Heap}
variable {f:Addr} {cdv:Value} {A:Around} {outer:List Env} {s:Shared} {H:Hp} {E:XK}
set_option maxHeartbeats 0 in
theorem due_7 {fz:Addr} {fdz:FuncData} (mt:mg "tuple" = none) (mx:mg "max" = none) (GZ:FnOk P w K mg base CX0 1 fz fdz ["_law_kind_here"] (spSizeL K)) (bZ:Binds K fdz ["_law_kind_here"] []) (kZ:PySem.W.keepIn K (.ref fz) = true) (mZ:mg "_law_size" = some (.ref fz)) (hr:Room 5 (A.deeper (PyProof.Rows.envOfC "_law_due" (defScope sDue) s.heap.objs.size f cdv))) :
    ∃ t,PSs (cxOf CX0 P w K mg base duN "_law_due" (defScope sDue) f cdv A outer s H E).nox (List.drop 7 duB) t ∧
      ∀ (D:Ends) (B:Hp) (l g d e pw pD:Addr) (y:V) (x6 x7:Option V) (it:It) (rs:Rw) (PG:PGt) (us:List V) (kv fv:List (Key × V)) (W:List Str),DS K H B d e kv fv rs → rs.1.length ≤ 100 → rs.2.length ≤ 100 → ItAt K B y it → H pw = none → B pw = some (.lst (W.map V.str)) → W.length ≤ 5 → W ++ (if (It.ks it).any (bigB (Tl PG rs)) = true then [("big":Str)] else []) = wrong PG rs it → B pD = some (.lst us) → pD ≠ pw → Paired (OptAt K B) us ((It.ks it).map (outO (Tl PG rs))) → (It.ks it).length ≤ 5 → (∀ k ∈ It.ks it,(Kd.put (Tl PG rs) k).words ≤ 900) →
        (wrong PG rs it ≠ [] → ∀ H',Same H H' → H' pw = some (.lst ((wrong PG rs it).map V.str)) → D.rt (.ref pw) H') →
        (wrong PG rs it = [] → ∀ H' kv' fv',DS K H H' d e kv' fv' (nstep PG rs it) → D.nx [some (.ref l),some (.ref g),some (.ref d),some (.ref e),some y,some (.ref pw),x6,x7,some (.ref pD)] H') →
        t D [some (.ref l),some (.ref g),some (.ref d),some (.ref e),some y,some (.ref pw),x6,x7,some (.ref pD)] B:=by
  have hr1:Room 1 _:=hr.mono (by decide)
  obtain ⟨t8,d8,k8⟩:=due_8 (P:=P) (w:=w) (K:=K) (base:=base) (outer:=outer) (H:=H) (E:=E) mt hr
  refine ⟨_,pss_cons (ps_if (pt_cmpR op_gt (pe_maxD rfl rfl mx (pa_cons (pe_comp_if (own:=["_law_one"]) (caps:=[]) (κ:=[]) (cl:=[]) rfl ⟨rfl,by decide +kernel,by decide +kernel,rfl,rfl,(fun y hy => nomatch hy),(fun y hy => nomatch hy)⟩ rfl (pi_list (pv 8)) (fun _ _ _ _ => pg_name (i:=0) (show (["_law_one"]:List Str).Nodup from by decide +kernel) rfl (Or.inl rfl)) (fun _ _ _ _ => pt_cmpR op_notN (pv 0) pe_non (nomark _)) (fun _ _ _ _ => pe_call GZ hr1 rfl mZ kZ bZ .nil pass0 (pa_cons (pv 0) pa_nil))) pa_nil) (pk_cons pe_int pk_nil)) pe_int (nomark _))
      (pss_one (ps_expr (pe_bm PySem.F.plainAttrs_list PySem.F.slot_list_append PySem.F.type_list_append mt_append (pv 5) (pa_cons pe_str pa_nil)))) pss_nil) d8,?_⟩
  intro D B l g d e pw pD y x6 x7 it rs PG us kv fv W ds l1 l2 hat hpn hpw hW5 hWw hpD npD hus h5 h9 qR qN
  have hul:us.length = (It.ks it).length:=by rw [hus.length,List.length_map]
  refine ⟨_,rfl,pD,rfl,⟨_,SqL.of hpD⟩,?_⟩
  refine comp_by (xs:=us) (fun j ys H4 => Same B H4 ∧ ys = (szs (((It.ks it).map (outO (Tl PG rs))).take j)).map V.int) ⟨Same.refl _,by simp [szs]⟩ (small (by omega)) ?_ ?_ ?_ ?_ ?_ ?_
  · rintro j ys H4 ⟨_,rfl⟩
    rw [List.length_map]
    exact Nat.le_trans (szs_len _) (List.length_take_le _ _)
  · rintro j x ys H4 hx ⟨s4,_⟩
    exact ⟨_,_,SqL.of (s4 _ _ hpD),hx⟩
  · rintro j ys x H4 H' hn ⟨s4,_⟩ hy
    exact ⟨hy.1,hy.2 _ (SqL.of (s4 _ _ hpD))⟩
  · rintro ys H4 ⟨s4,_⟩
    exact ⟨_,SqL.of (s4 _ _ hpD),Nat.le_refl _⟩
  · rintro j x ys H4 N hN hx ⟨s4,rfl⟩
    obtain ⟨o,ho,hox⟩:=pair_get hus hx
    have et:((It.ks it).map (outO (Tl PG rs))).take (j + 1) = ((It.ks it).map (outO (Tl PG rs))).take j ++ [o]:=by rw [List.take_add_one,ho]; rfl
    refine ⟨rfl,⟨_,rfl,rfl,_,rfl,ite2 (fun c => ?_) (fun c => ?_)⟩⟩
    · have nx:¬ x = .non:=fun z => by rw [decide_eq_true z] at c; cases c
      cases o with
      | none => exact absurd hox nx
      | some k =>
        have hk9:k.words ≤ 900:=by
          rw [List.getElem?_map] at ho
          obtain ⟨k0,hk0,e0⟩:=Option.map_eq_some_iff.mp ho
          unfold outO at e0
          split at e0
          · cases e0
          · cases e0
            exact h9 k0 (List.mem_of_getElem? hk0)
        refine ⟨_,rfl,x,k,rfl,hox.1.same s4,hk9,fun H5 s5 => hN _ _ ⟨s4.trans s5,?_⟩⟩
        rw [et,szs_snoc,List.map_append]
        rfl
    · have nx:x = .non:=by
        by_cases z:x = .non
        · exact z
        · rw [decide_eq_false z] at c
          exact absurd rfl c
      cases o with
      | some k => exact absurd nx hox.2
      | none =>
        refine hN _ _ ⟨s4,?_⟩
        rw [et,szs_snoc]
        simp
  · rintro ys H4 Dl ⟨s4,rfl⟩ hD
    rw [List.take_of_length_le (by rw [List.length_map]; omega)]
    have sD:=same_new hD (.lst ((szs ((It.ks it).map (outO (Tl PG rs)))).map V.int))
    have s5:=s4.trans sD
    generalize hB5:upd H4 Dl (.lst ((szs ((It.ks it).map (outO (Tl PG rs)))).map V.int)) = B5 at sD s5
    have hDl:B5 Dl = some (.lst ((szs ((It.ks it).map (outO (Tl PG rs)))).map V.int)):=by rw [← hB5]; exact upd_same
    refine ⟨Dl,_,0,rfl,rfl,SqL.of hDl,fun M m1 m2 m3 => ⟨_,_,rfl,rfl,_,rfl,?_⟩⟩
    have hp5:=s5 _ _ hpw
    have ds5:=ds.same s5
    have hb:(M > 40) ↔ (It.ks it).any (bigB (Tl PG rs)) = true:=by
      rw [any_big]
      constructor
      · intro h
        refine ⟨M,m2 fun z => ?_,h⟩
        have:=m1 z
        omega
      · rintro ⟨x,hx,hl⟩
        have:=m3 x hx
        omega
    refine ite2 (fun c => ?_) (fun c => ?_)
    · have c':=hb.mp (of_decide_eq_true c)
      rw [if_pos c'] at hWw
      refine ⟨_,rfl,.inl ⟨rfl,_,SqL.of hp5⟩,pw,_,_,rfl,rfl,hp5,Nat.lt_of_lt_of_le (Nat.lt_succ_self _) (small (by rw [List.length_map]; omega)),?_⟩
      have kp:∀ a zs,SqT K B5 a zs → SqT K (upd B5 pw (.lst (W.map V.str ++ [.str "big"]))) a zs:=fun a zs t => sqt_upd hp5 t
      refine k8 D _ l g d e pw pD y x6 x7 it rs PG us kv fv (ds5.put hpn hp5) l1 l2 (hat.keep fun a zs t => kp a zs (s5.tup t)) ?_ (by rw [upd_ne npD]; exact s5 _ _ hpD) (Paired.mapP hus fun _ _ h => opt_keep (fun a zs t => kp a zs (s5.tup t)) h) qR qN
      rw [upd_same,← hWw,List.map_append]
      rfl
    · have c':¬ (It.ks it).any (bigB (Tl PG rs)) = true:=fun z => c (decide_eq_true (hb.mpr z))
      rw [if_neg c',List.append_nil] at hWw
      refine k8 D _ l g d e pw pD y x6 x7 it rs PG us kv fv ds5 l1 l2 (hat.same s5) ?_ (s5 _ _ hpD) (Paired.mapP hus fun _ _ h => OptAt.same s5 h) qR qN
      rw [← hWw]
      exact hp5
set_option maxHeartbeats 0 in
theorem due_6 {fz:Addr} {fdz:FuncData} (mt:mg "tuple" = none) (mx:mg "max" = none) (GZ:FnOk P w K mg base CX0 1 fz fdz ["_law_kind_here"] (spSizeL K)) (bZ:Binds K fdz ["_law_kind_here"] []) (kZ:PySem.W.keepIn K (.ref fz) = true) (mZ:mg "_law_size" = some (.ref fz)) (hr:Room 5 (A.deeper (PyProof.Rows.envOfC "_law_due" (defScope sDue) s.heap.objs.size f cdv))) :
    ∃ t,PSs (cxOf CX0 P w K mg base duN "_law_due" (defScope sDue) f cdv A outer s H E).nox (List.drop 6 duB) t ∧
      ∀ (D:Ends) (B:Hp) (l g d e pw pD:Addr) (y:V) (x6 x7:Option V) (it:It) (rs:Rw) (PG:PGt) (us:List V) (kv fv:List (Key × V)),DS K H B d e kv fv rs → rs.1.length ≤ 100 → rs.2.length ≤ 100 → ItAt K B y it → H pw = none → B pw = some (.lst ((if twB rs it = true then [("twice":Str)] else []).map V.str)) → B pD = some (.lst us) → pD ≠ pw → Paired (OptAt K B) us ((It.ks it).map (outO (Tl PG rs))) → (It.ks it).length ≤ 5 → (∀ k ∈ It.ks it,(Kd.put (Tl PG rs) k).words ≤ 900 ∧ Kd.sm (Kd.put (Tl PG rs) k)) →
        (wrong PG rs it ≠ [] → ∀ H',Same H H' → H' pw = some (.lst ((wrong PG rs it).map V.str)) → D.rt (.ref pw) H') →
        (wrong PG rs it = [] → ∀ H' kv' fv',DS K H H' d e kv' fv' (nstep PG rs it) → D.nx [some (.ref l),some (.ref g),some (.ref d),some (.ref e),some y,some (.ref pw),x6,x7,some (.ref pD)] H') →
        t D [some (.ref l),some (.ref g),some (.ref d),some (.ref e),some y,some (.ref pw),x6,x7,some (.ref pD)] B:=by
  have hu64:=hr.units
  obtain ⟨t7,d7,k7⟩:=due_7 (P:=P) (w:=w) (K:=K) (base:=base) (outer:=outer) (H:=H) (E:=E) mt mx GZ bZ kZ mZ hr
  refine ⟨_,pss_cons (ps_if (pt_cmpR (op_inD hu64) pe_non (pv 8) (by with_unfolding_all rfl)) (pss_one (ps_expr (pe_bm PySem.F.plainAttrs_list PySem.F.slot_list_append PySem.F.type_list_append mt_append (pv 5) (pa_cons pe_str pa_nil)))) pss_nil) d7,?_⟩
  intro D B l g d e pw pD y x6 x7 it rs PG us kv fv ds l1 l2 hat hpn hpw hpD npD hus h5 h9 qR qN
  refine ⟨_,rfl,pD,us,_,.none,rfl,SqL.of hpD,opts_dat hus,.non,opts_lay fun k hk => (h9 k hk).2,by decide +kernel,by decide +kernel,_,rfl,?_⟩
  rw [any_none]
  have w1:(if twB rs it = true then [("twice":Str)] else []).length ≤ 1:=by split <;> simp
  refine ite2 (fun c => ?_) (fun c => ?_)
  · have c':(It.ks it).any (lackB (Tl PG rs)) = true:=c
    refine ⟨_,rfl,.inl ⟨rfl,_,SqL.of hpw⟩,pw,_,_,rfl,rfl,hpw,Nat.lt_of_lt_of_le (Nat.lt_succ_self _) (small (by rw [List.length_map]; omega)),?_⟩
    have kp:∀ a zs,SqT K B a zs → SqT K (upd B pw (.lst ((if twB rs it = true then [("twice":Str)] else []).map V.str ++ [.str "no"]))) a zs:=fun a zs t => sqt_upd hpw t
    refine k7 D _ l g d e pw pD y x6 x7 it rs PG us kv fv ((if twB rs it = true then [("twice":Str)] else []) ++ [("no":Str)]) (ds.put hpn hpw) l1 l2 (hat.keep kp) hpn ?_ (by rw [List.length_append]; simp only [List.length_singleton]; omega) ?_ (by rw [upd_ne npD]; exact hpD) npD (Paired.mapP hus fun _ _ h => opt_keep kp h) h5 (fun k hk => (h9 k hk).1) qR qN
    · rw [upd_same,List.map_append]
      rfl
    · unfold wrong
      rw [if_pos c',List.append_assoc]
  · have c':¬ (It.ks it).any (lackB (Tl PG rs)) = true:=fun z => c z
    refine k7 D _ l g d e pw pD y x6 x7 it rs PG us kv fv (if twB rs it = true then [("twice":Str)] else []) ds l1 l2 hat hpn hpw (by omega) ?_ hpD npD hus h5 (fun k hk => (h9 k hk).1) qR qN
    unfold wrong
    rw [if_neg c',List.nil_append]
end
end K24
namespace K24
open PySem L2 Kk
theorem paired_snoc {α β:Type} {R:α → β → Prop}:∀ {xs:List α} {ys:List β} {x:α} {y:β},Paired R xs ys → R x y → Paired R (xs ++ [x]) (ys ++ [y])
  | _,_,_,_,.nil,h => .cons h .nil
  | _,_,_,_,.cons a t,h => .cons a (paired_snoc t h)
noncomputable def DueT (K:PySem.W.Frag) (H:Hp) (t:Addr) (s:Rw):Prop:=∃ (a b:Addr) (as bs:List Addr) (kvs fvs:List (Key × V)),SqT K H t [.ref a,.ref b] ∧ H a = some (.lst (as.map V.ref)) ∧ H b = some (.lst (bs.map V.ref)) ∧
  Paired (fun (p:Key × V) (k:Addr) => H k = some (.tup [kV p.1,p.2])) kvs as ∧ Paired (fun (p:Key × V) (k:Addr) => H k = some (.tup [kV p.1,p.2])) fvs bs ∧ PkAt (KdAt K H) kvs s.1 ∧ PkAt (FunAt K H) fvs s.2
theorem DueT.same {K:PySem.W.Frag} {H H':Hp} {t:Addr} {s:Rw} (h:DueT K H t s) (e:Same H H'):DueT K H' t s:=by
  obtain ⟨a,b,as,bs,kvs,fvs,h1,h2,h3,h4,h5,h6,h7⟩:=h
  exact ⟨a,b,as,bs,kvs,fvs,e.tup h1,e _ _ h2,e _ _ h3,Paired.mapP h4 fun _ _ x => e _ _ x,Paired.mapP h5 fun _ _ x => e _ _ x,h6.imp fun _ _ x => x.same e,h7.imp fun _ _ x => x.keep fun _ _ u => e.tup u⟩
noncomputable def dueD (s:Rw):PyData:=.tuple [kindsD s.1,funsD s.2]
theorem DueT.dat {K:PySem.W.Frag} {H:Hp} {t:Addr} {s:Rw} (h:DueT K H t s):Dat K H (.ref t) (dueD s):=by
  obtain ⟨a,b,as,bs,kvs,fvs,h1,h2,h3,h4,h5,h6,h7⟩:=h
  exact .tup h1 (.cons (.lst (SqL.of h2) (items_dat (fun _ _ x => kd_dat x) h6 h4)) (.cons (.lst (SqL.of h3) (items_dat (fun _ _ x => fn_dat x) h7 h5)) .nil))
theorem tl2_eq {PG:PGt} {G:Str × Str → Option Kd} (h:∀ n:Str × Str,n.1 ≠ "" → G n = (PG n.1).bind fun g => g n.2) (s:Rw):tell2 (look s.1) G = Tl PG s:=by
  funext n
  unfold tell2 Tl tell
  by_cases e:n.1 = ""
  · rw [if_pos e,if_pos e]
  · rw [if_neg e,if_neg e]
    exact h n e
noncomputable def spDue (K:PySem.W.Frag):Sp:=fun vs H Q _ => ∃ (l g:Addr) (xs:List V) (its:List It) (gkv:List (List Key × V)) (G:Str × Str → Option Kd) (PG:PGt),vs = [.ref l,.ref g] ∧ SqL K H l xs ∧ its.length ≤ 90 ∧ Paired (ItAt K H) xs its ∧ (∀ it ∈ its,IB it) ∧ H g = some (.dT gkv) ∧ GvAt K H gkv G ∧ (∀ n:Str × Str,n.1 ≠ "" → G n = (PG n.1).bind fun g => g n.2) ∧ PB PG ∧
  (OkUp PG its → ∀ H' t,Same H H' → DueT K H' t (stA PG its) → Q (.ref t) H') ∧
  (∀ i it,its[i]? = some it → OkUp PG (its.take i) → wrong PG (stA PG (its.take i)) it ≠ [] → ∀ H' p,Same H H' → H' p = some (.lst ((wrong PG (stA PG (its.take i)) it).map V.str)) → Q (.ref p) H')
section
variable {P:Program} {w:World} {K:PySem.W.Frag} {mg:Str → Option Value} {base:Heap}
section
variable {f:Addr} {cdv:Value} {A:Around} {outer:List Env} {s:Shared} {H:Hp} {E:XK}
set_option maxHeartbeats 0 in
theorem due_5 {fz fo:Addr} {fdz fdo:FuncData} (mt:mg "tuple" = none) (mx:mg "max" = none) (GZ:FnOk P w K mg base CX0 1 fz fdz ["_law_kind_here"] (spSizeL K)) (bZ:Binds K fdz ["_law_kind_here"] []) (kZ:PySem.W.keepIn K (.ref fz) = true) (mZ:mg "_law_size" = some (.ref fz))
    (GO:FnOk P w K mg base CX0 5 fo fdo ouP (spOut K 5)) (bO:Binds K fdo ouP []) (kO:PySem.W.keepIn K (.ref fo) = true) (mO:mg "_law_out" = some (.ref fo)) (hr:Room 5 (A.deeper (PyProof.Rows.envOfC "_law_due" (defScope sDue) s.heap.objs.size f cdv))) :
    ∃ t,PSs (cxOf CX0 P w K mg base duN "_law_due" (defScope sDue) f cdv A outer s H E).nox (List.drop 5 duB) t ∧
      ∀ (D:Ends) (B:Hp) (l g d e pw ps:Addr) (y:V) (x6 x8:Option V) (it:It) (rs:Rw) (PG:PGt) (G:Str × Str → Option Kd) (gkv:List (List Key × V)) (ys:List V) (kv fv:List (Key × V)),DS K H B d e kv fv rs → rs.1.length ≤ 100 → rs.2.length ≤ 100 → NS rs → PB PG → IB it → ItAt K B y it → H pw = none → B pw = some (.lst ((if twB rs it = true then [("twice":Str)] else []).map V.str)) → B ps = some (.lst ys) → KdsAt K B ys (It.ks it) →
        B g = some (.dT gkv) → GvAt K B gkv G → (∀ n:Str × Str,n.1 ≠ "" → G n = (PG n.1).bind fun g => g n.2) →
        (wrong PG rs it ≠ [] → ∀ H',Same H H' → H' pw = some (.lst ((wrong PG rs it).map V.str)) → D.rt (.ref pw) H') →
        (wrong PG rs it = [] → ∀ H' kv' fv' y8,DS K H H' d e kv' fv' (nstep PG rs it) → D.nx [some (.ref l),some (.ref g),some (.ref d),some (.ref e),some y,some (.ref pw),x6,some (.ref ps),y8] H') →
        t D [some (.ref l),some (.ref g),some (.ref d),some (.ref e),some y,some (.ref pw),x6,some (.ref ps),x8] B:=by
  obtain ⟨t6,d6,k6⟩:=due_6 (P:=P) (w:=w) (K:=K) (base:=base) (outer:=outer) (H:=H) (E:=E) mt mx GZ bZ kZ mZ hr
  refine ⟨_,pss_cons (ps_comp (i0:=8) (own:=["_law_kind_here"]) (caps:=["_law_away","_law_kinds"]) (κ:=[1,2]) scDue.nd rfl (Or.inl rfl) rfl ⟨rfl,by decide +kernel,by decide +kernel,rfl,rfl,(fun y hy => by simp only [List.mem_cons,List.not_mem_nil,or_false] at hy; rcases hy with rfl | rfl <;> rfl),(fun y hy => by simp only [List.mem_cons,List.not_mem_nil,or_false] at hy; rcases hy with rfl | rfl <;> exact ⟨.inl rfl,rfl,.inl rfl⟩)⟩ rfl
      (pi_list (pv 7)) (fun _ _ _ _ => pg_name (i:=0) (show (["_law_kind_here","_law_away","_law_kinds"]:List Str).Nodup from by decide +kernel) rfl (Or.inl rfl))
      (fun _ _ _ _ => pe_call GO hr rfl mO kO bO .nil pass0 (pa_cons (pv 0) (pa_cons (pv 2) (pa_cons (pv 1) pa_nil))))) d6,?_⟩
  intro D B l g d e pw ps y x6 x8 it rs PG G gkv ys kv fv ds l1 l2 ns pb ib hat hpn hpw hps hys hg hG hGP qR qN
  have hyl:ys.length = (It.ks it).length:=hys.length
  have i5:=ib.n
  refine ⟨_,rfl,ps,rfl,⟨_,SqL.of hps⟩,?_⟩
  refine comp_by (xs:=ys) (fun j us H4 => Same B H4 ∧ Paired (OptAt K H4) us (((It.ks it).take j).map (outO (Tl PG rs))) ∧ us.length = j) ⟨Same.refl _,.nil,rfl⟩ (small (by omega)) ?_ ?_ ?_ ?_ ?_ ?_
  · rintro j us H4 ⟨_,_,h⟩
    exact Nat.le_of_eq h
  · rintro j x us H4 hx ⟨s4,_⟩
    exact ⟨_,_,SqL.of (s4 _ _ hps),hx⟩
  · rintro j us x H4 H' hn ⟨s4,_⟩ hy
    exact ⟨hy.1,hy.2 _ (SqL.of (s4 _ _ hps))⟩
  · rintro us H4 ⟨s4,_⟩
    exact ⟨_,SqL.of (s4 _ _ hps),Nat.le_refl _⟩
  · rintro j x us H4 N hN hx ⟨s4,hus,hl⟩
    obtain ⟨k,hk,hxk⟩:=kds_get hys hx
    have et:(It.ks it).take (j + 1) = (It.ks it).take j ++ [k]:=by rw [List.take_add_one,hk]; rfl
    have kb:=ib.k k (List.mem_of_getElem? hk)
    have hdp:=depth_words k
    have hw5:=kb.2
    have d4:=ds.same s4
    refine ⟨rfl,tYes_go ⟨_,rfl,_,rfl,_,rfl,x,k,d,g,kv,gkv,look rs.1,G,rfl,hxk.same s4,by omega,d4.bd,kv_of d4.p1,s4 _ _ hg,hG.same s4,fun H5 v s5 hv => hN _ _ ⟨s4.trans s5,?_,?_⟩⟩⟩
    · rw [tl2_eq hGP] at hv
      rw [et,List.map_append]
      exact paired_snoc (Paired.mapP hus fun _ _ h => OptAt.same s5 h) hv
    · rw [List.length_append,hl]
      rfl
  · rintro us H4 Dl ⟨s4,hus,hl⟩ hD
    have eA:(It.ks it).take ys.length = It.ks it:=by rw [hyl]; exact List.take_length
    rw [eA] at hus
    have sD:=same_new hD (.lst us)
    have s5:=s4.trans sD
    have np:Dl ≠ pw:=fun z => by rw [z,s4 _ _ hpw] at hD; cases hD
    refine k6 D _ l g d e pw Dl y x6 (some (.ref ps)) it rs PG us kv fv (ds.same s5) l1 l2 (hat.same s5) hpn (s5 _ _ hpw) upd_same np (Paired.mapP hus fun _ _ h => OptAt.same sD h) i5 (fun k hk => ⟨?_,put_sm pb ns (ib.k k hk).1⟩) qR fun hw H' kv' fv' dn => qN hw H' kv' fv' _ dn
    have pw':=put_words (G:=Tl PG rs) (fun n k' e => (tl_b pb ns e).2) k
    have:=(ib.k k hk).2
    omega
set_option maxHeartbeats 0 in
theorem due_0 {fz fo:Addr} {fdz fdo:FuncData} (mt:mg "tuple" = none) (mx:mg "max" = none) (mi:mg "int" = none) (mli:mg "list" = none) (GZ:FnOk P w K mg base CX0 1 fz fdz ["_law_kind_here"] (spSizeL K)) (bZ:Binds K fdz ["_law_kind_here"] []) (kZ:PySem.W.keepIn K (.ref fz) = true) (mZ:mg "_law_size" = some (.ref fz))
    (GO:FnOk P w K mg base CX0 5 fo fdo ouP (spOut K 5)) (bO:Binds K fdo ouP []) (kO:PySem.W.keepIn K (.ref fo) = true) (mO:mg "_law_out" = some (.ref fo)) (hr:Room 5 (A.deeper (PyProof.Rows.envOfC "_law_due" (defScope sDue) s.heap.objs.size f cdv))) :
    ∃ t,PSs (cxOf CX0 P w K mg base duN "_law_due" (defScope sDue) f cdv A outer s H E).nox duB t ∧
      ∀ (D:Ends) (B:Hp) (l g d e:Addr) (y:V) (x5 x6 x7 x8:Option V) (it:It) (rs:Rw) (PG:PGt) (G:Str × Str → Option Kd) (gkv:List (List Key × V)) (kv fv:List (Key × V)),DS K H B d e kv fv rs → rs.1.length ≤ 100 → rs.2.length ≤ 100 → NS rs → PB PG → IB it → ItAt K B y it →
        B g = some (.dT gkv) → GvAt K B gkv G → (∀ n:Str × Str,n.1 ≠ "" → G n = (PG n.1).bind fun g => g n.2) →
        (wrong PG rs it ≠ [] → ∀ H' pw,Same H H' → H' pw = some (.lst ((wrong PG rs it).map V.str)) → D.rt (.ref pw) H') →
        (wrong PG rs it = [] → ∀ H' kv' fv' y5 y6 y7 y8,DS K H H' d e kv' fv' (nstep PG rs it) → D.nx [some (.ref l),some (.ref g),some (.ref d),some (.ref e),some y,y5,y6,y7,y8] H') →
        t D [some (.ref l),some (.ref g),some (.ref d),some (.ref e),some y,x5,x6,x7,x8] B:=by
  have hu:=hu_of hr
  obtain ⟨t5,d5,k5⟩:=due_5 (P:=P) (w:=w) (K:=K) (base:=base) (outer:=outer) (H:=H) (E:=E) mt mx GZ bZ kZ mZ GO bO kO mO hr
  refine ⟨_,pss_cons (ps_set (i:=5) scDue.nd rfl (Or.inl rfl) (pe_lst pa_nil))
    (pss_cons (ps_set (i:=6) scDue.nd rfl (Or.inl rfl) (pe_ix ix_list (pe_lst (pa_cons (pv 2) (pa_cons (pv 3) pa_nil))) (pe_callTy call_int1 rfl mi bootInt (pa_cons (pe_cmpR op_eq (pe_ix ix_tup (pv 4) pe_int (fun _ _ => rfl)) pe_str (nomark _)) pa_nil)) (fun _ _ => rfl)))
    (pss_cons (ps_if (pt_cmp (pc_din hu (pe_ix ix_tup (pv 4) pe_int (fun _ _ => rfl)) (pv 6)) (by with_unfolding_all rfl)) (pss_one (ps_expr (pe_bm PySem.F.plainAttrs_list PySem.F.slot_list_append PySem.F.type_list_append mt_append (pv 5) (pa_cons pe_str pa_nil)))) pss_nil)
    (pss_cons (ps_set (i:=7) scDue.nd rfl (Or.inl rfl) (pe_callTy call_list_of rfl mli bootList (pa_cons (pe_slice sl_tup (pv 4) (po_some pe_int) po_none) pa_nil)))
    (pss_cons (ps_if (pt_cmpR op_eq (pe_ix ix_tup (pv 4) pe_int (fun _ _ => rfl)) pe_str (nomark _)) (pss_one (ps_set (i:=7) scDue.nd rfl (Or.inl rfl) (pe_op op_cat (pe_callTy call_list_of rfl mli bootList (pa_cons (pe_ix ix_tup (pv 4) pe_int (fun _ _ => rfl)) pa_nil)) (pe_lst (pa_cons (pe_ix ix_tup (pv 4) pe_int (fun _ _ => rfl)) pa_nil))))) pss_nil) d5)))),?_⟩
  intro D B l g d e y x5 x6 x7 x8 it rs PG G gkv kv fv ds l1 l2 ns pb ib hat hg hG hGP qR qN
  refine ⟨(by show 0 ≤ sizeLine; decide),fun pw hpw0 => ?_⟩
  have s0:=same_new hpw0 (.lst [])
  have hpn:H pw = none:=ds.sm.free hpw0
  refine ⟨_,rfl,_,rfl,(by show 2 ≤ sizeLine; decide),fun pk hpk => ?_⟩
  have s1:=same_new hpk (.lst [.ref d,.ref e])
  have hpw1:=s1 _ _ (upd_same (H:=B) (a:=pw) (o:=.lst []))
  have hpk1:upd (upd B pw (.lst [])) pk (.lst [.ref d,.ref e]) pk = some (.lst [.ref d,.ref e]):=upd_same
  have s01:=s0.trans s1
  generalize upd (upd B pw (.lst [])) pk (.lst [.ref d,.ref e]) = B1 at s1 hpw1 hpk1 s01 ⊢
  clear s1 s0
  have ds1:=ds.same s01
  have hat1:=hat.same s01
  have keyK:∀ z:Str,(valV kv (.inr z)).isSome = decide (z ∈ rs.1.map (·.1)):=fun z => by
    rcases look_val ds.p1 z with ⟨h1,h2⟩ | ⟨v,k,h1,h2,_⟩
    · rw [h1]
      refine (decide_eq_false fun hm => ?_).symm
      obtain ⟨x,hx⟩:=look_ex hm
      rw [h2] at hx
      cases hx
    · rw [h1]
      exact (decide_eq_true (List.mem_map.mpr ⟨_,look_in h2,rfl⟩)).symm
  have keyF:∀ z:Str,(valV fv (.inr z)).isSome = decide (z ∈ rs.2.map (·.1)):=fun z => by
    rcases look_val ds.p2 z with ⟨h1,h2⟩ | ⟨v,k,h1,h2,_⟩
    · rw [h1]
      refine (decide_eq_false fun hm => ?_).symm
      obtain ⟨x,hx⟩:=look_ex hm
      rw [h2] at hx
      cases hx
    · rw [h1]
      exact (decide_eq_true (List.mem_map.mpr ⟨_,look_in h2,rfl⟩)).symm
  have rest:∀ (B2:Hp) (x6:Option V),DS K H B2 d e kv fv rs → ItAt K B2 y it → B2 pw = some (.lst ((if twB rs it = true then [("twice":Str)] else []).map V.str)) → B2 g = some (.dT gkv) → GvAt K B2 gkv G → _:=fun B2 x6 ds2 hat2 hpw2 hg2 hG2 => fun (B3:Hp) (ps:Addr) (ys:List V) (x8:Option V) (s3:Same B2 B3) (hps:B3 ps = some (.lst ys)) (hys:KdsAt K B3 ys (It.ks it)) =>
    k5 D B3 l g d e pw ps y x6 x8 it rs PG G gkv ys kv fv (ds2.same s3) l1 l2 ns pb ib (hat2.same s3) hpn (s3 _ _ hpw2) hps hys (s3 _ _ hg2) (hG2.same s3) hGP (fun hw H' s' h' => qR hw H' pw s' h') fun hw H' kv' fv' y8 dn => qN hw H' kv' fv' _ _ _ _ dn
  have twK:∀ (b:Bool),twB rs it = b → ∀ (B2:Hp),B2 = (if b = true then upd B1 pw (.lst [.str "twice"]) else B1) → DS K H B2 d e kv fv rs ∧ ItAt K B2 y it ∧ B2 pw = some (.lst ((if twB rs it = true then [("twice":Str)] else []).map V.str)) ∧ B2 g = some (.dT gkv) ∧ GvAt K B2 gkv G:=by
    intro b hb B2 hB2
    have hg1:=s01 _ _ hg
    cases b with
    | true =>
      rw [if_pos rfl] at hB2
      subst hB2
      have kp:∀ a zs,SqT K B1 a zs → SqT K (upd B1 pw (.lst [.str "twice"])) a zs:=fun a zs t => sqt_upd hpw1 t
      refine ⟨ds1.put hpn hpw1,hat1.keep kp,by rw [hb,if_pos rfl]; exact upd_same,by rw [upd_ne (fun z => by rw [z,hpw1] at hg1; cases hg1)]; exact hg1,GvAt.keep kp (hG.same s01)⟩
    | false =>
      rw [if_neg Bool.false_ne_true] at hB2
      subst hB2
      exact ⟨ds1,hat1,by rw [hb,if_neg Bool.false_ne_true]; exact hpw1,hg1,hG.same s01⟩
  cases it with
  | hid z =>
    obtain ⟨p,rfl,hp⟩:=id hat1
    refine ⟨_,rfl,_,_,_,_,rfl,rfl,hp,(show atI [V.str "hid",.str z] 0 = some (.str "hid") from rfl),rfl,.inr ⟨_,rfl,pk,_,_,_,rfl,rfl,SqL.of hpk1,(show atI [V.ref d,.ref e] (if (decide (V.str "hid" = V.str "fun")) = true then 1 else 0) = some (.ref d) from by rw [decide_eq_false (by decide +kernel)]; rfl),?_⟩⟩
    refine ⟨_,rfl,_,_,_,_,rfl,rfl,hp,(show atI [V.str "hid",.str z] 1 = some (.str z) from rfl),_,rfl,d,_,rfl,DGet.k (k:=.inr z) ds1.bd,_,rfl,?_⟩
    have go:∀ (B2:Hp),DS K H B2 d e kv fv rs ∧ ItAt K B2 (.ref p) (.hid z) ∧ B2 pw = some (.lst ((if twB rs (.hid z) = true then [("twice":Str)] else []).map V.str)) ∧ B2 g = some (.dT gkv) ∧ GvAt K B2 gkv G → _:=fun B2 ⟨a1,a2,a3,a4,a5⟩ => rest B2 (some (.ref d)) a1 a2 a3 a4 a5
    refine ite2 (fun c => ?_) (fun c => ?_)
    · have hx:=twK true ((keyK z).symm.trans c) _ (if_pos rfl).symm
      have hp2:SqT K (upd B1 pw (.lst [.str "twice"])) p [.str "hid",.str z]:=sqt_upd hpw1 hp
      refine ⟨_,rfl,.inl ⟨rfl,_,SqL.of hpw1⟩,pw,_,_,rfl,rfl,hpw1,(by show 0 < sizeLine; decide),?_⟩
      refine ⟨_,rfl,_,rfl,p,_,rfl,hp2,(by show ¬ (2 = 0 ∧ _); exact fun z => absurd z.1 (by decide)),fun q hq => ⟨q,_,rfl,.inr (SqT.of upd_same),fun ps hps => ?_⟩⟩
      have sq:=(same_new hq (.tup (cutV [V.str "hid",.str z] (some 2) none))).trans (same_new hps (.lst (cutV [V.str "hid",.str z] (some 2) none)))
      refine ⟨_,rfl,_,_,_,_,rfl,rfl,sq.tup hp2,(show atI [V.str "hid",.str z] 0 = some (.str "hid") from rfl),rfl,_,rfl,ite2 (fun c => absurd c (by decide +kernel)) (fun _ => ?_)⟩
      exact go _ hx _ ps [] _ sq upd_same .nil
    · have hx:=twK false ((keyK z).symm.trans (Bool.eq_false_iff.mpr c)) _ (if_neg Bool.false_ne_true).symm
      refine ⟨_,rfl,_,rfl,p,_,rfl,hp,(by show ¬ (2 = 0 ∧ _); exact fun z => absurd z.1 (by decide)),fun q hq => ⟨q,_,rfl,.inr (SqT.of upd_same),fun ps hps => ?_⟩⟩
      have sq:=(same_new hq (.tup (cutV [V.str "hid",.str z] (some 2) none))).trans (same_new hps (.lst (cutV [V.str "hid",.str z] (some 2) none)))
      refine ⟨_,rfl,_,_,_,_,rfl,rfl,sq.tup hp,(show atI [V.str "hid",.str z] 0 = some (.str "hid") from rfl),rfl,_,rfl,ite2 (fun c => absurd c (by decide +kernel)) (fun _ => ?_)⟩
      exact go _ hx _ ps [] _ sq upd_same .nil
  | told z k =>
    obtain ⟨p,x,rfl,hp,hx0⟩:=id hat1
    refine ⟨_,rfl,_,_,_,_,rfl,rfl,hp,(show atI [V.str "told",.str z,x] 0 = some (.str "told") from rfl),rfl,.inr ⟨_,rfl,pk,_,_,_,rfl,rfl,SqL.of hpk1,(show atI [V.ref d,.ref e] (if (decide (V.str "told" = V.str "fun")) = true then 1 else 0) = some (.ref d) from by rw [decide_eq_false (by decide +kernel)]; rfl),?_⟩⟩
    refine ⟨_,rfl,_,_,_,_,rfl,rfl,hp,(show atI [V.str "told",.str z,x] 1 = some (.str z) from rfl),_,rfl,d,_,rfl,DGet.k (k:=.inr z) ds1.bd,_,rfl,?_⟩
    have go:∀ (B2:Hp),DS K H B2 d e kv fv rs ∧ ItAt K B2 (.ref p) (.told z k) ∧ B2 pw = some (.lst ((if twB rs (.told z k) = true then [("twice":Str)] else []).map V.str)) ∧ B2 g = some (.dT gkv) ∧ GvAt K B2 gkv G → _:=fun B2 ⟨a1,a2,a3,a4,a5⟩ => rest B2 (some (.ref d)) a1 a2 a3 a4 a5
    refine ite2 (fun c => ?_) (fun c => ?_)
    · have hx:=twK true ((keyK z).symm.trans c) _ (if_pos rfl).symm
      have hp2:SqT K (upd B1 pw (.lst [.str "twice"])) p [.str "told",.str z,x]:=sqt_upd hpw1 hp
      have hx2:KdAt K (upd B1 pw (.lst [.str "twice"])) x k:=kd_keep (fun _ _ t => sqt_upd hpw1 t) hx0
      refine ⟨_,rfl,.inl ⟨rfl,_,SqL.of hpw1⟩,pw,_,_,rfl,rfl,hpw1,(by show 0 < sizeLine; decide),?_⟩
      refine ⟨_,rfl,_,rfl,p,_,rfl,hp2,(by show ¬ (2 = 0 ∧ _); exact fun z => absurd z.1 (by decide)),fun q hq => ⟨q,_,rfl,.inr (SqT.of upd_same),fun ps hps => ?_⟩⟩
      have sq:=(same_new hq (.tup (cutV [V.str "told",.str z,x] (some 2) none))).trans (same_new hps (.lst (cutV [V.str "told",.str z,x] (some 2) none)))
      refine ⟨_,rfl,_,_,_,_,rfl,rfl,sq.tup hp2,(show atI [V.str "told",.str z,x] 0 = some (.str "told") from rfl),rfl,_,rfl,ite2 (fun c => absurd c (by decide +kernel)) (fun _ => ?_)⟩
      exact go _ hx _ ps [x] _ sq upd_same (one (hx2.same sq))
    · have hx:=twK false ((keyK z).symm.trans (Bool.eq_false_iff.mpr c)) _ (if_neg Bool.false_ne_true).symm
      refine ⟨_,rfl,_,rfl,p,_,rfl,hp,(by show ¬ (2 = 0 ∧ _); exact fun z => absurd z.1 (by decide)),fun q hq => ⟨q,_,rfl,.inr (SqT.of upd_same),fun ps hps => ?_⟩⟩
      have sq:=(same_new hq (.tup (cutV [V.str "told",.str z,x] (some 2) none))).trans (same_new hps (.lst (cutV [V.str "told",.str z,x] (some 2) none)))
      refine ⟨_,rfl,_,_,_,_,rfl,rfl,sq.tup hp,(show atI [V.str "told",.str z,x] 0 = some (.str "told") from rfl),rfl,_,rfl,ite2 (fun c => absurd c (by decide +kernel)) (fun _ => ?_)⟩
      exact go _ hx _ ps [x] _ sq upd_same (one (hx0.same sq))
  | fn z as r =>
    obtain ⟨p,ta,x,vs,rfl,hp,hta,hks,hx0⟩:=id hat1
    have hvl:=hks.length
    have l5:(as ++ [r]).length ≤ 5:=ib.n
    have l4:as.length ≤ 4:=by rw [List.length_append] at l5; simp only [List.length_singleton] at l5; omega
    refine ⟨_,rfl,_,_,_,_,rfl,rfl,hp,(show atI [V.str "fun",.str z,.ref ta,x] 0 = some (.str "fun") from rfl),rfl,.inr ⟨_,rfl,pk,_,_,_,rfl,rfl,SqL.of hpk1,(show atI [V.ref d,.ref e] (if (decide (V.str "fun" = V.str "fun")) = true then 1 else 0) = some (.ref e) from by rw [decide_eq_true rfl]; rfl),?_⟩⟩
    refine ⟨_,rfl,_,_,_,_,rfl,rfl,hp,(show atI [V.str "fun",.str z,.ref ta,x] 1 = some (.str z) from rfl),_,rfl,e,_,rfl,DGet.k (k:=.inr z) ds1.be,_,rfl,?_⟩
    have go:∀ (B2:Hp),DS K H B2 d e kv fv rs ∧ ItAt K B2 (.ref p) (.fn z as r) ∧ B2 pw = some (.lst ((if twB rs (.fn z as r) = true then [("twice":Str)] else []).map V.str)) ∧ B2 g = some (.dT gkv) ∧ GvAt K B2 gkv G → _:=fun B2 ⟨a1,a2,a3,a4,a5⟩ => rest B2 (some (.ref e)) a1 a2 a3 a4 a5
    refine ite2 (fun c => ?_) (fun c => ?_)
    · have hx:=twK true ((keyF z).symm.trans c) _ (if_pos rfl).symm
      have kp:∀ a zs,SqT K B1 a zs → SqT K (upd B1 pw (.lst [.str "twice"])) a zs:=fun a zs t => sqt_upd hpw1 t
      have hp2:=kp _ _ hp
      have hta2:=kp _ _ hta
      have hks2:=kds_keep kp hks
      have hx2:=kd_keep kp hx0
      refine ⟨_,rfl,.inl ⟨rfl,_,SqL.of hpw1⟩,pw,_,_,rfl,rfl,hpw1,(by show 0 < sizeLine; decide),?_⟩
      refine ⟨_,rfl,_,rfl,p,_,rfl,hp2,(by show ¬ (2 = 0 ∧ _); exact fun z => absurd z.1 (by decide)),fun q hq => ⟨q,_,rfl,.inr (SqT.of upd_same),fun ps hps => ?_⟩⟩
      have sq:=(same_new hq (.tup (cutV [V.str "fun",.str z,.ref ta,x] (some 2) none))).trans (same_new hps (.lst (cutV [V.str "fun",.str z,.ref ta,x] (some 2) none)))
      refine ⟨_,rfl,_,_,_,_,rfl,rfl,sq.tup hp2,(show atI [V.str "fun",.str z,.ref ta,x] 0 = some (.str "fun") from rfl),rfl,_,rfl,ite2 (fun _ => ?_) (fun c => absurd (by decide +kernel) c)⟩
      refine ⟨_,rfl,_,_,_,_,rfl,rfl,sq.tup hp2,(show atI [V.str "fun",.str z,.ref ta,x] 2 = some (.ref ta) from rfl),ta,vs,rfl,.inr (sq.tup hta2),fun l3 hl3 => ?_⟩
      have sl3:=same_new hl3 (.lst vs)
      refine ⟨_,rfl,_,_,_,_,rfl,rfl,(sq.trans sl3).tup hp2,(show atI [V.str "fun",.str z,.ref ta,x] 3 = some x from rfl),(by show 1 ≤ sizeLine; decide),fun l4 hl4 => ?_⟩
      have sl4:=same_new hl4 (.lst [x])
      refine ⟨l3,l4,_,_,rfl,rfl,sl4 _ _ upd_same,upd_same,small (by show vs.length + 1 ≤ 1000; omega),fun l6 hl6 => ?_⟩
      have sl6:=same_new hl6 (.lst (vs ++ [x]))
      have sA:=sq.trans (sl3.trans (sl4.trans sl6))
      exact go _ hx _ l6 _ _ sA upd_same ((hks2.same sA).append (one (hx2.same sA)))
    · have hx:=twK false ((keyF z).symm.trans (Bool.eq_false_iff.mpr c)) _ (if_neg Bool.false_ne_true).symm
      refine ⟨_,rfl,_,rfl,p,_,rfl,hp,(by show ¬ (2 = 0 ∧ _); exact fun z => absurd z.1 (by decide)),fun q hq => ⟨q,_,rfl,.inr (SqT.of upd_same),fun ps hps => ?_⟩⟩
      have sq:=(same_new hq (.tup (cutV [V.str "fun",.str z,.ref ta,x] (some 2) none))).trans (same_new hps (.lst (cutV [V.str "fun",.str z,.ref ta,x] (some 2) none)))
      refine ⟨_,rfl,_,_,_,_,rfl,rfl,sq.tup hp,(show atI [V.str "fun",.str z,.ref ta,x] 0 = some (.str "fun") from rfl),rfl,_,rfl,ite2 (fun _ => ?_) (fun c => absurd (by decide +kernel) c)⟩
      refine ⟨_,rfl,_,_,_,_,rfl,rfl,sq.tup hp,(show atI [V.str "fun",.str z,.ref ta,x] 2 = some (.ref ta) from rfl),ta,vs,rfl,.inr (sq.tup hta),fun l3 hl3 => ?_⟩
      have sl3:=same_new hl3 (.lst vs)
      refine ⟨_,rfl,_,_,_,_,rfl,rfl,(sq.trans sl3).tup hp,(show atI [V.str "fun",.str z,.ref ta,x] 3 = some x from rfl),(by show 1 ≤ sizeLine; decide),fun l4 hl4 => ?_⟩
      have sl4:=same_new hl4 (.lst [x])
      refine ⟨l3,l4,_,_,rfl,rfl,sl4 _ _ upd_same,upd_same,small (by show vs.length + 1 ≤ 1000; omega),fun l6 hl6 => ?_⟩
      have sl6:=same_new hl6 (.lst (vs ++ [x]))
      have sA:=sq.trans (sl3.trans (sl4.trans sl6))
      exact go _ hx _ l6 _ _ sA upd_same ((hks.same sA).append (one (hx0.same sA)))
end
end
end K24
namespace K24
open PySem L2 Kk
section
variable {P:Program} {w:World} {K:PySem.W.Frag} {mg:Str → Option Value} {base:Heap}
set_option maxHeartbeats 0 in
theorem ok_due {f fz fo:Addr} {fd fdz fdo:FuncData} (F:Fun K "_law_due" "_law_due" sDue f fd) (mt:mg "tuple" = none) (mx:mg "max" = none) (mi:mg "int" = none) (mli:mg "list" = none) (GZ:FnOk P w K mg base CX0 1 fz fdz ["_law_kind_here"] (spSizeL K)) (bZ:Binds K fdz ["_law_kind_here"] []) (kZ:PySem.W.keepIn K (.ref fz) = true) (mZ:mg "_law_size" = some (.ref fz))
    (GO:FnOk P w K mg base CX0 5 fo fdo ouP (spOut K 5)) (bO:Binds K fdo ouP []) (kO:PySem.W.keepIn K (.ref fo) = true) (mO:mg "_law_out" = some (.ref fo)):FnOk P w K mg base CX0 6 f fd duP (spDue K):=by
  refine F.ok scDue (fun vs H Q E h => ?_) (fun cdv A outer s H vs Q E hr h => ?_)
  · obtain ⟨l,g,xs,its,gkv,G,PG,rfl,_⟩:=h
    rfl
  obtain ⟨l,g,xs,its,gkv,G,PG,rfl,hl,h90,hits,hib,hg,hG,hGP,pb,q1,q2⟩:=h
  obtain ⟨t0,d0,k0⟩:=due_0 (P:=P) (w:=w) (K:=K) (base:=base) (outer:=outer) (H:=H) (E:=E) mt mx mi mli GZ bZ kZ mZ GO bO kO mO hr
  refine ⟨_,pss_cons (ps_set (i:=2) scDue.nd rfl (Or.inr rfl) pe_dnewK) (pss_cons (ps_set (i:=3) scDue.nd rfl (Or.inl rfl) pe_dnewK)
    (pss_cons (ps_for PassesOwn.never rfl (pi_list (pv 0)) (pg_name (i:=4) scDue.nd rfl (Or.inl rfl)) d0)
    (pss_one (ps_ret (pe_tup (pa_cons (pe_callTy (call_list_items rfl) (by rfl) mli bootList (pa_cons (pe_bm0 PySem.F.plainAttrs_dict PySem.F.slot_dict_items PySem.F.type_dict_items mt_items (pv 2)) pa_nil))
      (pa_cons (pe_callTy (call_list_items rfl) (by rfl) mli bootList (pa_cons (pe_bm0 PySem.F.plainAttrs_dict PySem.F.slot_dict_items PySem.F.type_dict_items mt_items (pv 3)) pa_nil)) pa_nil))))))),?_⟩
  intro d hd0
  have sd:=same_new hd0 (.dK [])
  intro e he0
  have se:=same_new he0 (.dK [])
  have he00:H e = none:=sd.free he0
  have nde:d ≠ e:=fun z => by rw [← z,upd_same] at he0; cases he0
  have s00:=sd.trans se
  have hlen:xs.length = its.length:=hits.length
  refine ⟨_,rfl,l,rfl,⟨_,sql_same s00 hl⟩,for_list (K:=K) (xs:=xs) (fun i σ H3 => ∃ (kv fv:List (Key × V)) (x4 x5 x6 x7 x8:Option V),σ = [some (.ref l),some (.ref g),some (.ref d),some (.ref e),x4,x5,x6,x7,x8] ∧ OkUp PG (its.take i) ∧ DS K H H3 d e kv fv (stA PG (its.take i)))
    ⟨[],[],none,none,none,none,none,rfl,(fun i it h => by simp at h),⟨s00,hd0,he00,nde,se _ _ upd_same,upd_same,.nil,.nil⟩⟩ ?_ ?_ ?_⟩
  · rintro i σ H3 _ ⟨kv,fv,x4,x5,x6,x7,x8,rfl,_,ds⟩
    exact sql_same ds.sm hl
  · rintro i y σ H3 hy ⟨kv,fv,x4,x5,x6,x7,x8,rfl,hok,ds⟩
    obtain ⟨it,hit,hat⟩:=pair_get hits hy
    have ib:=hib it (List.mem_of_getElem? hit)
    have hit':∀ it' ∈ its.take i,IB it':=fun it' h' => hib it' (List.mem_of_mem_take h')
    have ns:=hok.ns pb hit' (its.take i).length
    rw [List.take_length] at ns
    have ll:=stA_len (PG:=PG) (its.take i) ([],[])
    have l0:(its.take i).length ≤ 90:=Nat.le_trans (List.length_take_le' _ _) h90
    have ll1:(stA PG (its.take i)).1.length ≤ 100:=by
      have:=ll.1
      show ((its.take i).foldl (nstep PG) ([],[])).1.length ≤ 100
      simp only [List.length_nil] at this
      omega
    have ll2:(stA PG (its.take i)).2.length ≤ 100:=by
      have:=ll.2
      show ((its.take i).foldl (nstep PG) ([],[])).2.length ≤ 100
      simp only [List.length_nil] at this
      omega
    refine k0 _ _ l g d e y x5 x6 x7 x8 it (stA PG (its.take i)) PG G gkv kv fv ds ll1 ll2 ns pb ib (hat.same ds.sm) (ds.sm _ _ hg) (hG.same ds.sm) hGP (fun hw H' pw s' h' => q2 i it hit hok hw H' pw s' h') fun hw H' kv' fv' y5 y6 y7 y8 dn => ?_
    refine ⟨kv',fv',_,y5,y6,y7,y8,rfl,?_,?_⟩
    · rw [take_snoc hit]
      exact hok.snoc hw
    · rw [take_snoc hit,stA_snoc]
      exact dn
  · rintro σ H3 ⟨kv,fv,x4,x5,x6,x7,x8,rfl,hok,ds⟩
    rw [hlen,List.take_length] at hok ds
    refine ⟨_,rfl,.inr (.inr (.inl ⟨rfl,.inl ⟨kv,ds.bd⟩⟩)),d,kv,rfl,rfl,ds.bd,fun v hv => ?_⟩
    have sv:=same_new hv (.ext (itemsAt v d))
    refine ⟨v,d,kv,rfl,upd_same,sv _ _ ds.bd,fun H4 as la s4 nl nas hla hpa => ?_⟩
    have s4':Same (upd H3 v (.ext (itemsAt v d))) H4:=s4
    have ds4:=(ds.same sv).same s4'
    refine ⟨_,rfl,.inr (.inr (.inl ⟨rfl,.inl ⟨fv,ds4.be⟩⟩)),e,fv,rfl,rfl,ds4.be,fun v2 hv2 => ?_⟩
    have sv2:=same_new hv2 (.ext (itemsAt v2 e))
    refine ⟨v2,e,fv,rfl,upd_same,sv2 _ _ ds4.be,fun H5 bs lb s5 nl2 nbs hlb hpb => ⟨(by show 2 ≤ sizeLine; decide),fun t ht => ?_⟩⟩
    have s5':Same (upd H4 v2 (.ext (itemsAt v2 e))) H5:=s5
    have st:=same_new ht (.tup [.ref la,.ref lb])
    have s45:=(sv2.trans s5').trans st
    have ds6:=ds4.same s45
    exact q1 hok _ t ds6.sm ⟨la,lb,as,bs,kv,fv,SqT.of upd_same,s45 _ _ hla,st _ _ hlb,Paired.mapP hpa fun _ _ x => s45 _ _ x,Paired.mapP hpb fun _ _ x => st _ _ x,ds6.p1,ds6.p2⟩
end
noncomputable def mz:Kd → Nat
  | .num _ => 3 | .name _ _ => 4 | .pair a b => 2 + mz a + mz b
inductive BE (K:PySem.W.Frag) (H:Hp):V → Nat → Prop
  | str (z:Str):BE K H (.str z) 1
  | int (i:Int):BE K H (.int i) 1
  | kd {v:V} {k:Kd}:KdAt K H v k → KB k → BE K H v (mz k)
  | kds {ta:Addr} {xs:List V} {ks:List Kd}:SqT K H ta xs → KdsAt K H xs ks → (∀ k ∈ ks,KB k) → BE K H (.ref ta) (1 + (ks.map mz).sum)
theorem BE.keep {K:PySem.W.Frag} {H H':Hp} (e:∀ a xs,SqT K H a xs → SqT K H' a xs) {v:V} {n:Nat} (h:BE K H v n):BE K H' v n:=by
  cases h with
  | str z => exact .str z
  | int i => exact .int i
  | kd a b => exact .kd (kd_keep e a) b
  | kds a b c => exact .kds (e _ _ a) (kds_keep e b) c
theorem mz_pos:∀ k:Kd,1 ≤ mz k
  | .num _ => by show 1 ≤ 3; decide
  | .name _ _ => by show 1 ≤ 4; decide
  | .pair a b => by show 1 ≤ 2 + mz a + mz b; omega
theorem mz_le:∀ k:Kd,mz k ≤ 4 * k.words
  | .num _ => by show 3 ≤ 4 * 1; decide
  | .name _ _ => by show 4 ≤ 4 * 1; decide
  | .pair a b => by
    have h1:=mz_le a
    have h2:=mz_le b
    show 2 + mz a + mz b ≤ 4 * (1 + a.words + b.words)
    omega
theorem BE.pos {K:PySem.W.Frag} {H:Hp} {v:V} {n:Nat} (h:BE K H v n):1 ≤ n:=by
  cases h with
  | str z => exact Nat.le_refl _
  | int i => exact Nat.le_refl _
  | kd a b => exact mz_pos _
  | kds a b c => omega
theorem be_len {K:PySem.W.Frag} {H:Hp}:∀ {vs:List V} {ns:List Nat},Paired (BE K H) vs ns → vs.length ≤ ns.sum
  | _,_,.nil => Nat.le_refl _
  | v :: vs,n :: ns,.cons h r => by
    have h1:=h.pos
    have h2:=be_len r
    show vs.length + 1 ≤ (n :: ns).sum
    rw [List.sum_cons]
    omega
theorem be_kds {K:PySem.W.Frag} {H:Hp}:∀ {xs:List V} {ks:List Kd},KdsAt K H xs ks → (∀ k ∈ ks,KB k) → Paired (BE K H) xs (ks.map mz)
  | _,_,.nil,_ => .nil
  | _,k :: ks,.cons h r,hk => .cons (.kd h (hk k (.head _))) (be_kds r fun j hj => hk j (.tail _ hj))
theorem paired_last {α β:Type} {R:α → β → Prop}:∀ {us:List α} {u:α} {ys:List β},Paired R (us ++ [u]) ys → ∃ ws y,ys = ws ++ [y] ∧ Paired R us ws ∧ R u y
  | [],u,_,.cons h .nil => ⟨[],_,rfl,.nil,h⟩
  | a :: us,u,_,.cons h r => by
    obtain ⟨ws,y,rfl,h1,h2⟩:=paired_last (us:=us) r
    exact ⟨_ :: ws,y,rfl,.cons h h1,h2⟩
theorem paired_app {α β:Type} {R:α → β → Prop}:∀ {xs us:List α} {ys vs:List β},Paired R xs ys → Paired R us vs → Paired R (xs ++ us) (ys ++ vs)
  | _,_,_,_,.nil,h => h
  | _,_,_,_,.cons a r,h => .cons a (paired_app r h)
noncomputable def HidAt (K:PySem.W.Frag) (H:Hp) (v:V) (z:Str):Prop:=(∃ p,v = .ref p ∧ SqT K H p [.str "hid",.str z]) ∧ smW z
theorem hid_dat {K:PySem.W.Frag} {H:Hp}:∀ {vs:List V} {zs:List Str},Paired (HidAt K H) vs zs → Dats K H vs (zs.map fun z => .tuple [.str "hid",.str z])
  | _,_,.nil => .nil
  | _,_,.cons ⟨⟨p,e,h⟩,_⟩ r => by
    subst e
    exact .cons (.tup h (.cons (.str _) (.cons (.str _) .nil))) (hid_dat r)
theorem hid_sm {K:PySem.W.Frag} {H:Hp}:∀ {vs:List V} {zs:List Str},Paired (HidAt K H) vs zs → ∀ z ∈ zs,smW z
  | _,_,.nil,z,h => nomatch h
  | _,_,.cons ⟨_,h⟩ r,z,hz => by
    rcases List.mem_cons.mp hz with rfl | hz
    · exact h
    · exact hid_sm r z hz
theorem hidD_gd {z:Str} (h:smW z):Gdn 1 (.tuple [.str "hid",.str z]):=gdn_tup fun d hd => by
  rcases List.mem_cons.mp hd with rfl | hd
  · exact gdn_str (by decide +kernel)
  · rw [List.mem_singleton.mp hd]
    exact gdn_str h.1
theorem hid_lay {zs:List Str} (h:∀ z ∈ zs,smW z):PyData.canLayAll0 (zs.map fun z => .tuple [.str "hid",.str z]) = true:=(gdn_all (n:=1) fun d hd => by
  obtain ⟨z,hz,rfl⟩:=List.mem_map.mp hd
  exact hidD_gd (h z hz)).1
noncomputable def whB:Stmt → List Stmt
  | .While _ body _ _ => body
  | _ => []
noncomputable def ifT:Stmt → List Stmt
  | .If _ body _ _ => body
  | _ => []
noncomputable def ifE:Stmt → List Stmt
  | .If _ _ e _ => e
  | _ => []
noncomputable abbrev beN:List Str:=["_law_item_here","_law_due_here","_law_kinds","_law_found","_law_left","_law_one"]
noncomputable abbrev beP:List Str:=["_law_item_here","_law_due_here"]
noncomputable abbrev beI:Stmt:=(whB ((defBody sBehind).getD 3 (.Pass ⟨0,0,0,0⟩))).getD 1 (.Pass ⟨0,0,0,0⟩)
noncomputable def spBehind (K:PySem.W.Frag):Sp:=fun vs H Q _ => ∃ (y:V) (t:Addr) (it:It) (rs:Rw),vs = [y,.ref t] ∧ ItAt K H y it ∧ IB it ∧ DueT K H t rs ∧ rs.1.length ≤ 100 ∧ ∀ H' (l:Addr) (us:List V),Same H H' → H' l = some (.lst us) → us.length ≤ 200 → Q (.ref l) H'
section
variable {P:Program} {w:World} {K:PySem.W.Frag} {mg:Str → Option Value} {base:Heap}
theorem scBehind:FnScope beN beP (defScope sBehind):=⟨rfl,rfl,rfl,by decide +kernel,rfl,by decide +kernel,by decide +kernel⟩
section
variable {f:Addr} {cdv:Value} {A:Around} {outer:List Env} {s:Shared} {H:Hp} {E:XK}
theorem be_E (mi:mg "isinstance" = none) (mt:mg "tuple" = none) :
    ∃ t,PSs (cxOf CX0 P w K mg base beN "_law_behind" (defScope sBehind) f cdv A outer s H E).nox (ifE beI) t ∧
      (∀ (D:Ends) (B:Hp) (x0 x1 x2 x3:Option V) (ll a:Addr) (us zs:List V),SqT K B a zs → B ll = some (.lst us) → us.length + zs.length ≤ 1000 → D.nx [x0,x1,x2,x3,some (.ref ll),some (.ref a)] (upd B ll (.lst (us ++ zs))) → t D [x0,x1,x2,x3,some (.ref ll),some (.ref a)] B) ∧
      (∀ (D:Ends) (B:Hp) (x0 x1 x2 x3 x4:Option V) (z:Str),D.nx [x0,x1,x2,x3,x4,some (.str z)] B → t D [x0,x1,x2,x3,x4,some (.str z)] B) ∧
      (∀ (D:Ends) (B:Hp) (x0 x1 x2 x3 x4:Option V) (i:Int),D.nx [x0,x1,x2,x3,x4,some (.int i)] B → t D [x0,x1,x2,x3,x4,some (.int i)] B):=by
  refine ⟨_,pss_one (ps_if (pt_val (pe_callB call_isiTA rfl mi bootIsi (pa_cons (pv 5) (pa_cons (pe_bltn rfl mt bootTuple (v:=.ty "tuple") rfl) pa_nil)))) (pss_one (ps_expr (pe_bm PySem.F.plainAttrs_list PySem.F.slot_list_extend PySem.F.type_list_extend mt_extendT (pv 4) (pa_cons (pv 5) pa_nil)))) pss_nil),?_,?_,?_⟩
  · intro D B x0 x1 x2 x3 ll a us zs hz hl hb q
    refine ⟨_,rfl,_,rfl,.inr (.inr ⟨a,zs,rfl,hz,_,rfl,ite2 (fun _ => ?_) (fun c => absurd rfl c)⟩)⟩
    exact ⟨_,rfl,.inl ⟨rfl,_,SqL.of hl⟩,_,rfl,ll,a,us,zs,rfl,rfl,hl,hz,small hb,q⟩
  · intro D B x0 x1 x2 x3 x4 z q
    exact ⟨_,rfl,_,rfl,.inl ⟨z,rfl,_,rfl,ite2 (fun c => absurd c (by decide)) (fun _ => q)⟩⟩
  · intro D B x0 x1 x2 x3 x4 i q
    exact ⟨_,rfl,_,rfl,.inr (.inl ⟨i,rfl,_,rfl,ite2 (fun c => absurd c (by decide)) (fun _ => q)⟩)⟩
theorem be_T (hr:Room 1 (A.deeper (PyProof.Rows.envOfC "_law_behind" (defScope sBehind) s.heap.objs.size f cdv))) :
    ∃ t,PSs (cxOf CX0 P w K mg base beN "_law_behind" (defScope sBehind) f cdv A outer s H E).nox (ifT beI) t ∧
      (∀ (D:Ends) (B:Hp) (x1:Option V) (dk lf ll a:Addr) (y:V) (it:It) (q z:Str) (kvs:List (Key × V)) (us:List V) (zs:List Str),ItAt K B y it → SqT K B a [.str "name",.str q,.str z] → smW z → B dk = some (.dK kvs) → B lf = some (.lst us) → Paired (HidAt K B) us zs → us.length ≤ 900 →
        (∀ B',Same B B' → D.nx [some y,x1,some (.ref dk),some (.ref lf),some (.ref ll),some (.ref a)] B') →
        (∀ B' p,Same B B' → SqT K B' p [.str "hid",.str z] → D.nx [some y,x1,some (.ref dk),some (.ref lf),some (.ref ll),some (.ref a)] (upd B' lf (.lst (us ++ [.ref p])))) →
        t D [some y,x1,some (.ref dk),some (.ref lf),some (.ref ll),some (.ref a)] B):=by
  have hu:=hu_of hr
  have hu64:=hr.units
  refine ⟨_,pss_one (ps_if (PW.pt (pw_and (pt_cmp (pc_dnotin hu (pe_ix ix_tup (pv 5) pe_int (fun _ _ => rfl)) (pv 2)) (by with_unfolding_all rfl)) (pw_and (pt_cmpR (op_notInD hu64) (pe_tup (pa_cons pe_str (pa_cons (pe_ix ix_tup (pv 5) pe_int (fun _ _ => rfl)) pa_nil))) (pv 3) (by with_unfolding_all rfl))
      (pw_and1 (PW.pt (pw_or (pt_cmpR op_eq (pe_ix ix_tup (pv 0) pe_int (fun _ _ => rfl)) pe_str (nomark _)) (pw_or1 (pt_cmpR op_ne (pe_ix ix_tup (pv 5) pe_int (fun _ _ => rfl)) (pe_ix ix_tup (pv 0) pe_int (fun _ _ => rfl)) (nomark _)))))))))
      (pss_one (ps_expr (pe_bm PySem.F.plainAttrs_list PySem.F.slot_list_append PySem.F.type_list_append mt_append (pv 3) (pa_cons (pe_tup (pa_cons pe_str (pa_cons (pe_ix ix_tup (pv 5) pe_int (fun _ _ => rfl)) pa_nil))) pa_nil)))) pss_nil),?_⟩
  intro D B x1 dk lf ll a y it q z kvs us zs hat ha hz hdk hlf hus hul q1 q2
  have a2:atI [V.str "name",.str q,.str z] 2 = some (.str z):=rfl
  refine ⟨_,rfl,_,_,_,_,rfl,rfl,ha,a2,_,rfl,dk,_,rfl,DGet.k (k:=.inr z) hdk,_,rfl,ite2 (fun _ => ?_) (fun _ => q1 _ (Same.refl _))⟩
  refine ⟨_,rfl,_,_,_,_,rfl,rfl,ha,a2,(by show 2 ≤ sizeLine; decide),fun p hp => ?_⟩
  have sp:=same_new hp (.tup [.str "hid",.str z])
  have hus':Paired (HidAt K (upd B p (.tup [.str "hid",.str z]))) us zs:=Paired.mapP hus fun _ _ ⟨⟨p',e,h⟩,h2⟩ => ⟨⟨p',e,sp.tup h⟩,h2⟩
  refine ⟨_,rfl,lf,us,_,.tuple [.str "hid",.str z],rfl,SqL.of (sp _ _ hlf),hid_dat hus',.tup (SqT.of upd_same) (.cons (.str _) (.cons (.str _) .nil)),hid_lay (hid_sm hus),(hidD_gd hz).1,Nat.le_trans (hidD_gd hz).2 (by decide),_,rfl,ite2 (fun _ => ?_) (fun _ => q1 _ sp)⟩
  have ad:∀ {i0 i1:V},True:=fun {_ _} => trivial
  have go:∀ (B2:Hp),Same B B2 → ∀ p2,B2 p2 = none → D.nx [some y,x1,some (.ref dk),some (.ref lf),some (.ref ll),some (.ref a)] (upd (upd B2 p2 (.tup [.str "hid",.str z])) lf (.lst (us ++ [.ref p2]))):=fun B2 s2 p2 hp2 => q2 _ p2 (s2.trans (same_new hp2 _)) (SqT.of upd_same)
  have zz:us.length < sizeLine:=Nat.lt_of_lt_of_le (Nat.lt_succ_self _) (small (by omega))
  have hat':=hat.same sp
  have ha':=sp.tup ha
  have app:∀ (B2:Hp),Same B B2 → ∃ x,[some y,x1,some (.ref dk),some (.ref lf),some (.ref ll),some (.ref a)][3]? = some x ∧ True:=fun _ _ => ⟨_,rfl,trivial⟩
  obtain ⟨p0,vs,h0,w0,rfl,hp0,e0,e1⟩:∃ (p0:Addr) (vs:List V) (h0 w0:Str),y = .ref p0 ∧ SqT K (upd B p (.tup [.str "hid",.str z])) p0 vs ∧ atI vs 0 = some (.str h0) ∧ atI vs 1 = some (.str w0):=by
    cases it with
    | hid w => obtain ⟨p0,e,h⟩:=hat'; exact ⟨p0,_,_,_,e,h,rfl,rfl⟩
    | told w k => obtain ⟨p0,x,e,h,_⟩:=hat'; exact ⟨p0,_,_,_,e,h,rfl,rfl⟩
    | fn w as r => obtain ⟨p0,ta,x,xs,e,h,_⟩:=hat'; exact ⟨p0,_,_,_,e,h,rfl,rfl⟩
  refine ⟨_,rfl,_,_,_,_,rfl,rfl,hp0,e0,rfl,_,rfl,ite2 (fun _ => ?_) (fun _ => ?_)⟩
  · refine ite2 (fun _ => ?_) (fun c => absurd rfl c)
    exact ⟨_,rfl,.inl ⟨rfl,_,SqL.of (sp _ _ hlf)⟩,_,rfl,_,_,_,_,rfl,rfl,ha',a2,(by show 2 ≤ sizeLine; decide),fun p2 hp2 => ⟨lf,_,_,rfl,rfl,(same_new hp2 _) _ _ (sp _ _ hlf),zz,go _ sp p2 hp2⟩⟩
  · refine ⟨_,rfl,_,_,_,_,rfl,rfl,ha',a2,_,rfl,_,_,_,_,rfl,rfl,hp0,e1,rfl,_,rfl,ite2 (fun _ => ?_) (fun _ => q1 _ sp)⟩
    exact ⟨_,rfl,.inl ⟨rfl,_,SqL.of (sp _ _ hlf)⟩,_,rfl,_,_,_,_,rfl,rfl,ha',a2,(by show 2 ≤ sizeLine; decide),fun p2 hp2 => ⟨lf,_,_,rfl,rfl,(same_new hp2 _) _ _ (sp _ _ hlf),zz,go _ sp p2 hp2⟩⟩
end
end
end K24
namespace K24
open PySem L2 Kk
noncomputable def ifC:Stmt → Expr
  | .If c _ _ _ => c
  | _ => .Constant .none 0 ⟨0,0,0,0⟩
noncomputable abbrev nmD:PyData:=.tuple [.str "name",.str ""]
theorem gdn_int {n:Nat} (i:Int):Gdn n (.int i):=⟨by simp only [PyData.canLay0],by simp [PyData.depth]⟩
theorem sh_nm:SeqAt.shaped nmD = true:=by decide +kernel
theorem eqv_kd_str (k:Kd) (z:Str):PyData.eqv (Kd.dat k) (.str z) = false:=by
  cases k <;> simp [Kd.dat,PyData.eqv]
theorem eqv_take (ks:List Kd):PyData.eqv (.tuple ((ks.map Kd.dat).take 2)) nmD = false:=by
  rw [eqv_tup]
  cases ks with
  | nil => simp [PyData.eqvAll]
  | cons k ks =>
    rw [List.map_cons,List.take_succ_cons,eqvA_cons,eqv_kd_str]
    rfl
theorem sum_mz:∀ {ks:List Kd},(∀ k ∈ ks,KB k) → (ks.map mz).sum ≤ 20 * ks.length
  | [],_ => Nat.le_refl _
  | k :: ks,h => by
    have h1:=sum_mz (ks:=ks) fun j hj => h j (.tail _ hj)
    have h2:=mz_le k
    have h3:=(h k (.head _)).2
    show (mz k :: ks.map mz).sum ≤ 20 * (ks.length + 1)
    rw [List.sum_cons]
    omega
theorem dats_take {K:PySem.W.Frag} {H:Hp}:∀ {xs:List V} {ds:List PyData} (n:Nat),Dats K H xs ds → Dats K H (xs.take n) (ds.take n)
  | _,_,0,_ => by rw [List.take_zero,List.take_zero]; exact .nil
  | _,_,_ + 1,.nil => .nil
  | _,_,n + 1,.cons h r => .cons h (dats_take n r)
theorem dats_len {K:PySem.W.Frag} {H:Hp}:∀ {xs:List V} {ds:List PyData},Dats K H xs ds → xs.length = ds.length
  | _,_,.nil => rfl
  | _,_,.cons _ r => by rw [List.length_cons,List.length_cons,dats_len r]
theorem dats_same {K:PySem.W.Frag} {H H':Hp} (s:Same H H'):∀ {xs:List V} {ds:List PyData},Dats K H xs ds → Dats K H' xs ds
  | _,_,.nil => .nil
  | _,_,.cons h r => .cons (h.same s) (dats_same s r)
section
variable {P:Program} {w:World} {K:PySem.W.Frag} {mg:Str → Option Value} {base:Heap}
section
variable {f:Addr} {cdv:Value} {A:Around} {outer:List Env} {s:Shared} {H:Hp} {E:XK}
theorem be_C (mi:mg "isinstance" = none) (mt:mg "tuple" = none) (hr:Room 1 (A.deeper (PyProof.Rows.envOfC "_law_behind" (defScope sBehind) s.heap.objs.size f cdv))) :
    ∃ t,PT (cxOf CX0 P w K mg base beN "_law_behind" (defScope sBehind) f cdv A outer s H E).nox (ifC beI) t ∧
      (∀ (B:Hp) (x0 x1 x2 x3 x4:Option V) (a:Addr) (xs:List V) (ds:List PyData) (Q:Bool → Hp → Prop),SqT K B a xs → Dats K B xs ds → Gdn 60 (.tuple (ds.take 2)) → (∀ B',Same B B' → Q (PyData.eqv (.tuple (ds.take 2)) nmD) B') → t [x0,x1,x2,x3,x4,some (.ref a)] B Q) ∧
      (∀ (B:Hp) (x0 x1 x2 x3 x4:Option V) (z:Str) (Q:Bool → Hp → Prop),Q false B → t [x0,x1,x2,x3,x4,some (.str z)] B Q) ∧
      (∀ (B:Hp) (x0 x1 x2 x3 x4:Option V) (i:Int) (Q:Bool → Hp → Prop),Q false B → t [x0,x1,x2,x3,x4,some (.int i)] B Q):=by
  have hu64:=hr.units
  refine ⟨_,PW.pt (pw_and (pt_val (pe_callB call_isiTA rfl mi bootIsi (pa_cons (pv 5) (pa_cons (pe_bltn rfl mt bootTuple (v:=.ty "tuple") rfl) pa_nil)))) (pw_and1 (pt_cmpR (op_eqD hu64) (pe_slice sl_tupA (pv 5) po_none (po_some pe_int)) (pe_tup (pa_cons pe_str (pa_cons pe_str pa_nil))) (nomark _)))),?_,?_,?_⟩
  · intro B x0 x1 x2 x3 x4 a xs ds Q ha hd gd q
    refine ⟨_,rfl,_,rfl,.inr (.inr ⟨a,xs,rfl,ha,_,rfl,ite2 (fun _ => ?_) (fun c => absurd rfl c)⟩)⟩
    have hl:=dats_len hd
    refine ⟨_,rfl,_,rfl,a,xs,rfl,ha,fun hw => ?_,fun hw p hp => ?_⟩
    · have h2:min 2 xs.length = xs.length:=by
        have:=hw.2
        rw [show (some (2:Int)) = some ((2:Nat):Int) from rfl,HT.sIx_nat] at this
        exact this
      have et:ds.take 2 = ds:=List.take_of_length_le (by omega)
      rw [et] at gd q
      refine ⟨(by show 2 ≤ sizeLine; decide),fun c hc => ?_⟩
      have sc:=same_new hc (.tup [.str "name",.str ""])
      exact ⟨_,nmD,.tup (sc.tup ha) (dats_same sc hd),.tup (SqT.of upd_same) (.cons (.str _) (.cons (.str _) .nil)),gd.shaped (by decide),sh_nm,_,rfl,q _ sc⟩
    · have h2:2 ≤ xs.length:=by
        rcases Nat.lt_or_ge xs.length 2 with h | h
        · refine absurd ⟨rfl,?_⟩ hw
          rw [show (some (2:Int)) = some ((2:Nat):Int) from rfl,HT.sIx_nat]
          omega
        · exact h
      have ec:cutV xs none (some 2) = xs.take 2:=cut_to (n:=2) h2
      rw [ec]
      have sp:=same_new hp (.tup (xs.take 2))
      refine ⟨(by show 2 ≤ sizeLine; decide),fun c hc => ?_⟩
      have sc:=same_new hc (.tup [.str "name",.str ""])
      exact ⟨_,nmD,.tup (sc.tup (SqT.of upd_same)) (dats_take 2 (dats_same (sp.trans sc) hd)),.tup (SqT.of upd_same) (.cons (.str _) (.cons (.str _) .nil)),gd.shaped (by decide),sh_nm,_,rfl,q _ (sp.trans sc)⟩
  · intro B x0 x1 x2 x3 x4 z Q q
    exact ⟨_,rfl,_,rfl,.inl ⟨z,rfl,_,rfl,ite2 (fun c => absurd c (by decide)) (fun _ => q)⟩⟩
  · intro B x0 x1 x2 x3 x4 i Q q
    exact ⟨_,rfl,_,rfl,.inr (.inl ⟨i,rfl,_,rfl,ite2 (fun c => absurd c (by decide)) (fun _ => q)⟩)⟩
end
set_option maxHeartbeats 0 in
theorem ok_behind {f:Addr} {fd:FuncData} (F:Fun K "_law_behind" "_law_behind" sBehind f fd) (mi:mg "isinstance" = none) (mt:mg "tuple" = none) (mli:mg "list" = none) (md:mg "dict" = none) (ml:mg "len" = none):FnOk P w K mg base CX0 2 f fd beP (spBehind K):=by
  refine F.ok scBehind (fun vs H Q E h => ?_) (fun cdv A outer s H vs Q E hr h => ?_)
  · obtain ⟨y,t,it,rs,rfl,_⟩:=h
    rfl
  obtain ⟨y,t,it,rs,rfl,hat,ib,hdu,hrl,q⟩:=h
  have hu64:=hr.units
  obtain ⟨tE,dE,kE1,kE2,kE3⟩:=be_E (P:=P) (w:=w) (K:=K) (base:=base) (outer:=outer) (H:=H) (E:=E) (A:=A) (s:=s) (f:=f) (cdv:=cdv) mi mt
  obtain ⟨tT,dT,kT⟩:=be_T (P:=P) (w:=w) (K:=K) (mg:=mg) (base:=base) (outer:=outer) (H:=H) (E:=E) hr
  obtain ⟨tC,dC,kC1,kC2,kC3⟩:=be_C (P:=P) (w:=w) (K:=K) (base:=base) (outer:=outer) (H:=H) (E:=E) mi mt hr
  refine ⟨_,pss_cons (ps_set (i:=2) scBehind.nd rfl (Or.inl rfl) (pe_callTy (call_dict_pairsK rfl (Nat.lt_of_le_of_lt (Nat.add_le_add_left (by decide) _) hu64)) rfl md bootDict (pa_cons (pe_ix ix_tup (pv 1) pe_int (fun _ _ => rfl)) pa_nil)))
    (pss_cons (ps_set (i:=3) scBehind.nd rfl (Or.inl rfl) (pe_lst pa_nil))
    (pss_cons (ps_set (i:=4) scBehind.nd rfl (Or.inl rfl) (pe_callTy call_list_of rfl mli bootList (pa_cons (pe_slice sl_tup (pv 0) (po_some pe_int) po_none) pa_nil)))
    (pss_cons (ps_while PassesOwn.never (pt_cmpR op_gt (pe_callB call_len_seq rfl ml PySem.boot_len (pa_cons (pv 4) pa_nil)) pe_int (nomark _))
      (pss_cons (ps_set (i:=5) scBehind.nd rfl (Or.inl rfl) (pe_bm0 PySem.F.plainAttrs_list PySem.F.slot_list_pop PySem.F.type_list_pop mt_pop (pv 4)))
      (pss_one (ps_if dC dT dE))))
    (pss_one (ps_ret (pv 3)))))),?_⟩
  obtain ⟨a,b,as,bs,kvs,fvs,h1,h2,h3,h4,h5,h6,h7⟩:=hdu
  have hkl:kvs.length = rs.1.length:=Paired.length h6
  refine ⟨_,rfl,_,_,_,_,rfl,rfl,h1,(show atI [V.ref a,.ref b] 0 = some (.ref a) from rfl),a,as,kvs,rfl,h2,h4,Nat.lt_of_lt_of_le (Nat.lt_succ_self _) (small (by omega)),fun dk hdk => ?_⟩
  have s1:=same_new hdk (.dK (putsK [] kvs))
  refine ⟨(by show 0 ≤ sizeLine; decide),fun lf hlf => ?_⟩
  have s2:=same_new hlf (.lst [])
  have s12:=s1.trans s2
  have hdk2:upd (upd H dk (.dK (putsK [] kvs))) lf (.lst []) dk = some (.dK (putsK [] kvs)):=s2 _ _ upd_same
  have hlf2:upd (upd H dk (.dK (putsK [] kvs))) lf (.lst []) lf = some (.lst []):=upd_same
  have hlf0:H lf = none:=s1.free hlf
  generalize upd (upd H dk (.dK (putsK [] kvs))) lf (.lst []) = B2 at s2 s12 hdk2 hlf2 ⊢
  have hat2:=hat.same s12
  obtain ⟨p0,vs0,ns0,rfl,hp0,hv0,hn0,hl0⟩:∃ (p0:Addr) (vs0:List V) (ns0:List Nat),y = .ref p0 ∧ SqT K B2 p0 vs0 ∧ Paired (BE K B2) (cutV vs0 (some 2) none) ns0 ∧ ns0.sum ≤ 150 ∧ 2 ≤ vs0.length:=by
    have i5:=ib.n
    cases it with
    | hid w => obtain ⟨p0,e,h⟩:=hat2; exact ⟨p0,_,[],e,h,.nil,Nat.zero_le _,Nat.le_refl _⟩
    | told w k =>
      obtain ⟨p0,x,e,h,hx⟩:=hat2
      have kb:=ib.k k (.head _)
      refine ⟨p0,_,[mz k],e,h,.cons (.kd hx kb) .nil,?_,by show 2 ≤ 3; decide⟩
      have:=mz_le k
      have:=kb.2
      show mz k + 0 ≤ 150
      omega
    | fn w as' r =>
      obtain ⟨p0,ta,x,xs,e,h,ht,hks,hx⟩:=hat2
      have kb:=ib.k r (List.mem_append_right _ (List.mem_singleton.mpr rfl))
      have ka:∀ k ∈ as',KB k:=fun k hk => ib.k k (List.mem_append_left _ hk)
      refine ⟨p0,_,[1 + (as'.map mz).sum,mz r],e,h,.cons (.kds ht hks ka) (.cons (.kd hx kb) .nil),?_,by show 2 ≤ 4; decide⟩
      have h1:=mz_le r
      have h2:=kb.2
      have h3:=sum_mz ka
      have h4:(as' ++ [r]).length ≤ 5:=i5
      rw [List.length_append] at h4
      simp only [List.length_singleton] at h4
      show 1 + (as'.map mz).sum + (mz r + 0) ≤ 150
      omega
  refine ⟨_,rfl,_,rfl,p0,vs0,rfl,hp0,?_,fun c hc => ?_⟩
  · rintro ⟨z,_⟩
    rw [show (some (2:Int)) = some ((2:Nat):Int) from rfl,HT.sIx_nat] at z
    omega
  have s3:=same_new hc (.tup (cutV vs0 (some 2) none))
  refine ⟨c,_,rfl,.inr (SqT.of upd_same),fun ll hll => ?_⟩
  have s4:=same_new hll (.lst (cutV vs0 (some 2) none))
  have s34:=s3.trans s4
  have s04:=s12.trans s34
  have hll0:H ll = none:=(s12.trans s3).free hll
  have nfl:lf ≠ ll:=fun z => by rw [← z,s3 _ _ hlf2] at hll; cases hll
  refine while_rel (fun m σ H2 => ∃ (us vs:List V) (zs:List Str) (ns:List Nat) (x5:Option V),σ = [some (.ref p0),some (.ref t),some (.ref dk),some (.ref lf),some (.ref ll),x5] ∧ m = ns.sum ∧ Same H H2 ∧ H2 dk = some (.dK (putsK [] kvs)) ∧ H2 lf = some (.lst us) ∧ H2 ll = some (.lst vs) ∧ Paired (HidAt K H2) us zs ∧ Paired (BE K H2) vs ns ∧ us.length + ns.sum ≤ 150) ns0.sum
    ⟨[],_,[],ns0,none,rfl,rfl,s04,s34 _ _ hdk2,s34 _ _ hlf2,upd_same,.nil,Paired.mapP hv0 fun _ _ h => h.keep fun _ _ u => s34.tup u,by simpa using hn0⟩ ?_ ?_
  · rintro m σ H2 ⟨us,vs,zs,ns,x5,rfl,rfl,sH,hd2,hf2,hl2,hus,hvs,hb⟩
    have hbl:=be_len hvs
    refine ⟨_,rfl,ll,_,rfl,.inl (SqL.of hl2),_,_,rfl,rfl,_,rfl,ite2 (fun c => ?_) (fun c => ?_)⟩
    · have c':(0:Int) < (vs.length:Int):=of_decide_eq_true c
      have hne:vs ≠ []:=fun e => by rw [e] at c'; exact absurd c' (by decide)
      obtain ⟨ws,v,rfl⟩:∃ ws v,vs = ws ++ [v]:=⟨_,_,(List.dropLast_concat_getLast hne).symm⟩
      obtain ⟨ms,n,rfl,hms,hn⟩:=paired_last hvs
      rw [List.sum_append,List.sum_singleton] at hb
      have hnp:=hn.pos
      have hwl:=be_len hms
      refine ⟨_,rfl,.inl ⟨rfl,_,SqL.of hl2⟩,ll,_,v,rfl,rfl,hl2,snoc_get,?_⟩
      rw [List.dropLast_concat]
      have kp:∀ a xs,SqT K H2 a xs → SqT K (upd H2 ll (.lst ws)) a xs:=fun a xs u => sqt_upd hl2 u
      have sH3:Same H (upd H2 ll (.lst ws)):=sput sH hll0
      have hd3:upd H2 ll (.lst ws) dk = some (.dK (putsK [] kvs)):=by rw [upd_ne (fun z => by rw [z,hl2] at hd2; cases hd2)]; exact hd2
      have hf3:upd H2 ll (.lst ws) lf = some (.lst us):=by rw [upd_ne nfl]; exact hf2
      have hl3:upd H2 ll (.lst ws) ll = some (.lst ws):=upd_same
      have hus3:Paired (HidAt K (upd H2 ll (.lst ws))) us zs:=Paired.mapP hus fun _ _ ⟨⟨p',e,h⟩,h2⟩ => ⟨⟨p',e,kp _ _ h⟩,h2⟩
      have hms3:Paired (BE K (upd H2 ll (.lst ws))) ws ms:=Paired.mapP hms fun _ _ h => h.keep kp
      replace hn:=hn.keep kp
      generalize upd H2 ll (.lst ws) = H3 at kp sH3 hd3 hf3 hl3 hus3 hms3 hn ⊢
      have nxt:∀ (B:Hp) (us' vs':List V) (zs':List Str) (ns':List Nat) (x5:Option V),Same H B → B dk = some (.dK (putsK [] kvs)) → B lf = some (.lst us') → B ll = some (.lst vs') → Paired (HidAt K B) us' zs' → Paired (BE K B) vs' ns' → us'.length + ns'.sum ≤ 150 → ns'.sum < (ms ++ [n]).sum →
          ∃ m',m' < (ms ++ [n]).sum ∧ ∃ (us vs:List V) (zs:List Str) (ns:List Nat) (y5:Option V),[some (.ref p0),some (.ref t),some (.ref dk),some (.ref lf),some (.ref ll),x5] = [some (.ref p0),some (.ref t),some (.ref dk),some (.ref lf),some (.ref ll),y5] ∧ m' = ns.sum ∧ Same H B ∧ B dk = some (.dK (putsK [] kvs)) ∧ B lf = some (.lst us) ∧ B ll = some (.lst vs) ∧ Paired (HidAt K B) us zs ∧ Paired (BE K B) vs ns ∧ us.length + ns.sum ≤ 150 :=
        fun B us' vs' zs' ns' x5 a1 a2 a3 a4 a5 a6 a7 a8 => ⟨ns'.sum,a8,us',vs',zs',ns',x5,rfl,rfl,a1,a2,a3,a4,a5,a6,a7⟩
      have lt0:ms.sum < (ms ++ [n]).sum:=by rw [List.sum_append,List.sum_singleton]; omega
      have extN:∀ (B:Hp) (xs:List V) (ks:List Nat) (x5:Option V),Same H3 B → Paired (BE K B) xs ks → ks.sum < n → _:=fun B xs ks x5 sB hxs hlt => nxt (upd B ll (.lst (ws ++ xs))) us (ws ++ xs) zs (ms ++ ks) x5 (sput (sH3.trans sB) hll0) (by rw [upd_ne (fun z => by rw [z,hl3] at hd3; cases hd3)]; exact sB _ _ hd3) (by rw [upd_ne nfl]; exact sB _ _ hf3) upd_same
        (Paired.mapP hus3 fun _ _ ⟨⟨p',e,h⟩,h2⟩ => ⟨⟨p',e,sqt_upd (sB _ _ hl3) (sB.tup h)⟩,h2⟩) (paired_app (Paired.mapP hms3 fun _ _ h => h.keep fun _ _ u => sqt_upd (sB _ _ hl3) (sB.tup u)) (Paired.mapP hxs fun _ _ h => h.keep fun _ _ u => sqt_upd (sB _ _ hl3) u)) (by rw [List.sum_append]; omega) (by rw [List.sum_append,List.sum_append,List.sum_singleton]; omega)
      have lenX:∀ (B:Hp) (xs:List V) (ks:List Nat),Paired (BE K B) xs ks → ks.sum < n → ws.length + xs.length ≤ 1000:=fun B xs ks hxs hlt => by
        have:=be_len hxs
        omega
      cases hn with
      | str z => exact kC2 _ _ _ _ _ _ z _ (ite2 (fun c => absurd c (by decide)) (fun _ => kE2 _ _ _ _ _ _ _ z (nxt _ us ws zs ms _ sH3 hd3 hf3 hl3 hus3 hms3 (by omega) lt0)))
      | int i => exact kC3 _ _ _ _ _ _ i _ (ite2 (fun c => absurd c (by decide)) (fun _ => kE3 _ _ _ _ _ _ _ i (nxt _ us ws zs ms _ sH3 hd3 hf3 hl3 hus3 hms3 (by omega) lt0)))
      | @kd _ k hk kb =>
        cases hk with
        | @num p m u =>
          refine kC1 _ _ _ _ _ _ p _ [.str "num",.int m] _ u (.cons (.str _) (.cons (.int _) .nil)) ?_ fun B' sB => ite2 (fun c => ?_) (fun _ => ?_)
          · refine (gdn_tup (n:=59) fun d hd => ?_)
            rcases List.mem_cons.mp hd with rfl | hd
            · exact gdn_str (by decide +kernel)
            · rw [List.mem_singleton.mp hd]
              exact gdn_int m
          · rw [show ([PyData.str "num",.int m].take 2) = [PyData.str "num",.int m] from rfl,eqv_tup,eqvA_cons,eqv_str,decide_eq_false (by decide +kernel)] at c
            cases c
          · have hx:Paired (BE K B') [V.str "num",.int m] [1,1]:=.cons (.str _) (.cons (.int _) .nil)
            exact kE1 _ _ _ _ _ _ ll p ws _ (sB.tup u) (sB _ _ hl3) (lenX _ _ _ hx (by show 2 < 3; decide)) (extN _ _ _ _ sB hx (by show 2 < 3; decide))
        | @name p q' z u =>
          have sm2:smW q' ∧ smW z:=kb.1
          refine kC1 _ _ _ _ _ _ p _ [.str "name",.str q',.str z] _ u (.cons (.str _) (.cons (.str _) (.cons (.str _) .nil))) ?_ fun B' sB => ite2 (fun c => ?_) (fun _ => ?_)
          · refine (gdn_tup (n:=59) fun d hd => ?_)
            rcases List.mem_cons.mp hd with rfl | hd
            · exact gdn_str (by decide +kernel)
            · rw [List.mem_singleton.mp hd]
              exact gdn_str sm2.1.1
          · have husB:Paired (HidAt K B') us zs:=Paired.mapP hus3 fun _ _ ⟨⟨p',e,h⟩,h2⟩ => ⟨⟨p',e,sB.tup h⟩,h2⟩
            have sHB:=sH3.trans sB
            refine kT _ _ _ dk lf ll p (.ref p0) it q' z _ us zs (hat.same sHB) (sB.tup u) sm2.2 (sB _ _ hd3) (sB _ _ hf3) husB (by omega) (fun B4 s4 => ?_) (fun B4 p4 s4 h4 => ?_)
            · exact nxt _ us ws zs ms _ (sHB.trans s4) (s4 _ _ (sB _ _ hd3)) (s4 _ _ (sB _ _ hf3)) (s4 _ _ (sB _ _ hl3)) (Paired.mapP husB fun _ _ ⟨⟨p',e,h⟩,h2⟩ => ⟨⟨p',e,s4.tup h⟩,h2⟩) (Paired.mapP hms3 fun _ _ h => h.keep fun _ _ u => (sB.trans s4).tup u) (by omega) lt0
            · have hf4:=s4 _ _ (sB _ _ hf3)
              have kp4:∀ a ys,SqT K B4 a ys → SqT K (upd B4 lf (.lst (us ++ [.ref p4]))) a ys:=fun a ys u => sqt_upd hf4 u
              refine nxt _ (us ++ [.ref p4]) ws (zs ++ [z]) ms _ (sput (sHB.trans s4) hlf0) (by rw [upd_ne (fun z => by rw [z,hf3] at hd3; cases hd3)]; exact s4 _ _ (sB _ _ hd3)) upd_same (by rw [upd_ne (Ne.symm nfl)]; exact s4 _ _ (sB _ _ hl3)) (paired_snoc (Paired.mapP husB fun _ _ ⟨⟨p',e,h⟩,h2⟩ => ⟨⟨p',e,kp4 _ _ (s4.tup h)⟩,h2⟩) ⟨⟨p4,rfl,kp4 _ _ h4⟩,sm2.2⟩) (Paired.mapP hms3 fun _ _ h => h.keep fun _ _ u => kp4 _ _ ((sB.trans s4).tup u)) ?_ lt0
              rw [List.length_append]
              simp only [List.length_singleton]
              omega
          · have hx:Paired (BE K B') [V.str "name",.str q',.str z] [1,1,1]:=.cons (.str _) (.cons (.str _) (.cons (.str _) .nil))
            exact kE1 _ _ _ _ _ _ ll p ws _ (sB.tup u) (sB _ _ hl3) (lenX _ _ _ hx (by show 3 < 4; decide)) (extN _ _ _ _ sB hx (by show 3 < 4; decide))
        | @pair p y' z' a b u ha hbb =>
          have sm2:Kd.sm a ∧ Kd.sm b:=kb.1
          have wb:1 + a.words + b.words ≤ 5:=kb.2
          have dwa:=depth_words a
          refine kC1 _ _ _ _ _ _ p _ [.str "pair",Kd.dat a,Kd.dat b] _ u (.cons (.str _) (.cons (kd_dat ha) (.cons (kd_dat hbb) .nil))) ?_ fun B' sB => ite2 (fun c => ?_) (fun _ => ?_)
          · refine (gdn_tup (n:=59) fun d hd => ?_)
            rcases List.mem_cons.mp hd with rfl | hd
            · exact gdn_str (by decide +kernel)
            · rw [List.mem_singleton.mp hd]
              exact gdn_kd sm2.1 (by omega)
          · rw [show ([PyData.str "pair",Kd.dat a,Kd.dat b].take 2) = [PyData.str "pair",Kd.dat a] from rfl,eqv_tup,eqvA_cons,eqv_str,decide_eq_false (by decide +kernel)] at c
            cases c
          · have hx:Paired (BE K B') [V.str "pair",y',z'] [1,mz a,mz b]:=.cons (.str _) (.cons (.kd (ha.same sB) ⟨sm2.1,by omega⟩) (.cons (.kd (hbb.same sB) ⟨sm2.2,by omega⟩) .nil))
            have hlt:([1,mz a,mz b]:List Nat).sum < mz (.pair a b):=by
              show 1 + (mz a + (mz b + 0)) < 2 + mz a + mz b
              omega
            exact kE1 _ _ _ _ _ _ ll p ws _ (sB.tup u) (sB _ _ hl3) (lenX _ _ _ hx hlt) (extN _ _ _ _ sB hx hlt)
      | @kds ta xs ks u hks hkb =>
        refine kC1 _ _ _ _ _ _ ta _ (ks.map Kd.dat) _ u (kds_dat hks) ?_ fun B' sB => ite2 (fun c => ?_) (fun _ => ?_)
        · refine (gdn_tup (n:=59) fun d hd => ?_)
          obtain ⟨k,hk,rfl⟩:=List.mem_map.mp (List.mem_of_mem_take hd)
          have h1:=hkb k hk
          have h2:=depth_words k
          have h3:=h1.2
          exact gdn_kd h1.1 (by omega)
        · rw [eqv_take] at c
          cases c
        · have hx:Paired (BE K B') xs (ks.map mz):=be_kds (hks.same sB) hkb
          have hlt:(ks.map mz).sum < 1 + (ks.map mz).sum:=by omega
          exact kE1 _ _ _ _ _ _ ll ta ws _ (sB.tup u) (sB _ _ hl3) (lenX _ _ _ hx hlt) (extN _ _ _ _ sB hx hlt)
    · have c':¬ (0:Int) < (vs.length:Int):=of_decide_eq_false (Bool.eq_false_iff.mpr c)
      exact ⟨_,rfl,q _ lf us sH hf2 (by omega)⟩
  · rintro σ H2 Q1 Q2 hq ⟨v,e1,a,xs,e2,hs,i,j,e3,e4,b,e5,h⟩
    exact ⟨v,e1,a,xs,e2,hs,i,j,e3,e4,b,e5,hq _ _ h⟩
end
end K24
namespace K24
open PySem L2 Kk
noncomputable def spSaid (K:PySem.W.Frag) (CF:Addr):Sp:=fun vs H Q _ => ∃ (l g:Addr) (xs:List V) (its:List It) (pkv:List (Key × V)) (PG:PGt),vs = [.ref l,.ref g] ∧ SqT K H l xs ∧ its.length ≤ 90 ∧ Paired (ItAt K H) (xs.take its.length) its ∧ (∀ it ∈ its,IB it) ∧ OkUp PG its ∧ H g = some (.dK pkv) ∧ PartsAt K H CF pkv PG ∧ PB PG ∧
  ((xs.length = its.length ∧ ∀ H' (t:Addr),Same H H' → DueT K H' t (stA PG its) → Q (.ref t) H') ∨
   ∃ v it,xs[its.length]? = some v ∧ ItAt K H v it ∧ IB it ∧ wrong PG (stA PG its) it ≠ [] ∧ ∀ H' e,Same H H' → e ∈ wrong PG (stA PG its) it → Q (.str e) H')
noncomputable def tryHs:List Stmt → List ExceptHandler
  | .Try _ hs _ _ _ :: _ => hs
  | _ => []
theorem bootVE:bootBuiltins "ValueError" = some (.type "ValueError"):=by decide +kernel
noncomputable abbrev saN:List Str:=["_law_items","_law_parts","_law_found","e"]
noncomputable abbrev saP:List Str:=["_law_items","_law_parts"]
section
variable {P:Program} {w:World} {K:PySem.W.Frag} {mg:Str → Option Value} {base:Heap}
theorem scSaid:FnScope saN saP (defScope sSaid):=⟨rfl,rfl,rfl,by decide +kernel,rfl,by decide +kernel,by decide +kernel⟩
theorem isiK {X:Cx} {D:Addr} (c:ExcCls K D) (h:X.K = K):CallR X (.builtin "isinstance") (fun xs H Q => ∃ e d y u b,xs = [.ref e,y] ∧ RelV y u ∧ (∀ u',RelV y u' → u' = u) ∧ H e = some (.ext (excAt e (.ref D) d)) ∧ PySem.W.kitOne K (.ref D) u = some b ∧ Q (.bl b) H):=by
  subst h
  exact call_isiX c
set_option maxHeartbeats 0 in
theorem ok_said {f fr CF CW CN CT CR:Addr} {fd fdr:FuncData} (F:Fun K "_law_said" "_law_said" sSaid f fd)
    (GR:FnOk P w K mg base (CX1 P w) 42 fr fdr foP (spFaceOf K CF CW CN CT)) (bR:Binds K fdr foP []) (kR:PySem.W.keepIn K (.ref fr) = true) (mRf:mg "face_of" = some (.ref fr))
    (mW:mg "Twice" = some (.ref CW)) (mC:mg "NoKind" = some (.ref CN)) (mT:mg "TooBig" = some (.ref CT)) (mR:mg "Refused" = some (.ref CR)) (mF:mg "Face" = some (.ref CF)) (mV:mg "ValueError" = none) (mi:mg "isinstance" = none) (mI:mg "int" = none) (mL:mg "list" = none)
    (cW:ExcCls K CW) (cN:ExcCls K CN) (cT:ExcCls K CT) (cF:Cls K CF) (nK:NoAttr K CF "kinds") (nF:NoAttr K CF "funs")
    (x1:PySem.W.exmOne K (.ref CW) (.ref CW) = some true) (x2:PySem.W.exmOne K (.ref CN) (.ref CW) = some false) (x3:PySem.W.exmOne K (.ref CN) (.ref CN) = some true) (x4:PySem.W.exmOne K (.ref CT) (.ref CW) = some false) (x5:PySem.W.exmOne K (.ref CT) (.ref CN) = some false) (x6:PySem.W.exmOne K (.ref CT) (.ref CT) = some true)
    (k1:PySem.W.kitOne K (.ref CW) (.ref CR) = some true) (k2:PySem.W.kitOne K (.ref CN) (.type "ValueError") = some true) (k3:PySem.W.kitOne K (.ref CT) (.ref CR) = some true) (k5:PySem.W.kitOne K (.ref CF) (.ref CF) = some true)
    (c1:PySem.W.findIn K (.ref CF) "__class__" = some (some (.builtin "object.__class__"))) (c2:PySem.W.specialIn K (.builtin "object.__class__") "__get__" = some (some (.builtin "getset_descriptor.__get__"))) (c3:PySem.W.takesIn K (.builtin "object.__class__") = some true) (c4:PySem.W.mroIn K CF (.type "object") = some true) :
    FnOk P w K mg base CX0 43 f fd saP (spSaid K CF):=by
  refine F.ok scSaid (fun vs H Q E h => ?_) (fun cdv A outer s H vs Q E hr h => ?_)
  · obtain ⟨l,g,xs,its,pkv,PG,rfl,_⟩:=h
    rfl
  obtain ⟨l,g,xs,its,pkv,PG,rfl,hl,h90,hits,hib,hok,hg,hP,pb,q⟩:=h
  obtain ⟨th,hh,hW,hN,hT⟩:∃ th,PH (cxOf CX0 P w K mg base saN "_law_said" (defScope sSaid) f cdv A outer s H E).nox (tryHs (defBody sSaid)) th ∧
      (∀ D e H' x2 x3,H' e = none → (∀ H2,Same H' H2 → D.rt (.str "twice") H2) → th D (.ref CW) none e [some (.ref l),some (.ref g),x2,x3] H') ∧
      (∀ D e H' x2 x3,H' e = none → (∀ H2,Same H' H2 → D.rt (.str "no") H2) → th D (.ref CN) none e [some (.ref l),some (.ref g),x2,x3] H') ∧
      (∀ D e H' x2 x3,H' e = none → (∀ H2,Same H' H2 → D.rt (.str "big") H2) → th D (.ref CT) none e [some (.ref l),some (.ref g),x2,x3] H'):=by
    refine ⟨_,ph_as (i:=3) rfl scSaid.nd rfl rfl rfl mW
      (fun e => pss_one (ps_ret (pe_ix (ixLK (K:=K) rfl) (pe_lst (pa_cons pe_str (pa_cons pe_str pa_nil))) (pe_callTy call_int1 rfl mI bootInt (pa_cons (pe_callB (isiK cW rfl) rfl mi bootIsi (pa_cons (pv 3) (pa_cons (pe_glob rfl mR (v:=.ref CR) rfl) pa_nil))) pa_nil)) (fun _ _ => rfl))))
      (ph_as (i:=3) rfl scSaid.nd rfl rfl rfl mC
        (fun e => pss_one (ps_ret (pe_ix (ixLK (K:=K) rfl) (pe_lst (pa_cons pe_str (pa_cons pe_str pa_nil))) (pe_callTy call_int1 rfl mI bootInt (pa_cons (pe_callB (isiK cN rfl) rfl mi bootIsi (pa_cons (pv 3) (pa_cons (pe_bltn rfl mV bootVE (v:=.ty "ValueError") rfl) pa_nil))) pa_nil)) (fun _ _ => rfl))))
      (ph_as (i:=3) rfl scSaid.nd rfl rfl rfl mT
        (fun e => pss_one (ps_ret (pe_ix (ixLK (K:=K) rfl) (pe_lst (pa_cons pe_str (pa_cons pe_str pa_nil))) (pe_callTy call_int1 rfl mI bootInt (pa_cons (pe_callB (isiK cT rfl) rfl mi bootIsi (pa_cons (pv 3) (pa_cons (pe_glob rfl mR (v:=.ref CR) rfl) pa_nil))) pa_nil)) (fun _ _ => rfl)))) ph_nil)),?_,?_,?_⟩
    · intro D e H' y2 y3 he q
      refine ⟨true,x1,iteT ?_⟩
      have se:=same_new he (.ext (excAt e (.ref CW) none))
      refine ⟨(by show 2 ≤ sizeLine; decide),fun l hl => ?_⟩
      have sl:=same_new hl (.lst [.str "wrong",.str "twice"])
      refine ⟨_,rfl,e,none,_,_,true,rfl,rfl,(fun _ z => z),sl _ _ upd_same,k1,.inr ⟨true,rfl,?_⟩⟩
      exact ⟨l,_,_,_,rfl,rfl,SqL.of upd_same,(show atI [V.str "wrong",.str "twice"] 1 = some (.str "twice") from rfl),q _ (se.trans sl)⟩
    · intro D e H' y2 y3 he q
      refine ⟨false,x2,iteF ⟨true,x3,iteT ?_⟩⟩
      have se:=same_new he (.ext (excAt e (.ref CN) none))
      refine ⟨(by show 2 ≤ sizeLine; decide),fun l hl => ?_⟩
      have sl:=same_new hl (.lst [.str "wrong",.str "no"])
      refine ⟨_,rfl,e,none,_,_,true,rfl,rfl,(fun _ z => z),sl _ _ upd_same,k2,.inr ⟨true,rfl,?_⟩⟩
      exact ⟨l,_,_,_,rfl,rfl,SqL.of upd_same,(show atI [V.str "wrong",.str "no"] 1 = some (.str "no") from rfl),q _ (se.trans sl)⟩
    · intro D e H' y2 y3 he q
      refine ⟨false,x4,iteF ⟨false,x5,iteF ⟨true,x6,iteT ?_⟩⟩⟩
      have se:=same_new he (.ext (excAt e (.ref CT) none))
      refine ⟨(by show 2 ≤ sizeLine; decide),fun l hl => ?_⟩
      have sl:=same_new hl (.lst [.str "wrong",.str "big"])
      refine ⟨_,rfl,e,none,_,_,true,rfl,rfl,(fun _ z => z),sl _ _ upd_same,k3,.inr ⟨true,rfl,?_⟩⟩
      exact ⟨l,_,_,_,rfl,rfl,SqL.of upd_same,(show atI [V.str "wrong",.str "big"] 1 = some (.str "big") from rfl),q _ (se.trans sl)⟩
  refine ⟨_,pss_cons (ps_try fun pins D => pss_one (ps_set (i:=2) scSaid.nd rfl (Or.inl rfl) (pe_callE GR hr (by rfl) mRf kR bR .nil (passT rfl rfl hh) (pa_cons (pv 0) (pa_cons (pv 1) pa_nil)))))
    (pss_cons (ps_if (pt_not (pt_val (pe_callB call_isiT rfl mi bootIsi (pa_cons (pv 2) (pa_cons (pe_glob rfl mF (v:=.ref CF) rfl) pa_nil))))) (pss_one (ps_ret pe_str)) pss_nil)
    (pss_one (ps_ret (pe_tup (pa_cons (pe_callTy (call_list_items rfl) (by rfl) mL bootList (pa_cons (pe_bm0 PySem.F.plainAttrs_dict PySem.F.slot_dict_items PySem.F.type_dict_items mt_items (pe_fld (pv 2) rfl)) pa_nil))
      (pa_cons (pe_callTy (call_list_items rfl) (by rfl) mL bootList (pa_cons (pe_bm0 PySem.F.plainAttrs_dict PySem.F.slot_dict_items PySem.F.type_dict_items mt_items (pe_fld (pv 2) rfl)) pa_nil)) pa_nil)))))),?_⟩
  refine ⟨_,rfl,_,rfl,l,g,xs,its,pkv,PG,rfl,hl,by omega,hits,hib,hok,hg,hP,pb,?_⟩
  rcases q with ⟨hlen,q⟩ | ⟨v,it,hv,hat,ib,hw,q⟩
  · refine .inl ⟨hlen,fun H1 x s1 nx hN1 => ?_⟩
    obtain ⟨dx,d1,d2,fs,kv1,kv2,z1,z2,z3,hfx,l1,l2,hd1,hd2,hk1,hk2,_,_⟩:=hN1
    refine ⟨_,rfl,_,_,_,.ref CF,true,rfl,(fun _ z => z),.ins hfx cF c1 c2 c3 c4,k5,_,rfl,iteF ?_⟩
    refine ⟨_,rfl,x,CF,dx,fs,_,rfl,hfx,cF,nK,l1,.inr (.inr (.inl ⟨rfl,.inl ⟨_,hd1⟩⟩)),d1,kv1,rfl,rfl,hd1,fun v1 hv1 => ?_⟩
    have sv1:=same_new hv1 (.ext (itemsAt v1 d1))
    refine ⟨v1,d1,kv1,rfl,upd_same,sv1 _ _ hd1,fun H2 as1 la s2 hl1 _ h2 pr1 => ?_⟩
    have S2:Same H1 H2:=sv1.trans s2
    refine ⟨_,rfl,x,CF,dx,fs,_,rfl,S2 _ _ hfx,cF,nF,l2,.inr (.inr (.inl ⟨rfl,.inl ⟨_,S2 _ _ hd2⟩⟩)),d2,kv2,rfl,rfl,S2 _ _ hd2,fun v5 hv5 => ?_⟩
    have sv5:=same_new hv5 (.ext (itemsAt v5 d2))
    refine ⟨v5,d2,kv2,rfl,upd_same,sv5 _ _ (S2 _ _ hd2),fun H6 bs lb s6 hl6 _ h6 pr6 => ⟨(by show 2 ≤ sizeLine; decide),fun t ht => ?_⟩⟩
    have S6:Same H2 H6:=sv5.trans s6
    have st:=same_new ht (.tup [.ref la,.ref lb])
    have sA:=S6.trans st
    have sB:=S2.trans sA
    exact q _ t (s1.trans sB) ⟨la,lb,as1,bs,kv1,kv2,SqT.of upd_same,sA _ _ h2,st _ _ h6,Paired.mapP pr1 fun _ _ y => sA _ _ y,Paired.mapP pr6 fun _ _ y => st _ _ y,hk1.imp fun _ _ y => y.same sB,hk2.imp fun _ _ y => y.keep fun _ _ u => sB.tup u⟩
  · refine .inr ⟨v,it,hv,hat,ib,hw,fun H1 e s1 he => ?_⟩
    have hq:∀ H2,Same H1 H2 → Q (.str e) H2:=fun H2 s2 => q H2 e (s1.trans s2) he
    rcases wrong_mem he with rfl | rfl | rfl
    · exact fun a ha => hW _ a H1 _ _ ha hq
    · exact fun a ha => hN _ a H1 _ _ ha hq
    · exact fun a ha => hT _ a H1 _ _ ha hq
end
end K24
namespace K24
open PySem L2 Kk
theorem paired_take {α β:Type} {R:α → β → Prop}:∀ {xs:List α} {ys:List β} (n:Nat),Paired R xs ys → Paired R (xs.take n) (ys.take n)
  | _,_,0,_ => by rw [List.take_zero,List.take_zero]; exact .nil
  | _,_,_ + 1,.nil => .nil
  | _,_,n + 1,.cons h r => .cons h (paired_take n r)
theorem call_isiLT {X:Cx}:CallR X (.builtin "isinstance") (fun xs H Q => ∃ x,xs = [x,.ty "tuple"] ∧ ((∃ a ys,x = .ref a ∧ SqT X.K H a ys ∧ Q (.bl true) H) ∨ ∃ a ys,x = .ref a ∧ H a = some (.lst ys) ∧ Q (.bl false) H)):=by
  intro pins s σ H xs us Q I rv h
  obtain ⟨x,rfl,h⟩:=h
  rcases h with ⟨a,ys,rfl,hq,q⟩ | ⟨a,ys,rfl,hq,q⟩
  · exact call_isiTup pins s σ H _ us Q I rv ⟨a,ys,rfl,hq,q⟩
  · obtain ⟨u,v,rfl,r1,r2⟩:=rv.two
    cases r2
    exact isinst_ok (t:=.type "list") (b:=false) I r1 (.lst hq) rfl fun tk => ⟨.bl false,H,I.tok _,rfl,q⟩
theorem dueD_gd {s:Rw} (h:NS s):Gdn 50 (dueD s):=by
  refine (gdn_tup (n:=49) fun d hd => ?_)
  rcases List.mem_cons.mp hd with rfl | hd
  · refine (gdn_lst (n:=42) fun d hd => ?_).mono (by decide)
    obtain ⟨q,hq,rfl⟩:=List.mem_map.mp hd
    obtain ⟨a,b,c⟩:=h.k q hq
    have dw:=depth_words q.2
    refine (gdn_tup (n:=41) fun d hd => ?_)
    rcases List.mem_cons.mp hd with rfl | hd
    · exact gdn_str a.1
    · rw [List.mem_singleton.mp hd]
      exact gdn_kd b (by omega)
  · rw [List.mem_singleton.mp hd]
    refine (gdn_lst (n:=43) fun d hd => ?_).mono (by decide)
    obtain ⟨q,hq,rfl⟩:=List.mem_map.mp hd
    obtain ⟨a,b,c⟩:=h.f q hq
    refine (gdn_tup (n:=42) fun d hd => ?_)
    rcases List.mem_cons.mp hd with rfl | hd
    · exact gdn_str a.1
    · rw [List.mem_singleton.mp hd]
      refine gdn_fn (n:=40) fun k hk => ⟨(c k hk).1,?_⟩
      have:=depth_words k
      have:=(c k hk).2
      omega
structure WL (K:PySem.W.Frag) (CF:Addr) (H:Hp) (z:Str) (kd aw il pp:Addr) (xs:List V) (its:List It) (PG:PGt):Prop where
  gk:∃ (gkv:List (List Key × V)) (G:Str × Str → Option Kd),H aw = some (.dT gkv) ∧ GvAt K H gkv G ∧ ∀ n:Str × Str,n.1 ≠ "" → G n = (PG n.1).bind fun g => g n.2
  pb:PB PG
  li:H il = some (.lst xs)
  it:Paired (ItAt K H) xs its
  ib:∀ it ∈ its,IB it
  ln:its.length ≤ 12
  fin:∃ (fa dx d1:Addr) (fs:List (Str × V)) (kkv:List (Key × V)),H pp = some (.dK [(.inr z,.ref fa)]) ∧ PartsAt K H CF [(.inr z,.ref fa)] PG ∧ H fa = some (.ins CF dx fs) ∧ fs.lookup ("kinds":Str) = some (.ref d1) ∧ H d1 = some (.dK kkv) ∧ H kd = some (.dK kkv) ∧ ∀ p ∈ kkv,∃ c,p.2 = .ref c
  sz:smW z
theorem WL.same {K:PySem.W.Frag} {CF:Addr} {H H':Hp} {z:Str} {kd aw il pp:Addr} {xs:List V} {its:List It} {PG:PGt} (W:WL K CF H z kd aw il pp xs its PG) (s:Same H H'):WL K CF H' z kd aw il pp xs its PG:=by
  obtain ⟨⟨gkv,G,a1,a2,a3⟩,pb,li,it,ib,ln,⟨fa,dx,d1,fs,kkv,b1,b2,b3,b4,b5,b6,b7⟩,sz⟩:=W
  exact ⟨⟨gkv,G,s _ _ a1,a2.same s,a3⟩,pb,s _ _ li,Paired.mapP it fun _ _ h => h.same s,ib,ln,⟨fa,dx,d1,fs,kkv,s _ _ b1,b2.same s,s _ _ b3,b4,s _ _ b5,s _ _ b6,b7⟩,sz⟩
section
variable {K:PySem.W.Frag} {CF:Addr} {B:Hp} {z:Str} {kd aw il pp l:Addr} {xs:List V} {its:List It} {PG:PGt} {n:Nat} {Q:VK} {E:XK}
theorem tk_ib (W:WL K CF B z kd aw il pp xs its PG) (m:Nat):∀ it ∈ its.take m,IB it:=fun it h => W.ib it (List.mem_of_mem_take h)
theorem tk_ln (W:WL K CF B z kd aw il pp xs its PG) (m:Nat):(its.take m).length ≤ 12:=Nat.le_trans (List.length_take_le' _ _) W.ln
theorem last_wrong {it it':It} {i:Nat} (hit:its[n]? = some it) (hok:OkUp PG (its.take n)) (hi:(its.take (n + 1))[i]? = some it') (hw:wrong PG (stA PG ((its.take (n + 1)).take i)) it' ≠ []):wrong PG (stA PG ((its.take (n + 1)).take i)) it' = wrong PG (stA PG (its.take n)) it:=by
  have hn:=(List.getElem?_eq_some_iff.mp hit).1
  have hi':=(List.getElem?_eq_some_iff.mp hi).1
  rw [List.length_take] at hi'
  rw [List.getElem?_take_of_lt (by omega)] at hi
  rw [List.take_take,Nat.min_eq_left (by omega)] at hw ⊢
  rcases Nat.lt_or_ge i n with hlt | hge
  · have:=hok i it' (by rw [List.getElem?_take_of_lt hlt]; exact hi)
    rw [List.take_take,Nat.min_eq_left (by omega)] at this
    exact absurd this hw
  · obtain rfl:i = n:=by omega
    rw [hit] at hi
    cases hi
    rfl
theorem last_ok {it:It} (hit:its[n]? = some it) (ok:OkUp PG (its.take (n + 1))):wrong PG (stA PG (its.take n)) it = []:=by
  have:=ok n it (by rw [List.getElem?_take_of_lt (by omega)]; exact hit)
  rw [List.take_take,Nat.min_eq_left (by omega)] at this
  exact this
theorem WL.due_ok (W:WL K CF B z kd aw il pp xs its PG) (hl:B l = some (.lst (xs.take n))):∃ (gkv:List (List Key × V)) (G:Str × Str → Option Kd),SqL K B l (xs.take n) ∧ (its.take n).length ≤ 90 ∧ Paired (ItAt K B) (xs.take n) (its.take n) ∧ (∀ it ∈ its.take n,IB it) ∧ B aw = some (.dT gkv) ∧ GvAt K B gkv G ∧ (∀ n:Str × Str,n.1 ≠ "" → G n = (PG n.1).bind fun g => g n.2) ∧ PB PG:=by
  obtain ⟨gkv,G,a1,a2,a3⟩:=W.gk
  have:=tk_ln W n
  exact ⟨gkv,G,SqL.of hl,by omega,paired_take n W.it,tk_ib W n,a1,a2,a3,W.pb⟩
theorem WL.said_ok (W:WL K CF B z kd aw il pp xs its PG) (hl:B l = some (.tup (xs.take n))):∃ pkv:List (Key × V),SqT K B l (xs.take n) ∧ (its.take n).length ≤ 90 ∧ Paired (ItAt K B) ((xs.take n).take (its.take n).length) (its.take n) ∧ (∀ it ∈ its.take n,IB it) ∧ B pp = some (.dK pkv) ∧ PartsAt K B CF pkv PG ∧ PB PG ∧ (xs.take n).length = (its.take n).length:=by
  obtain ⟨fa,dx,d1,fs,kkv,b1,b2,_⟩:=W.fin
  have:=tk_ln W n
  have hp:=paired_take n W.it
  have hl':=hp.length
  refine ⟨_,SqT.of hl,by omega,?_,tk_ib W n,b1,b2,W.pb,hl'⟩
  rw [← hl',List.take_length]
  exact hp
theorem WL.said_n {it:It} {us:List V} (W:WL K CF B z kd aw il pp xs its PG) (hl:B l = some (.tup (xs.take (n + 1) ++ us))) (hit:its[n]? = some it):∃ (pkv:List (Key × V)) (v:V),SqT K B l (xs.take (n + 1) ++ us) ∧ (its.take n).length ≤ 90 ∧ Paired (ItAt K B) ((xs.take (n + 1) ++ us).take (its.take n).length) (its.take n) ∧ (∀ it ∈ its.take n,IB it) ∧ B pp = some (.dK pkv) ∧ PartsAt K B CF pkv PG ∧ PB PG ∧ (xs.take (n + 1) ++ us)[(its.take n).length]? = some v ∧ ItAt K B v it ∧ IB it:=by
  obtain ⟨fa,dx,d1,fs,kkv,b1,b2,_⟩:=W.fin
  have:=tk_ln W n
  have hn:=(List.getElem?_eq_some_iff.mp hit).1
  have hxl:xs.length = its.length:=W.it.length
  have hp:=paired_take n W.it
  have e1:(its.take n).length = n:=by rw [List.length_take]; omega
  obtain ⟨v,hv,hat⟩:∃ v,xs[n]? = some v ∧ ItAt K B v it:=by
    have hx:xs[n]? = some xs[n]:=List.getElem?_eq_getElem (by omega)
    obtain ⟨it',h1,h2⟩:=pair_get W.it hx
    rw [hit] at h1
    cases h1
    exact ⟨_,hx,h2⟩
  refine ⟨_,v,SqT.of hl,by omega,?_,tk_ib W n,b1,b2,W.pb,?_,hat,W.ib it (List.mem_of_getElem? hit)⟩
  · rw [e1,List.take_append_of_le_length (by rw [List.length_take]; omega),List.take_take,Nat.min_eq_left (by omega)]
    exact hp
  · rw [e1,List.getElem?_append_left (by rw [List.length_take]; omega),List.getElem?_take_of_lt (by omega)]
    exact hv
end
theorem cut_n {xs:List V} {n:Nat} (h:n ≤ xs.length):cutV xs none (some (n:Int)) = xs.take n:=cut_to h
noncomputable abbrev lwN:List Str:=["_law_script","_law_words","_law_k","_law_cell_here","_law_q","_law_kinds","_law_away","_law_items","_law_use","_law_item_here","_law_parts","_law_good","_law_due_here","_law_more"]
section
variable {P:Program} {w:World} {K:PySem.W.Frag} {mg:Str → Option Value} {base:Heap}
theorem scLaw:FnScope lwN ["_law_script"] (defScope sLaw):=⟨rfl,rfl,rfl,by decide +kernel,rfl,by decide +kernel,by decide +kernel⟩
variable {f:Addr} {cdv:Value} {A:Around} {outer:List Env} {s:Shared} {H:Hp} {E:XK}
set_option maxHeartbeats 0 in
theorem law_12 {CF:Addr} (cF:Cls K CF) (nK:NoAttr K CF "kinds") (mL:mg "list" = none) (hr:Room 43 (A.deeper (PyProof.Rows.envOfC "law" (defScope sLaw) s.heap.objs.size f cdv))) :
    ∃ t,PSs (cxOf CX0 P w K mg base lwN "law" (defScope sLaw) f cdv A outer s H E).nox (List.drop 12 (defBody sLaw)) t ∧
      ∀ (D:Ends) (B:Hp) (x0 x1 x2 x3 x8 x9 x11 x12 x13:Option V) (z:Str) (kd aw il pp:Addr) (xs:List V) (its:List It) (PG:PGt),WL K CF B z kd aw il pp xs its PG → (∀ H',D.rt (.bl true) H') →
        t D [x0,x1,x2,x3,some (.str z),some (.ref kd),some (.ref aw),some (.ref il),x8,x9,some (.ref pp),x11,x12,x13] B:=by
  have hu:=hu_of hr
  have hu64:=hr.units
  refine ⟨_,pss_one (ps_ret (pe_and (pe_cmpR (op_eqD hu64) (pe_callTy (call_list_dK rfl) (by rfl) mL bootList (pa_cons (pv 10) pa_nil)) (pe_lst (pa_cons (pv 4) pa_nil)) (nomark _)) (pe_one (pe_cmpR (op_eqSame hu) (pe_fld (pe_dget hu (pv 10) (pv 4) (fun _ _ => rfl)) rfl) (pv 5) (nomark _))))),?_⟩
  intro D B x0 x1 x2 x3 x8 x9 x11 x12 x13 z kd aw il pp xs its PG W q
  obtain ⟨fa,dx,d1,fs,kkv,b1,b2,b3,b4,b5,b6,b7⟩:=W.fin
  refine ⟨_,rfl,pp,_,rfl,b1,fun l hl => ?_⟩
  have sl:=same_new hl (.lst ([(Sum.inr z,V.ref fa)].map fun p:Key × V => kV p.1))
  refine ⟨_,rfl,(by show 1 ≤ sizeLine; decide),fun l2 hl2 => ?_⟩
  have sl2:=same_new hl2 (.lst [.str z])
  have g:Gdn 1 (.list [.str z]):=gdn_lst fun d hd => by rw [List.mem_singleton.mp hd]; exact gdn_str W.sz.1
  refine ⟨.list [.str z],.list [.str z],.lst (SqL.of (sl2 _ _ upd_same)) (.cons (.str _) .nil),.lst (SqL.of upd_same) (.cons (.str _) .nil),g.shaped (by decide),g.shaped (by decide),true,by rw [if_neg (by decide),g.refl],iteT ?_⟩
  have sA:=sl.trans sl2
  refine ⟨_,rfl,_,rfl,pp,.ref fa,rfl,?_,fa,CF,dx,fs,_,rfl,sA _ _ b3,cF,nK,b4,_,rfl,d1,kd,kkv,rfl,rfl,sA _ _ b5,sA _ _ b6,b7,q _⟩
  have e:valV [((Sum.inr z:Key),V.ref fa)] (.inr z) = some (.ref fa):=by unfold valV; simp
  exact e ▸ DGet.k (k:=.inr z) (sA _ _ b1)
set_option maxHeartbeats 0 in
theorem law_11 {CF fs fd':Addr} {fds fdd:FuncData} (cF:Cls K CF) (nK:NoAttr K CF "kinds") (mL:mg "list" = none) (mt:mg "tuple" = none)
    (GS:FnOk P w K mg base CX0 43 fs fds saP (spSaid K CF)) (bS:Binds K fds saP []) (kS:PySem.W.keepIn K (.ref fs) = true) (mS:mg "_law_said" = some (.ref fs))
    (GD:FnOk P w K mg base CX0 6 fd' fdd duP (spDue K)) (bD:Binds K fdd duP []) (kD:PySem.W.keepIn K (.ref fd') = true) (mD:mg "_law_due" = some (.ref fd')) (hr:Room 43 (A.deeper (PyProof.Rows.envOfC "law" (defScope sLaw) s.heap.objs.size f cdv))) :
    ∃ t,PSs (cxOf CX0 P w K mg base lwN "law" (defScope sLaw) f cdv A outer s H E).nox (List.drop 11 (defBody sLaw)) t ∧
      ∀ (D:Ends) (B:Hp) (x0 x1 x2 x3 x8 x9 x12 x13:Option V) (z:Str) (kd aw il pp:Addr) (xs:List V) (its:List It) (PG:PGt) (n:Nat),WL K CF B z kd aw il pp xs its PG → n ≤ its.length → OkUp PG (its.take n) → (∀ H',D.rt (.bl true) H') →
        t D [x0,x1,x2,x3,some (.str z),some (.ref kd),some (.ref aw),some (.ref il),x8,x9,some (.ref pp),some (.int n),x12,x13] B:=by
  have hu64:=hr.units
  have hr6:Room 6 _:=hr.mono (by decide)
  obtain ⟨t12,d12,k12⟩:=law_12 (P:=P) (w:=w) (K:=K) (base:=base) (outer:=outer) (H:=H) (E:=E) cF nK mL hr
  refine ⟨_,pss_cons (ps_if (pt_cmpR (op_neD hu64) (pe_call GS hr (by rfl) mS kS bS .nil pass0 (pa_cons (pe_callTy call_tuple_of (by rfl) mt bootTuple (pa_cons (pe_slice sl_list (pv 7) po_none (po_some (pv 11))) pa_nil)) (pa_cons (pv 10) pa_nil))) (pe_call GD hr6 (by rfl) mD kD bD .nil pass0 (pa_cons (pe_slice sl_list (pv 7) po_none (po_some (pv 11))) (pa_cons (pv 6) pa_nil))) (nomark _)) (pss_one (ps_ret pe_bl)) pss_nil) d12,?_⟩
  intro D B x0 x1 x2 x3 x8 x9 x12 x13 z kd aw il pp xs its PG n W hn hok q
  have hxl:xs.length = its.length:=W.it.length
  refine ⟨_,rfl,_,rfl,_,rfl,il,_,rfl,SqL.of W.li,fun l1 hl1 => ?_⟩
  rw [cut_n (by omega)]
  have s1:=same_new hl1 (.lst (xs.take n))
  refine ⟨l1,_,rfl,.inl ⟨SqL.of upd_same,fun l2 hl2 => ?_⟩⟩
  have s2:=same_new hl2 (.tup (xs.take n))
  have W2:=W.same (s1.trans s2)
  obtain ⟨pkv,a1,a2,a3,a4,a5,a6,a7,a8⟩:=W2.said_ok (l:=l2) upd_same
  refine ⟨_,rfl,l2,pp,_,its.take n,pkv,PG,rfl,a1,a2,a3,a4,hok,a5,a6,a7,.inl ⟨a8,fun H3 t3 s3 d3 => ?_⟩⟩
  have W3:=W2.same s3
  refine ⟨_,rfl,_,rfl,_,rfl,il,_,rfl,SqL.of W3.li,fun l4 hl4 => ?_⟩
  rw [cut_n (by omega)]
  have s4:=same_new hl4 (.lst (xs.take n))
  have W4:=W3.same s4
  obtain ⟨gkv,G,b1,b2,b3,b4,b5,b6,b7,b8⟩:=W4.due_ok (l:=l4) upd_same
  refine ⟨_,rfl,l4,aw,_,its.take n,gkv,G,PG,rfl,b1,b2,b3,b4,b5,b6,b7,b8,fun _ H5 t5 s5 d5 => ?_,fun i it hi _ hw => absurd (hok i it hi) hw⟩
  have ns:=hok.ns W.pb (tk_ib W n) n
  rw [List.take_take,Nat.min_self] at ns
  have g:=dueD_gd ns
  refine ⟨_,_,(d3.same (s4.trans s5)).dat,d5.dat,g.shaped (by decide),g.shaped (by decide),false,by rw [if_pos rfl,g.refl]; rfl,iteF ?_⟩
  exact k12 D H5 x0 x1 x2 x3 x8 x9 _ x12 x13 z kd aw il pp xs its PG (W4.same s5) q
end
end K24
namespace K24
open PySem L2 Kk
theorem any_in {W:List Str} {e:Str} (h:e ∈ W):((W.map PyData.str).any fun d => PyData.eqv d (.str e)) = true:=List.any_eq_true.mpr ⟨_,List.mem_map.mpr ⟨e,h,rfl⟩,by rw [eqv_str]; exact decide_eq_true rfl⟩
section
variable {P:Program} {w:World} {K:PySem.W.Frag} {mg:Str → Option Value} {base:Heap}
variable {f:Addr} {cdv:Value} {A:Around} {outer:List Env} {s:Shared} {H:Hp} {E:XK}
set_option maxHeartbeats 0 in
theorem law_10 {CF fs fd' fb:Addr} {fds fdd fdb:FuncData} (cF:Cls K CF) (nK:NoAttr K CF "kinds") (mL:mg "list" = none) (mt:mg "tuple" = none) (ml:mg "len" = none)
    (GS:FnOk P w K mg base CX0 43 fs fds saP (spSaid K CF)) (bS:Binds K fds saP []) (kS:PySem.W.keepIn K (.ref fs) = true) (mS:mg "_law_said" = some (.ref fs))
    (GD:FnOk P w K mg base CX0 6 fd' fdd duP (spDue K)) (bD:Binds K fdd duP []) (kD:PySem.W.keepIn K (.ref fd') = true) (mD:mg "_law_due" = some (.ref fd'))
    (GB:FnOk P w K mg base CX0 2 fb fdb beP (spBehind K)) (bB:Binds K fdb beP []) (kB:PySem.W.keepIn K (.ref fb) = true) (mB:mg "_law_behind" = some (.ref fb)) (hr:Room 43 (A.deeper (PyProof.Rows.envOfC "law" (defScope sLaw) s.heap.objs.size f cdv))) :
    ∃ t,PSs (cxOf CX0 P w K mg base lwN "law" (defScope sLaw) f cdv A outer s H E).nox (List.drop 10 (defBody sLaw)) t ∧
      ∀ (D:Ends) (B:Hp) (x0 x1 x2 x3 x8 x9 x12 x13:Option V) (z:Str) (kd aw il pp:Addr) (xs:List V) (its:List It) (PG:PGt) (n:Nat),WL K CF B z kd aw il pp xs its PG → n ≤ its.length → OkUp PG (its.take n) → (∀ it,its[n]? = some it → wrong PG (stA PG (its.take n)) it ≠ []) → (∀ H',D.rt (.bl true) H') →
        t D [x0,x1,x2,x3,some (.str z),some (.ref kd),some (.ref aw),some (.ref il),x8,x9,some (.ref pp),some (.int n),x12,x13] B:=by
  have hu64:=hr.units
  have hr6:Room 6 _:=hr.mono (by decide)
  have hr2:Room 2 _:=hr.mono (by decide)
  obtain ⟨t11,d11,k11⟩:=law_11 (P:=P) (w:=w) (K:=K) (base:=base) (outer:=outer) (H:=H) (E:=E) cF nK mL mt GS bS kS mS GD bD kD mD hr
  refine ⟨_,pss_cons (ps_if (pt_cmpR op_lt (pv 11) (pe_callB call_len_seq (by rfl) ml PySem.boot_len (pa_cons (pv 7) pa_nil)) (nomark _))
      (pss_cons (ps_set (i:=12) scLaw.nd rfl (Or.inl rfl) (pe_call GD hr6 (by rfl) mD kD bD .nil pass0 (pa_cons (pe_slice sl_list (pv 7) po_none (po_some (pe_op op_add (pv 11) pe_int))) (pa_cons (pv 6) pa_nil))))
      (pss_cons (ps_if (pt_cmpR (op_notInD hu64) (pe_call GS hr (by rfl) mS kS bS .nil pass0 (pa_cons (pe_callTy call_tuple_of (by rfl) mt bootTuple (pa_cons (pe_slice sl_list (pv 7) po_none (po_some (pe_op op_add (pv 11) pe_int))) pa_nil)) (pa_cons (pv 10) pa_nil))) (pv 12) (by with_unfolding_all rfl)) (pss_one (ps_ret pe_bl)) pss_nil)
      (pss_cons (ps_set (i:=13) scLaw.nd rfl (Or.inl rfl) (pe_call GB hr2 (by rfl) mB kB bB .nil pass0 (pa_cons (pe_ix ix_list (pv 7) (pv 11) (fun _ _ => rfl)) (pa_cons (pe_call GD hr6 (by rfl) mD kD bD .nil pass0 (pa_cons (pe_slice sl_list (pv 7) po_none (po_some (pv 11))) (pa_cons (pv 6) pa_nil))) pa_nil))))
      (pss_one (ps_if (pt_cmpR (op_notInD hu64) (pe_call GS hr (by rfl) mS kS bS .nil pass0 (pa_cons (pe_callTy call_tuple_of (by rfl) mt bootTuple (pa_cons (pe_op op_cat (pe_slice sl_list (pv 7) po_none (po_some (pe_op op_add (pv 11) pe_int))) (pv 13)) pa_nil)) (pa_cons (pv 10) pa_nil))) (pv 12) (by with_unfolding_all rfl)) (pss_one (ps_ret pe_bl)) pss_nil))))) pss_nil) d11,?_⟩
  intro D B x0 x1 x2 x3 x8 x9 x12 x13 z kd aw il pp xs its PG n W hn hok hwr q
  have hxl:xs.length = its.length:=W.it.length
  have e1:((n:Int) + 1) = ((n + 1:Nat):Int):=by omega
  refine ⟨_,rfl,_,rfl,il,_,rfl,.inl (SqL.of W.li),_,_,rfl,rfl,_,rfl,ite2 (fun c => ?_) (fun c => ?_)⟩
  · have c':(n:Int) < (xs.length:Int):=of_decide_eq_true c
    have hlt:n < its.length:=by omega
    have hit:its[n]? = some its[n]:=List.getElem?_eq_getElem hlt
    generalize its[n] = it at hit
    have hw:=hwr it hit
    obtain ⟨v,hv,hat⟩:∃ v,xs[n]? = some v ∧ ItAt K B v it:=by
      have hx:xs[n]? = some xs[n]:=List.getElem?_eq_getElem (by omega)
      obtain ⟨it',h1,h2⟩:=pair_get W.it hx
      rw [hit] at h1
      cases h1
      exact ⟨_,hx,h2⟩
    refine ⟨_,rfl,_,rfl,_,_,rfl,rfl,_,rfl,il,_,rfl,SqL.of W.li,fun l1 hl1 => ?_⟩
    rw [e1,cut_n (by omega)]
    have s1:=same_new hl1 (.lst (xs.take (n + 1)))
    have W1:=W.same s1
    obtain ⟨gkv,G,b1,b2,b3,b4,b5,b6,b7,b8⟩:=W1.due_ok (n:=n + 1) (l:=l1) upd_same
    refine ⟨_,rfl,l1,aw,_,its.take (n + 1),gkv,G,PG,rfl,b1,b2,b3,b4,b5,b6,b7,b8,fun ok => absurd (last_ok hit ok) hw,fun i it' hi _ hw' H2 p s2 hp => ?_⟩
    rw [last_wrong hit hok hi hw'] at hp
    have W2:=W1.same s2
    refine ⟨_,rfl,_,rfl,_,_,rfl,rfl,_,rfl,il,_,rfl,SqL.of W2.li,fun l3 hl3 => ?_⟩
    rw [e1,cut_n (by omega)]
    have s3:=same_new hl3 (.lst (xs.take (n + 1)))
    refine ⟨l3,_,rfl,.inl ⟨SqL.of upd_same,fun l4 hl4 => ?_⟩⟩
    have s4:=same_new hl4 (.tup (xs.take (n + 1)))
    have s34:=s3.trans s4
    have W4:=W2.same s34
    obtain ⟨pkv,vb,c1,c2,c3,c4,c5,c6,c7,c8,c9,c10⟩:=W4.said_n (l:=l4) (us:=[]) (by rw [List.append_nil]; exact upd_same) hit
    refine ⟨_,rfl,l4,pp,xs.take (n + 1) ++ [],its.take n,pkv,PG,rfl,c1,c2,c3,c4,hok,c5,c6,c7,.inr ⟨vb,it,c8,c9,c10,hw,fun H5 e s5 he => ?_⟩⟩
    have hp5:=s5 _ _ (s34 _ _ hp)
    have gd:=strs_gd (W:=wrong PG (stA PG (its.take n)) it) fun z hz => wrong_ok hz
    have lay:PyData.canLayAll0 ((wrong PG (stA PG (its.take n)) it).map PyData.str) = true:=(gdn_all (n:=0) fun d hd => by
      obtain ⟨z,hz,rfl⟩:=List.mem_map.mp hd
      exact gdn_str (wrong_ok hz)).1
    refine ⟨_,rfl,p,_,_,.str e,rfl,SqL.of hp5,strs_dat _,.str e,lay,(gdn_str (n:=0) (wrong_ok he)).1,Nat.le_trans (gdn_str (n:=0) (wrong_ok he)).2 (by decide),false,by rw [if_pos rfl,any_in he]; rfl,iteF ?_⟩
    have W5:=W4.same s5
    have s05:=s1.trans (s2.trans (s34.trans s5))
    refine ⟨_,rfl,_,rfl,il,_,_,v,rfl,rfl,SqL.of W5.li,atI_nat hv,?_⟩
    refine ⟨_,rfl,_,rfl,_,rfl,il,_,rfl,SqL.of W5.li,fun l6 hl6 => ?_⟩
    rw [cut_n (by omega)]
    have s6:=same_new hl6 (.lst (xs.take n))
    have W6:=W5.same s6
    obtain ⟨gkv2,G2,b1',b2',b3',b4',b5',b6',b7',b8'⟩:=W6.due_ok (l:=l6) upd_same
    refine ⟨_,rfl,l6,aw,_,its.take n,gkv2,G2,PG,rfl,b1',b2',b3',b4',b5',b6',b7',b8',fun _ H7 t7 s7 d7 => ?_,fun i it hi _ hw => absurd (hok i it hi) hw⟩
    have W7:=W6.same s7
    have s07:=s05.trans (s6.trans s7)
    have sl:=stA_len (PG:=PG) (its.take n) ([],[])
    have tl:=tk_ln W n
    refine ⟨v,t7,it,_,rfl,hat.same s07,W.ib it (List.mem_of_getElem? hit),d7,?_,fun H8 lm us s8 hlm hus => ?_⟩
    · have:=sl.1
      show ((its.take n).foldl (nstep PG) ([],[])).1.length ≤ 100
      simp only [List.length_nil] at this
      omega
    have W8:=W7.same s8
    have hp8:=s8 _ _ ((s6.trans s7) _ _ hp5)
    refine ⟨_,rfl,_,rfl,_,_,rfl,rfl,_,rfl,il,_,rfl,SqL.of W8.li,fun l9 hl9 => ?_⟩
    rw [e1,cut_n (by omega)]
    have s9:=same_new hl9 (.lst (xs.take (n + 1)))
    have tl2:(xs.take (n + 1)).length ≤ 12:=Nat.le_trans (List.length_take_le' _ _) (by have:=W.ln; omega)
    refine ⟨_,rfl,l9,lm,_,us,rfl,rfl,upd_same,s9 _ _ hlm,small (by omega),fun la hla => ?_⟩
    have sa:=same_new hla (.lst (xs.take (n + 1) ++ us))
    refine ⟨la,_,rfl,.inl ⟨SqL.of upd_same,fun lb hlb => ?_⟩⟩
    have sb:=same_new hlb (.tup (xs.take (n + 1) ++ us))
    have s9b:=s9.trans (sa.trans sb)
    have Wb:=W8.same s9b
    obtain ⟨pkv2,vc,g1,g2,g3,g4,g5,g6,g7,g8,g9,g10⟩:=Wb.said_n (l:=lb) (us:=us) upd_same hit
    refine ⟨_,rfl,lb,pp,_,its.take n,pkv2,PG,rfl,g1,g2,g3,g4,hok,g5,g6,g7,.inr ⟨vc,it,g8,g9,g10,hw,fun Hc e' sc he' => ?_⟩⟩
    have hpc:=sc _ _ (s9b _ _ hp8)
    refine ⟨_,rfl,p,_,_,.str e',rfl,SqL.of hpc,strs_dat _,.str e',lay,(gdn_str (n:=0) (wrong_ok he')).1,Nat.le_trans (gdn_str (n:=0) (wrong_ok he')).2 (by decide),false,by rw [if_pos rfl,any_in he']; rfl,iteF ?_⟩
    exact k11 D Hc x0 x1 x2 x3 x8 x9 _ _ z kd aw il pp xs its PG n (Wb.same sc) hn hok q
  · exact k11 D B x0 x1 x2 x3 x8 x9 x12 x13 z kd aw il pp xs its PG n W hn hok q
set_option maxHeartbeats 0 in
theorem law_9 {CF fs fd' fb:Addr} {fds fdd fdb:FuncData} (cF:Cls K CF) (nK:NoAttr K CF "kinds") (mL:mg "list" = none) (mt:mg "tuple" = none) (ml:mg "len" = none) (mi:mg "isinstance" = none)
    (GS:FnOk P w K mg base CX0 43 fs fds saP (spSaid K CF)) (bS:Binds K fds saP []) (kS:PySem.W.keepIn K (.ref fs) = true) (mS:mg "_law_said" = some (.ref fs))
    (GD:FnOk P w K mg base CX0 6 fd' fdd duP (spDue K)) (bD:Binds K fdd duP []) (kD:PySem.W.keepIn K (.ref fd') = true) (mD:mg "_law_due" = some (.ref fd'))
    (GB:FnOk P w K mg base CX0 2 fb fdb beP (spBehind K)) (bB:Binds K fdb beP []) (kB:PySem.W.keepIn K (.ref fb) = true) (mB:mg "_law_behind" = some (.ref fb)) (hr:Room 43 (A.deeper (PyProof.Rows.envOfC "law" (defScope sLaw) s.heap.objs.size f cdv))) :
    ∃ t,PSs (cxOf CX0 P w K mg base lwN "law" (defScope sLaw) f cdv A outer s H E).nox (List.drop 8 (defBody sLaw)) t ∧
      ∀ (D:Ends) (B:Hp) (x0 x1 x2 x3 x8 x9 x11 x12 x13:Option V) (z:Str) (kd aw il pp:Addr) (xs:List V) (its:List It) (PG:PGt),WL K CF B z kd aw il pp xs its PG → (∀ H',D.rt (.bl true) H') →
        t D [x0,x1,x2,x3,some (.str z),some (.ref kd),some (.ref aw),some (.ref il),x8,x9,some (.ref pp),x11,x12,x13] B:=by
  have hr6:Room 6 _:=hr.mono (by decide)
  obtain ⟨t10,d10,k10⟩:=law_10 (P:=P) (w:=w) (K:=K) (base:=base) (outer:=outer) (H:=H) (E:=E) cF nK mL mt ml GS bS kS mS GD bD kD mD GB bB kB mB hr
  refine ⟨_,pss_cons (ps_set (i:=11) scLaw.nd rfl (Or.inl rfl) pe_int)
    (pss_cons (ps_while PassesOwn.never (PW.pt (pw_and (pt_cmpR op_lt (pv 11) (pe_callB call_len_seq (by rfl) ml PySem.boot_len (pa_cons (pv 7) pa_nil)) (nomark _)) (pw_and1 (pt_val (pe_callB call_isiLT (by rfl) mi bootIsi (pa_cons (pe_call GD hr6 (by rfl) mD kD bD .nil pass0 (pa_cons (pe_slice sl_list (pv 7) po_none (po_some (pe_op op_add (pv 11) pe_int))) (pa_cons (pv 6) pa_nil))) (pa_cons (pe_bltn (by rfl) mt bootTuple (v:=.ty "tuple") rfl) pa_nil)))))))
      (pss_one (ps_set (i:=11) scLaw.nd rfl (Or.inl rfl) (pe_op op_add (pv 11) pe_int)))) d10),?_⟩
  intro D B x0 x1 x2 x3 x8 x9 x11 x12 x13 z kd aw il pp xs its PG W q
  have hxl:xs.length = its.length:=W.it.length
  refine ⟨fun m σ H3 => ∃ n:Nat,σ = [x0,x1,x2,x3,some (.str z),some (.ref kd),some (.ref aw),some (.ref il),x8,x9,some (.ref pp),some (.int n),x12,x13] ∧ Same B H3 ∧ n ≤ its.length ∧ OkUp PG (its.take n) ∧ m = its.length - n,⟨its.length,0,rfl,Same.refl _,Nat.zero_le _,(fun i it h => by simp at h),rfl⟩,?_⟩
  rintro m σ H3 ⟨n,rfl,s3,hn,hok,rfl⟩
  have e1:((n:Int) + 1) = ((n + 1:Nat):Int):=by omega
  have W3:=W.same s3
  refine ⟨_,rfl,_,rfl,il,_,rfl,.inl (SqL.of W3.li),_,_,rfl,rfl,_,rfl,ite2 (fun c => ?_) (fun c => ?_)⟩
  · have c':(n:Int) < (xs.length:Int):=of_decide_eq_true c
    have hlt:n < its.length:=by omega
    have hit:its[n]? = some its[n]:=List.getElem?_eq_getElem hlt
    generalize its[n] = it at hit
    refine ⟨_,rfl,_,rfl,_,_,rfl,rfl,_,rfl,il,_,rfl,SqL.of W3.li,fun l1 hl1 => ?_⟩
    rw [e1,cut_n (by omega)]
    have s1:=same_new hl1 (.lst (xs.take (n + 1)))
    have W1:=W3.same s1
    obtain ⟨gkv,G,b1,b2,b3,b4,b5,b6,b7,b8⟩:=W1.due_ok (n:=n + 1) (l:=l1) upd_same
    refine ⟨_,rfl,l1,aw,_,its.take (n + 1),gkv,G,PG,rfl,b1,b2,b3,b4,b5,b6,b7,b8,fun ok H2 t s2 d2 => ?_,fun i it' hi _ hw' H2 p s2 hp => ?_⟩
    · have hw:=last_ok hit ok
      obtain ⟨a,b,as,bs,kvs,fvs,h1,_⟩:=d2
      refine ⟨_,rfl,.inl ⟨t,_,rfl,h1,true,rfl,?_⟩⟩
      refine ⟨_,fun σ' H' z => z,_,rfl,_,_,rfl,rfl,?_⟩
      refine ⟨its.length - (n + 1),by omega,n + 1,?_,s3.trans (s1.trans s2),hlt,?_,rfl⟩
      · show ([x0,x1,x2,x3,some (.str z),some (.ref kd),some (.ref aw),some (.ref il),x8,x9,some (.ref pp),some (.int ((n:Int) + 1)),x12,x13]:St) = _
        rw [e1]
      · rw [take_snoc hit]
        exact hok.snoc hw
    · have hw:wrong PG (stA PG (its.take n)) it ≠ []:=by rw [← last_wrong hit hok hi hw']; exact hw'
      refine ⟨_,rfl,.inr ⟨p,_,rfl,hp,false,rfl,?_⟩⟩
      refine k10 D H2 x0 x1 x2 x3 x8 x9 x12 x13 z kd aw il pp xs its PG n (W1.same s2) hn hok (fun it' hit' => ?_) q
      rw [hit] at hit'
      cases hit'
      exact hw
  · have c':¬ (n:Int) < (xs.length:Int):=fun z => c (decide_eq_true z)
    refine k10 D H3 x0 x1 x2 x3 x8 x9 x12 x13 z kd aw il pp xs its PG n W3 hn hok (fun it' hit' => ?_) q
    have:=(List.getElem?_eq_some_iff.mp hit').1
    omega
end
end K24
namespace K24
open PySem L2 Kk
noncomputable def It.hd:It → Str
  | .hid _ => "hid" | .told _ _ => "told" | .fn _ _ _ => "fun"
noncomputable def It.sw (w:Str):It → It
  | .hid _ => .hid w | .told _ k => .told w k | .fn _ as r => .fn w as r
theorem item_parts {K:PySem.W.Frag} {B:Hp} {y:V} {it:It} (h:ItAt K B y it):∃ (p:Addr) (rest:List V),y = .ref p ∧ SqT K B p (.str (It.hd it) :: .str (It.w it) :: rest) ∧ rest.length ≤ 2 ∧
    ∀ (B':Hp) (p':Addr) (w':Str),(∀ a xs,SqT K B a xs → SqT K B' a xs) → SqT K B' p' (.str (It.hd it) :: .str w' :: rest) → ItAt K B' (.ref p') (It.sw w' it):=by
  cases it with
  | hid w => obtain ⟨p,e,h⟩:=h; exact ⟨p,[],e,h,Nat.zero_le _,fun B' p' w' _ h' => ⟨p',rfl,h'⟩⟩
  | told w k => obtain ⟨p,x,e,h,hx⟩:=h; exact ⟨p,[x],e,h,by show 1 ≤ 2; decide,fun B' p' w' kp h' => ⟨p',x,rfl,h',kd_keep kp hx⟩⟩
  | fn w as r => obtain ⟨p,ta,x,xs,e,h,ht,hks,hx⟩:=h; exact ⟨p,[.ref ta,x],e,h,Nat.le_refl _,fun B' p' w' kp h' => ⟨p',ta,x,xs,rfl,h',kp _ _ ht,kds_keep kp hks,kd_keep kp hx⟩⟩
theorem IB.sw {it:It} (h:IB it) {w:Str} (hw:smW w):IB (It.sw w it):=by
  cases it <;> exact ⟨hw,h.n,h.k⟩
theorem at_m2 (c:Int) {ws:List Str} (h:2 ≤ ws.length):∃ z ∈ ws,atI (ws.map V.str) (c % 2) = some (.str z):=by
  have r0:=Int.emod_nonneg c (show (2:Int) ≠ 0 by decide)
  have r1:=Int.emod_lt_of_pos c (show (0:Int) < 2 by decide)
  have hj:(c % 2).toNat < ws.length:=by omega
  refine ⟨ws[(c % 2).toNat],List.getElem_mem hj,?_⟩
  have e:c % 2 = (((c % 2).toNat:Nat):Int):=by omega
  have q:atI (ws.map V.str) (((c % 2).toNat:Nat):Int) = some (V.str ws[(c % 2).toNat]):=atI_nat (by rw [List.getElem?_map,List.getElem?_eq_getElem hj]; rfl)
  rw [← e] at q
  exact q
theorem at_k {ws:List Str} {i:Nat} (h:i < ws.length):∃ z ∈ ws,atI (ws.map V.str) (0 + (i:Int)) = some (.str z):=⟨ws[i],List.getElem_mem h,at_nat0 (by rw [List.getElem?_map,List.getElem?_eq_getElem h]; rfl)⟩
structure FW (K:PySem.W.Frag) (B:Hp) (wl kd aw:Addr) (ws:List Str) (kkv:List (Key × V)) (gkv:List (List Key × V)) (kl:List (Str × Kd)) (G:Str × Str → Option Kd):Prop where
  wl:B wl = some (.lst (ws.map V.str))
  kd:B kd = some (.dK kkv)
  pk:PkAt (KdAt K B) kkv kl
  aw:B aw = some (.dT gkv)
  gv:GvAt K B gkv G
theorem FW.same {K:PySem.W.Frag} {B B':Hp} {wl kd aw:Addr} {ws:List Str} {kkv:List (Key × V)} {gkv:List (List Key × V)} {kl:List (Str × Kd)} {G:Str × Str → Option Kd} (h:FW K B wl kd aw ws kkv gkv kl G) (s:Same B B'):FW K B' wl kd aw ws kkv gkv kl G :=
  ⟨s _ _ h.wl,s _ _ h.kd,h.pk.imp fun _ _ x => x.same s,s _ _ h.aw,h.gv.same s⟩
theorem FW.put {K:PySem.W.Frag} {B:Hp} {wl kd aw il:Addr} {ws:List Str} {kkv:List (Key × V)} {gkv:List (List Key × V)} {kl:List (Str × Kd)} {G:Str × Str → Option Kd} {us vs:List V} (h:FW K B wl kd aw ws kkv gkv kl G) (hn:wl ≠ il) (hil:B il = some (.lst us)):FW K (upd B il (.lst vs)) wl kd aw ws kkv gkv kl G:=by
  have kp:∀ a ys,SqT K B a ys → SqT K (upd B il (.lst vs)) a ys:=fun a ys t => sqt_upd hil t
  refine ⟨by rw [upd_ne hn]; exact h.wl,?_,h.pk.imp fun _ _ x => kd_keep kp x,?_,h.gv.keep kp⟩
  · rw [upd_ne (fun z => by have:=h.kd; rw [z,hil] at this; cases this)]
    exact h.kd
  · rw [upd_ne (fun z => by have:=h.aw; rw [z,hil] at this; cases this)]
    exact h.aw
noncomputable abbrev lwB:List Stmt:=forB ((defBody sLaw).getD 6 (.Pass ⟨0,0,0,0⟩))
section
variable {P:Program} {w:World} {K:PySem.W.Frag} {mg:Str → Option Value} {base:Heap}
variable {f:Addr} {cdv:Value} {A:Around} {outer:List Env} {s:Shared} {H:Hp} {E:XK}
set_option maxHeartbeats 0 in
theorem itm_4 {fc:Addr} {fdc:FuncData} (GC:FnOk P w K mg base CX0 1 fc fdc ["_law_script","_law_k"] (spCell K)) (bC:Binds K fdc ["_law_script","_law_k"] []) (kC:PySem.W.keepIn K (.ref fc) = true) (mC:mg "_law_cell" = some (.ref fc)) (hr:Room 43 (A.deeper (PyProof.Rows.envOfC "law" (defScope sLaw) s.heap.objs.size f cdv))) :
    ∃ t,PSs (cxOf CX0 P w K mg base lwN "law" (defScope sLaw) f cdv A outer s H E).nox (List.drop 4 lwB) t ∧
      ∀ (D:Ends) (B:Hp) (x3 x8 x10 x11 x12 x13 x5 x6 x4:Option V) (a wl il:Addr) (y:V) (i:Nat) (ns:List Int) (ws:List Str) (xs:List V) (it:It),SqL K B a (ns.map V.int) → ns.length ≤ 63 → i < 13 → B wl = some (.lst (ws.map V.str)) → ws.length = 6 → (∀ z ∈ ws,smW z) → ItAt K B y it → IB it → B il = some (.lst xs) → xs.length ≤ 20 →
        (∀ B' y' it',Same B B' → ItAt K B' y' it' → IB it' → D.nx [some (.ref a),some (.ref wl),some (.int (0 + (i:Int))),x3,x4,x5,x6,some (.ref il),x8,some y',x10,x11,x12,x13] (upd B' il (.lst (xs ++ [y'])))) →
        t D [some (.ref a),some (.ref wl),some (.int (0 + (i:Int))),x3,x4,x5,x6,some (.ref il),x8,some y,x10,x11,x12,x13] B:=by
  have hr1:Room 1 _:=hr.mono (by decide)
  refine ⟨_,pss_cons (ps_if (PW.pt (pw_and (pt_cmpR op_eq (pe_op op_mod (pe_op op_fdiv (pe_call GC hr1 (by rfl) mC kC bC .nil pass0 (pa_cons (pv 0) (pa_cons pe_int pa_nil))) pe_int) pe_int) pe_int (nomark _)) (pw_and1 (pt_cmpR op_eq (pe_ix ix_tup (pv 9) pe_int (fun _ _ => rfl)) pe_str (nomark _)))))
      (pss_one (ps_set (i:=9) scLaw.nd rfl (Or.inl rfl) (pe_op op_catT (pe_tup (pa_cons (pe_ix ix_tup (pv 9) pe_int (fun _ _ => rfl)) (pa_cons (pe_ix ix_list (pv 1) (pe_op op_mod (pe_call GC hr1 (by rfl) mC kC bC .nil pass0 (pa_cons (pv 0) (pa_cons (pe_op op_add pe_int (pe_op op_mul pe_int (pv 2))) pa_nil))) pe_int) (fun _ _ => rfl)) pa_nil))) (pe_slice sl_tup (pv 9) (po_some pe_int) po_none)))) pss_nil)
    (pss_one (ps_expr (pe_bm PySem.F.plainAttrs_list PySem.F.slot_list_append PySem.F.type_list_append mt_append (pv 7) (pa_cons (pv 9) pa_nil)))),?_⟩
  intro D B x3 x8 x10 x11 x12 x13 x5 x6 x4 a wl il y i ns ws xs it hS h63 hi hwl h6 hwo hat ib hil hxl q
  have zz:xs.length < sizeLine:=Nat.lt_of_lt_of_le (Nat.lt_succ_self _) (small (by omega))
  refine ⟨_,rfl,a,ns,_,rfl,hS,h63,by decide,by decide,fun ce => ?_⟩
  refine ⟨_,_,rfl,rfl,⟨by decide,by decide⟩,_,_,rfl,rfl,(by show (0:Int) < 2; decide),rfl,_,rfl,ite2 (fun _ => ?_) (fun _ => ?_)⟩
  · obtain ⟨p,rest,rfl,hp,hrl,mk⟩:=item_parts hat
    refine ⟨_,rfl,_,_,_,_,rfl,rfl,hp,(show atI (V.str (It.hd it) :: .str (It.w it) :: rest) 0 = some (.str (It.hd it)) from by show atI _ ((0:Nat):Int) = _; exact atI_nat rfl),rfl,_,rfl,ite2 (fun _ => ?_) (fun _ => ?_)⟩
    · refine ⟨_,rfl,_,_,_,_,rfl,rfl,hp,(show atI (V.str (It.hd it) :: .str (It.w it) :: rest) 0 = some (.str (It.hd it)) from by show atI _ ((0:Nat):Int) = _; exact atI_nat rfl),?_⟩
      refine ⟨_,rfl,_,rfl,_,rfl,_,_,rfl,rfl,.inl ⟨by omega,by omega⟩,_,_,rfl,rfl,a,ns,_,rfl,hS,h63,by omega,by omega,fun ce2 => ?_⟩
      obtain ⟨z,hz,hzat⟩:=at_m2 ce2 (ws:=ws) (by omega)
      refine ⟨_,_,rfl,rfl,(by show (0:Int) < 2; decide),wl,_,_,_,rfl,rfl,SqL.of hwl,hzat,(by show 2 ≤ sizeLine; decide),fun p1 hp1 => ?_⟩
      have s1:=same_new hp1 (.tup [.str (It.hd it),.str z])
      refine ⟨_,rfl,_,rfl,p,_,rfl,s1.tup hp,?_,fun p2 hp2 => ?_⟩
      · rintro ⟨e,_⟩
        rw [show (some (2:Int)) = some ((2:Nat):Int) from rfl,HT.sIx_nat] at e
        simp only [List.length_cons] at e
        omega
      have ec:cutV (V.str (It.hd it) :: .str (It.w it) :: rest) (some 2) none = rest:=cut_from (vs:=V.str (It.hd it) :: .str (It.w it) :: rest) (n:=2) (by simp only [List.length_cons]; omega)
      rw [ec]
      have s2:=same_new hp2 (.tup rest)
      refine ⟨p1,p2,_,rest,rfl,rfl,SqT.of (s2 _ _ upd_same),SqT.of upd_same,(fun z => nomatch z),small (by show 2 + rest.length ≤ 1000; omega),fun e => ?_,fun _ p3 hp3 => ?_⟩
      · have s12:=s1.trans s2
        refine ⟨_,rfl,.inl ⟨rfl,_,SqL.of (s12 _ _ hil)⟩,_,rfl,il,_,_,rfl,rfl,s12 _ _ hil,zz,q _ _ _ s12 (mk _ p1 z (fun _ _ t => s12.tup t) (by subst e; exact SqT.of (s2 _ _ upd_same))) (ib.sw (hwo z hz))⟩
      · have s3:=same_new hp3 (.tup ([.str (It.hd it),.str z] ++ rest))
        have s13:=s1.trans (s2.trans s3)
        refine ⟨_,rfl,.inl ⟨rfl,_,SqL.of (s13 _ _ hil)⟩,_,rfl,il,_,_,rfl,rfl,s13 _ _ hil,zz,q _ _ _ s13 (mk _ p3 z (fun _ _ t => s13.tup t) (SqT.of upd_same)) (ib.sw (hwo z hz))⟩
    · exact ⟨_,rfl,.inl ⟨rfl,_,SqL.of hil⟩,_,rfl,il,_,_,rfl,rfl,hil,zz,q _ _ _ (Same.refl _) hat ib⟩
  · exact ⟨_,rfl,.inl ⟨rfl,_,SqL.of hil⟩,_,rfl,il,_,_,rfl,rfl,hil,zz,q _ _ _ (Same.refl _) hat ib⟩
set_option maxHeartbeats 0 in
theorem itm_3 {fc:Addr} {fdc:FuncData} (GC:FnOk P w K mg base CX0 1 fc fdc ["_law_script","_law_k"] (spCell K)) (bC:Binds K fdc ["_law_script","_law_k"] []) (kC:PySem.W.keepIn K (.ref fc) = true) (mC:mg "_law_cell" = some (.ref fc)) (hr:Room 43 (A.deeper (PyProof.Rows.envOfC "law" (defScope sLaw) s.heap.objs.size f cdv))) :
    ∃ t,PSs (cxOf CX0 P w K mg base lwN "law" (defScope sLaw) f cdv A outer s H E).nox (List.drop 3 lwB) t ∧
      ∀ (D:Ends) (B:Hp) (x3 x8 x10 x11 x12 x13 x5 x6 x4:Option V) (a wl il:Addr) (y:V) (i:Nat) (ns:List Int) (ws:List Str) (xs:List V) (it:It),SqL K B a (ns.map V.int) → ns.length ≤ 63 → i < 13 → B wl = some (.lst (ws.map V.str)) → ws.length = 6 → (∀ z ∈ ws,smW z) → ItAt K B y it → IB it → B il = some (.lst xs) → xs.length ≤ 20 →
        (∀ B' y' it',Same B B' → ItAt K B' y' it' → IB it' → D.nx [some (.ref a),some (.ref wl),some (.int (0 + (i:Int))),x3,x4,x5,x6,some (.ref il),x8,some y',x10,x11,x12,x13] (upd B' il (.lst (xs ++ [y'])))) →
        t D [some (.ref a),some (.ref wl),some (.int (0 + (i:Int))),x3,x4,x5,x6,some (.ref il),x8,some y,x10,x11,x12,x13] B:=by
  have hr1:Room 1 _:=hr.mono (by decide)
  obtain ⟨t4,d4,k4⟩:=itm_4 (P:=P) (w:=w) (K:=K) (base:=base) (outer:=outer) (H:=H) (E:=E) GC bC kC mC hr
  refine ⟨_,pss_cons (ps_if (PW.pt (pw_and (pt_cmpR op_gt (pe_op op_mod (pe_op op_fdiv (pe_call GC hr1 (by rfl) mC kC bC .nil pass0 (pa_cons (pv 0) (pa_cons pe_int pa_nil))) pe_int) pe_int) pe_int (nomark _)) (pw_and (pt_cmpR op_lt (pv 2) pe_int (nomark _)) (pw_and1 (pt_cmpR op_ne (pe_ix ix_tup (pv 9) pe_int (fun _ _ => rfl)) pe_str (nomark _))))))
      (pss_one (ps_set (i:=9) scLaw.nd rfl (Or.inl rfl) (pe_op op_catT (pe_tup (pa_cons (pe_ix ix_tup (pv 9) pe_int (fun _ _ => rfl)) (pa_cons (pe_ix ix_list (pv 1) (pv 2) (fun _ _ => rfl)) pa_nil))) (pe_slice sl_tup (pv 9) (po_some pe_int) po_none)))) pss_nil) d4,?_⟩
  intro D B x3 x8 x10 x11 x12 x13 x5 x6 x4 a wl il y i ns ws xs it hS h63 hi hwl h6 hwo hat ib hil hxl q
  have no:=k4 D B x3 x8 x10 x11 x12 x13 x5 x6 x4 a wl il y i ns ws xs it hS h63 hi hwl h6 hwo hat ib hil hxl q
  refine ⟨_,rfl,a,ns,_,rfl,hS,h63,by decide,by decide,fun ce => ?_⟩
  refine ⟨_,_,rfl,rfl,⟨by decide,by decide⟩,_,_,rfl,rfl,(by show (0:Int) < 3; decide),_,_,rfl,rfl,_,rfl,ite2 (fun _ => ?_) (fun _ => no)⟩
  refine ⟨_,rfl,_,_,rfl,rfl,_,rfl,ite2 (fun c => ?_) (fun _ => no)⟩
  have c':(0 + (i:Int)) < 6:=of_decide_eq_true c
  obtain ⟨p,rest,rfl,hp,hrl,mk⟩:=item_parts hat
  have a0:atI (V.str (It.hd it) :: .str (It.w it) :: rest) 0 = some (.str (It.hd it)):=by show atI _ ((0:Nat):Int) = _; exact atI_nat rfl
  refine ⟨_,rfl,_,_,_,_,rfl,rfl,hp,a0,rfl,_,rfl,ite2 (fun _ => ?_) (fun _ => no)⟩
  refine ⟨_,rfl,_,_,_,_,rfl,rfl,hp,a0,?_⟩
  obtain ⟨z,hz,hzat⟩:=at_k (ws:=ws) (i:=i) (by omega)
  refine ⟨_,rfl,_,rfl,wl,_,_,_,rfl,rfl,SqL.of hwl,hzat,(by show 2 ≤ sizeLine; decide),fun p1 hp1 => ?_⟩
  have s1:=same_new hp1 (.tup [.str (It.hd it),.str z])
  refine ⟨_,rfl,_,rfl,p,_,rfl,s1.tup hp,?_,fun p2 hp2 => ?_⟩
  · rintro ⟨e,_⟩
    rw [show (some (2:Int)) = some ((2:Nat):Int) from rfl,HT.sIx_nat] at e
    simp only [List.length_cons] at e
    omega
  have ec:cutV (V.str (It.hd it) :: .str (It.w it) :: rest) (some 2) none = rest:=cut_from (vs:=V.str (It.hd it) :: .str (It.w it) :: rest) (n:=2) (by simp only [List.length_cons]; omega)
  rw [ec]
  have s2:=same_new hp2 (.tup rest)
  have go:∀ (B':Hp) (y':V),Same B B' → ItAt K B' y' (It.sw z it) → _:=fun B' y' sB hy => k4 D B' x3 x8 x10 x11 x12 x13 x5 x6 x4 a wl il y' i ns ws xs (It.sw z it) (sql_same sB hS) h63 hi (sB _ _ hwl) h6 hwo hy (ib.sw (hwo z hz)) (sB _ _ hil) hxl fun B'' y'' it'' s'' h'' ib'' => q B'' y'' it'' (sB.trans s'') h'' ib''
  refine ⟨p1,p2,_,rest,rfl,rfl,SqT.of (s2 _ _ upd_same),SqT.of upd_same,(fun z => nomatch z),small (by show 2 + rest.length ≤ 1000; omega),fun e => ?_,fun _ p3 hp3 => ?_⟩
  · have s12:=s1.trans s2
    exact go _ _ s12 (mk _ p1 z (fun _ _ t => s12.tup t) (by subst e; exact SqT.of (s2 _ _ upd_same)))
  · have s3:=same_new hp3 (.tup ([.str (It.hd it),.str z] ++ rest))
    have s13:=s1.trans (s2.trans s3)
    exact go _ _ s13 (mk _ p3 z (fun _ _ t => s13.tup t) (SqT.of upd_same))
set_option maxHeartbeats 0 in
theorem itm_0 {fc fm:Addr} {fdc fdm:FuncData} (GC:FnOk P w K mg base CX0 1 fc fdc ["_law_script","_law_k"] (spCell K)) (bC:Binds K fdc ["_law_script","_law_k"] []) (kC:PySem.W.keepIn K (.ref fc) = true) (mC:mg "_law_cell" = some (.ref fc))
    (GM:FnOk P w K mg base CX0 3 fm fdm imP (spItem K)) (bM:Binds K fdm imP []) (kM:PySem.W.keepIn K (.ref fm) = true) (mM:mg "_law_item" = some (.ref fm)) (mr:mg "range" = none) (hr:Room 43 (A.deeper (PyProof.Rows.envOfC "law" (defScope sLaw) s.heap.objs.size f cdv))) :
    ∃ t,PSs (cxOf CX0 P w K mg base lwN "law" (defScope sLaw) f cdv A outer s H E).nox lwB t ∧
      ∀ (D:Ends) (B:Hp) (x3 x8 x9 x10 x11 x12 x13 x5 x6:Option V) (zq:Str) (a wl il:Addr) (i:Nat) (ns:List Int) (ws:List Str) (xs:List V),SqL K B a (ns.map V.int) → ns.length ≤ 63 → i < 13 → B wl = some (.lst (ws.map V.str)) → ws.length = 6 → (∀ z ∈ ws,smW z) → smW zq → B il = some (.lst xs) → xs.length ≤ 20 →
        (∀ B' y' it' x8',Same B B' → ItAt K B' y' it' → IB it' → D.nx [some (.ref a),some (.ref wl),some (.int (0 + (i:Int))),x3,some (.str zq),x5,x6,some (.ref il),x8',some y',x10,x11,x12,x13] (upd B' il (.lst (xs ++ [y'])))) →
        t D [some (.ref a),some (.ref wl),some (.int (0 + (i:Int))),x3,some (.str zq),x5,x6,some (.ref il),x8,x9,x10,x11,x12,x13] B:=by
  have hr1:Room 1 _:=hr.mono (by decide)
  have hr3:Room 3 _:=hr.mono (by decide)
  obtain ⟨t3,d3,k3⟩:=itm_3 (P:=P) (w:=w) (K:=K) (base:=base) (outer:=outer) (H:=H) (E:=E) GC bC kC mC hr
  obtain ⟨t2,d2,k2⟩:∃ t2,PSs (cxOf CX0 P w K mg base lwN "law" (defScope sLaw) f cdv A outer s H E).nox (List.drop 2 lwB) t2 ∧
      ∀ (D:Ends) (B:Hp) (x3 x9 x10 x11 x12 x13 x5 x6:Option V) (zq:Str) (a wl il lu:Addr) (i:Nat) (ns:List Int) (ws us:List Str) (xs:List V),SqL K B a (ns.map V.int) → ns.length ≤ 63 → i < 13 → B wl = some (.lst (ws.map V.str)) → ws.length = 6 → (∀ z ∈ ws,smW z) → smW zq → B lu = some (.lst (us.map V.str)) → 0 < us.length → (∀ z ∈ us,smW z) → B il = some (.lst xs) → xs.length ≤ 20 →
        (∀ B' y' it',Same B B' → ItAt K B' y' it' → IB it' → D.nx [some (.ref a),some (.ref wl),some (.int (0 + (i:Int))),x3,some (.str zq),x5,x6,some (.ref il),some (.ref lu),some y',x10,x11,x12,x13] (upd B' il (.lst (xs ++ [y'])))) →
        t2 D [some (.ref a),some (.ref wl),some (.int (0 + (i:Int))),x3,some (.str zq),x5,x6,some (.ref il),some (.ref lu),x9,x10,x11,x12,x13] B:=by
    refine ⟨_,pss_cons (ps_set (i:=9) scLaw.nd rfl (Or.inl rfl) (pe_call GM hr3 (by rfl) mM kM bM .nil pass0 (pa_cons (pe_call GC hr1 (by rfl) mC kC bC .nil pass0 (pa_cons (pv 0) (pa_cons (pe_op op_add pe_int (pe_op op_mul pe_int (pv 2))) pa_nil))) (pa_cons (pe_call GC hr1 (by rfl) mC kC bC .nil pass0 (pa_cons (pv 0) (pa_cons (pe_op op_add pe_int (pe_op op_mul pe_int (pv 2))) pa_nil))) (pa_cons (pv 8) (pa_cons (pv 4) pa_nil)))))) d3,?_⟩
    intro D B x3 x9 x10 x11 x12 x13 x5 x6 zq a wl il lu i ns ws us xs hS h63 hi hwl h6 hwo hzq hlu hun huo hil hxl q
    refine ⟨_,rfl,_,rfl,_,_,rfl,rfl,.inl ⟨by omega,by omega⟩,_,_,rfl,rfl,a,ns,_,rfl,hS,h63,by omega,by omega,fun c1 => ?_⟩
    refine ⟨_,rfl,_,rfl,_,_,rfl,rfl,.inl ⟨by omega,by omega⟩,_,_,rfl,rfl,a,ns,_,rfl,hS,h63,by omega,by omega,fun c2 => ?_⟩
    refine ⟨_,rfl,_,rfl,c1,c2,lu,us,zq,rfl,SqL.of hlu,hun,huo,hzq,fun B' y it s' hat ib => ?_⟩
    exact k3 D B' x3 _ x10 x11 x12 x13 x5 x6 _ a wl il y i ns ws xs it (sql_same s' hS) h63 hi (s' _ _ hwl) h6 hwo hat ib (s' _ _ hil) hxl fun B'' y' it' s'' h'' ib'' => q B'' y' it' (s'.trans s'') h'' ib''
  refine ⟨_,pss_cons (ps_set (i:=8) scLaw.nd rfl (Or.inl rfl) (pv 1))
    (pss_cons (ps_if (pt_cmpR op_eq (pe_op op_mod (pe_call GC hr1 (by rfl) mC kC bC .nil pass0 (pa_cons (pv 0) (pa_cons pe_int pa_nil))) pe_int) pe_int (nomark _))
      (pss_one (ps_comp_if (i0:=8) (own:=["_law_j"]) (caps:=["_law_k","_law_words"]) (κ:=[2,1]) scLaw.nd rfl (Or.inl rfl) rfl ⟨rfl,by decide +kernel,by decide +kernel,rfl,rfl,(fun y hy => by simp only [List.mem_cons,List.not_mem_nil,or_false] at hy; rcases hy with rfl | rfl <;> rfl),(fun y hy => by simp only [List.mem_cons,List.not_mem_nil,or_false] at hy; rcases hy with rfl | rfl <;> exact ⟨.inl rfl,rfl,.inl rfl⟩)⟩ rfl
        (pi_range1 (by rfl) mr (pa_cons pe_int pa_nil)) (fun _ _ _ _ => pg_name (i:=0) (show (["_law_j","_law_k","_law_words"]:List Str).Nodup from by decide +kernel) rfl (Or.inl rfl))
        (fun _ _ _ _ => pt_cmpR op_le (pv 0) (pe_op op_fdiv (pv 1) pe_int) (nomark _)) (fun _ _ _ _ => pe_ix (ixLK (K:=K) rfl) (pv 2) (pv 0) (fun _ _ => rfl)))) pss_nil) d2),?_⟩
  intro D B x3 x8 x9 x10 x11 x12 x13 x5 x6 zq a wl il i ns ws xs hS h63 hi hwl h6 hwo hzq hil hxl q
  refine ⟨_,rfl,_,rfl,a,ns,_,rfl,hS,h63,by decide,by decide,fun ce => ?_⟩
  refine ⟨_,_,rfl,rfl,(by show (0:Int) < 2; decide),rfl,_,rfl,ite2 (fun _ => ?_) (fun _ => ?_)⟩
  · refine ⟨_,rfl,by decide,by decide,?_⟩
    refine comp_by (J:=Itr 0 (6:Int).toNat) (xs:=rangeV 0 (6:Int).toNat) (fun n ys H5 => Same B H5 ∧ ∃ us:List Str,ys = us.map V.str ∧ us.length ≤ n ∧ (0 < n → 0 < us.length) ∧ ∀ z ∈ us,smW z) ⟨Same.refl _,[],rfl,Nat.le_refl _,(fun h => absurd h (by decide)),fun z hz => nomatch hz⟩ (by rw [rangeV_len]; decide) ?_ ?_ ?_ ?_ ?_ ?_
    · rintro n ys H5 ⟨_,us,rfl,h1,_⟩
      rw [List.length_map]
      exact h1
    · rintro n x ys H5 hx _
      exact itr_go hx
    · rintro n ys x H5 H' hn _ hy
      rw [rangeV_len] at hn
      exact itr_yld' hn hy
    · rintro ys H5 _
      rw [rangeV_len]
      exact Nat.le_refl _
    · rintro n x ys H5 N hN hx ⟨s5,us,rfl,h1,h2,h3⟩
      obtain ⟨hn2,rfl⟩:=rangeV_get.mp hx
      have hn6:n < 6:=hn2
      refine ⟨rfl,⟨_,rfl,_,rfl,_,_,rfl,rfl,⟨by decide,by decide⟩,_,_,rfl,rfl,_,rfl,ite2 (fun c => ?_) (fun c => ?_)⟩⟩
      · obtain ⟨z,hz,hzat⟩:=at_k (ws:=ws) (i:=n) (by omega)
        refine ⟨_,rfl,_,rfl,wl,_,_,_,rfl,rfl,SqL.of (s5 _ _ hwl),hzat,hN _ _ ⟨s5,us ++ [z],by rw [List.map_append]; rfl,by rw [List.length_append]; simp only [List.length_singleton]; omega,fun _ => by rw [List.length_append]; simp,fun z' hz' => ?_⟩⟩
        rcases List.mem_append.mp hz' with h | h
        · exact h3 z' h
        · rw [List.mem_singleton.mp h]
          exact hwo z hz
      · refine hN _ _ ⟨s5,us,rfl,by omega,fun _ => ?_,h3⟩
        have c':¬ (0 + (n:Int)) ≤ (0 + (i:Int)) / 2:=fun z => c (decide_eq_true z)
        have:0 < n:=by
          rcases Nat.eq_zero_or_pos n with rfl | h
          · exact absurd (by omega) c'
          · exact h
        exact h2 this
    · rintro ys H5 Dl ⟨s5,us,rfl,h1,h2,h3⟩ hD
      rw [rangeV_len] at h1 h2
      have sD:=same_new hD (.lst (us.map V.str))
      have s6:=s5.trans sD
      exact k2 D _ x3 x9 x10 x11 x12 x13 x5 x6 zq a wl il Dl i ns ws us xs (sql_same s6 hS) h63 hi (s6 _ _ hwl) h6 hwo hzq upd_same (h2 (by decide)) h3 (s6 _ _ hil) hxl fun B' y' it' s' h' ib' => q B' y' it' _ (s6.trans s') h' ib'
  · exact k2 D B x3 x9 x10 x11 x12 x13 x5 x6 zq a wl il wl i ns ws ws xs hS h63 hi hwl h6 hwo hzq hwl (by omega) hwo hil hxl fun B' y' it' s' h' ib' => q B' y' it' _ s' h' ib'
end
end K24
namespace K24
open PySem L2 Kk
noncomputable def kl (z W0:Str):List (Str × Kd):=[("out",.name z "out"),("near",.pair (.num 5) (.name "s" W0))]
noncomputable def PGz (z W0:Str):PGt:=fun q => if q = z then some (look (kl z W0)) else none
noncomputable def Gz (z W0:Str):Str × Str → Option Kd:=fun m => if m = (z,("near":Str)) then some (.pair (.num 5) (.name "s" W0)) else if m = (z,("out":Str)) then some (.name z "out") else none
theorem out_near:¬ (("out":Str) = "near"):=by decide +kernel
theorem look_cons {α:Type} (m:List (Str × α)) (k:Str) (x:α) (b:Str):look ((k,x) :: m) b = if k = b then some x else look m b:=by
  unfold look
  rw [List.find?_cons]
  by_cases h:k = b
  · rw [if_pos h]
    simp [h]
  · rw [if_neg h]
    simp [h]
theorem look_kl (z W0 b:Str):look (kl z W0) b = if b = "near" then some (.pair (.num 5) (.name "s" W0)) else if b = "out" then some (.name z "out") else none:=by
  unfold kl
  rw [look_cons,look_cons]
  by_cases h1:b = "out"
  · subst h1
    rw [if_pos rfl,if_neg out_near,if_pos rfl]
  · rw [if_neg (fun z => h1 z.symm),if_neg (c:=b = "out") h1]
    by_cases h2:b = "near"
    · subst h2
      rw [if_pos rfl,if_pos rfl]
    · rw [if_neg (fun z => h2 z.symm),if_neg h2]
      rfl
theorem G_PG (z W0:Str) (n:Str × Str):Gz z W0 n = (PGz z W0 n.1).bind fun g => g n.2:=by
  obtain ⟨a,b⟩:=n
  unfold Gz PGz
  by_cases h:a = z
  · subst h
    show _ = (if a = a then some (look (kl a W0)) else none).bind fun g => g b
    rw [if_pos rfl]
    show _ = look (kl a W0) b
    rw [look_kl]
    have e1:((a,b) = (a,("near":Str))) = (b = "near"):=by simp
    have e2:((a,b) = (a,("out":Str))) = (b = "out"):=by simp
    simp only [e1,e2]
  · show _ = (if a = z then some (look (kl z W0)) else none).bind fun g => g b
    rw [if_neg h,if_neg (fun e => h (congrArg Prod.fst e)),if_neg (fun e => h (congrArg Prod.fst e))]
    rfl
theorem smW_s:smW "s":=⟨by decide +kernel,by decide +kernel⟩
theorem PB_z {z W0:Str} (hz:smW z) (hw:smW W0):PB (PGz z W0):=by
  intro q g t k h1 h2
  unfold PGz at h1
  split at h1
  · cases h1
    rw [look_kl] at h2
    split at h2
    · cases h2
      exact ⟨⟨⟨by decide,by decide⟩,smW_s,hw⟩,by show 1 + 1 + 1 ≤ 40; decide⟩
    · split at h2
      · cases h2
        exact ⟨⟨hz,smW_out⟩,by show 1 ≤ 40; decide⟩
      · cases h2
  · cases h1
theorem parts_z {K:PySem.W.Frag} {B:Hp} {CF fa dx d1:Addr} {fs:List (Str × V)} {kkv:List (Key × V)} {z W0:Str} (h1:B fa = some (.ins CF dx fs)) (h2:fs.lookup ("kinds":Str) = some (.ref d1)) (h3:B d1 = some (.dK kkv)) (h4:PkAt (KdAt K B) kkv (kl z W0)):PartsAt K B CF [(.inr z,.ref fa)] (PGz z W0):=fun q => by
  unfold PGz
  by_cases h:q = z
  · subst h
    exact .inr ⟨.ref fa,look (kl q W0),by unfold valV; simp,if_pos rfl,fa,dx,fs,d1,kkv,rfl,h1,h2,h3,kv_of h4⟩
  · refine .inl ⟨valV_out ?_,if_neg h⟩
    intro hm
    have:=List.mem_singleton.mp hm
    exact h (Sum.inr.inj this)
noncomputable def spLaw (K:PySem.W.Frag):Sp:=fun vs H Q _ => ∃ (a:Addr) (ns:List Int),vs = [.ref a] ∧ SqL K H a (ns.map V.int) ∧ ns.length ≤ 63 ∧ ∀ H',Q (.bl true) H'
section
variable {P:Program} {w:World} {K:PySem.W.Frag} {mg:Str → Option Value} {base:Heap}
section
variable {f:Addr} {cdv:Value} {A:Around} {outer:List Env} {s:Shared} {H:Hp} {E:XK}
set_option maxHeartbeats 0 in
theorem law_7 {CF fi fs fd' fb:Addr} {fdi fds fdd fdb:FuncData} (cF:Cls K CF) (nK:NoAttr K CF "kinds") (mL:mg "list" = none) (mt:mg "tuple" = none) (ml:mg "len" = none) (mi:mg "isinstance" = none)
    (GI:FnOk P w K mg base CX0 1 fi fdi ["self","kinds","funs"] (spInitF CF)) (bI:Binds K fdi ["self","kinds","funs"] []) (MF:Mk K CF fi) (mF:mg "Face" = some (.ref CF))
    (GS:FnOk P w K mg base CX0 43 fs fds saP (spSaid K CF)) (bS:Binds K fds saP []) (kS:PySem.W.keepIn K (.ref fs) = true) (mS:mg "_law_said" = some (.ref fs))
    (GD:FnOk P w K mg base CX0 6 fd' fdd duP (spDue K)) (bD:Binds K fdd duP []) (kD:PySem.W.keepIn K (.ref fd') = true) (mD:mg "_law_due" = some (.ref fd'))
    (GB:FnOk P w K mg base CX0 2 fb fdb beP (spBehind K)) (bB:Binds K fdb beP []) (kB:PySem.W.keepIn K (.ref fb) = true) (mB:mg "_law_behind" = some (.ref fb)) (hr:Room 43 (A.deeper (PyProof.Rows.envOfC "law" (defScope sLaw) s.heap.objs.size f cdv))) :
    ∃ t,PSs (cxOf CX0 P w K mg base lwN "law" (defScope sLaw) f cdv A outer s H E).nox (List.drop 7 (defBody sLaw)) t ∧
      ∀ (D:Ends) (B:Hp) (x0 x1 x2 x3 x8 x9 x10 x11 x12 x13:Option V) (z W0:Str) (wl kd aw il:Addr) (ws:List Str) (kkv:List (Key × V)) (gkv:List (List Key × V)) (xs:List V) (its:List It),FW K B wl kd aw ws kkv gkv (kl z W0) (Gz z W0) → smW z → smW W0 → (∀ p ∈ kkv,∃ c,p.2 = .ref c) → B il = some (.lst xs) → Paired (ItAt K B) xs its → (∀ it ∈ its,IB it) → its.length ≤ 12 → (∀ H',D.rt (.bl true) H') →
        t D [x0,x1,x2,x3,some (.str z),some (.ref kd),some (.ref aw),some (.ref il),x8,x9,x10,x11,x12,x13] B:=by
  have hr2:Room (1 + 1) _:=hr.mono (by decide)
  obtain ⟨t8,d8,k8⟩:=law_9 (P:=P) (w:=w) (K:=K) (base:=base) (outer:=outer) (H:=H) (E:=E) cF nK mL mt ml mi GS bS kS mS GD bD kD mD GB bB kB mB hr
  refine ⟨_,pss_cons (ps_set (i:=10) scLaw.nd rfl (Or.inl rfl) (pe_disp (pps_cons (pv 4) (pe_make MF GI hr2 (by rfl) mF bI .nil pass0 (pa_cons (pv 5) (pa_cons pe_dnewK pa_nil))) pps_nil) rfl rfl (by intro e; cases e) (by decide))) d8,?_⟩
  intro D B x0 x1 x2 x3 x8 x9 x10 x11 x12 x13 z W0 wl kd aw il ws kkv gkv xs its fw hz hw0 hrf hil hits hib h12 q
  intro pp hpp
  have s1:=same_new hpp (.dK [])
  refine ⟨_,rfl,_,rfl,fun e0 he0 => ?_⟩
  have s2:=same_new he0 (.dK [])
  have s12:=s1.trans s2
  have hpp2:=s2 _ _ (upd_same (H:=B) (a:=pp) (o:=.dK []))
  have he2:upd (upd B pp (.dK [])) e0 (.dK []) e0 = some (.dK []):=upd_same
  generalize upd (upd B pp (.dK [])) e0 (.dK []) = B2 at s2 s12 hpp2 he2 ⊢
  refine fun x dx' nx ndx nex => ?_
  have ea:=same_new ndx (.own x)
  have nx':upd B2 dx' (.own x) x = none:=by rw [upd_ne (Ne.symm nex)]; exact nx
  have eb:=same_new nx' (.ins CF dx' [])
  have eab:=ea.trans eb
  refine ⟨x,dx',kd,e0,kkv,[],rfl,upd_same,eab _ _ (s12 _ _ fw.kd),eab _ _ he2,fun d2 e2 fs' H7 hd he nde2 hx lk lf lh lp hd7 he7 keep => ⟨rfl,?_⟩⟩
  have s7:Same B2 H7:=fun b o hb => keep b o (eab _ _ hb) (fun z => by rw [z,nx] at hb; cases hb)
  have s07:=s12.trans s7
  have hp7:=s7 _ _ hpp2
  refine ⟨hp7,[(.inr z,.ref x)],rfl,by show 1 ≤ 15; decide,?_⟩
  have kp:∀ a ys,SqT K H7 a ys → SqT K (upd H7 pp (.dK (mergeK [] [(.inr z,.ref x)]))) a ys:=fun a ys t => sqt_dk hp7 t
  have sF:Same B (upd H7 pp (.dK (mergeK [] [(.inr z,.ref x)]))):=sput s07 hpp
  have fwF:=fw.same sF
  have nxp:x ≠ pp:=fun z => by rw [z,hpp2] at nx; cases nx
  have hxF:upd H7 pp (.dK (mergeK [] [(.inr z,.ref x)])) x = some (.ins CF dx' fs'):=by rw [upd_ne nxp]; exact hx
  have ndp:d2 ≠ pp:=fun z => by
    rw [z,eab _ _ hpp2] at hd
    cases hd
  have hd2F:upd H7 pp (.dK (mergeK [] [(.inr z,.ref x)])) d2 = some (.dK kkv):=by rw [upd_ne ndp]; exact hd7
  have em:mergeK [] [((Sum.inr z:Key),V.ref x)] = [(.inr z,.ref x)]:=rfl
  refine k8 D _ x0 x1 x2 x3 x8 x9 x11 x12 x13 z kd aw il pp xs its (PGz z W0) ⟨⟨gkv,Gz z W0,fwF.aw,fwF.gv,fun n _ => G_PG z W0 n⟩,PB_z hz hw0,sF _ _ hil,Paired.mapP hits fun _ _ h => h.same sF,hib,h12,⟨x,dx',d2,fs',kkv,upd_same,parts_z hxF lk hd2F fwF.pk,hxF,lk,hd2F,fwF.kd,hrf⟩,hz⟩ q
end
set_option maxHeartbeats 0 in
theorem ok_law {f fi fs fd' fb fc fw fm CF:Addr} {fd fdi fds fdd fdb fdc fdw fdm:FuncData} (F:Fun K "law" "law" sLaw f fd) (cF:Cls K CF) (nK:NoAttr K CF "kinds") (mL:mg "list" = none) (mt:mg "tuple" = none) (ml:mg "len" = none) (mi:mg "isinstance" = none) (mr:mg "range" = none)
    (GI:FnOk P w K mg base CX0 1 fi fdi ["self","kinds","funs"] (spInitF CF)) (bI:Binds K fdi ["self","kinds","funs"] []) (MF:Mk K CF fi) (mF:mg "Face" = some (.ref CF))
    (GS:FnOk P w K mg base CX0 43 fs fds saP (spSaid K CF)) (bS:Binds K fds saP []) (kS:PySem.W.keepIn K (.ref fs) = true) (mS:mg "_law_said" = some (.ref fs))
    (GD:FnOk P w K mg base CX0 6 fd' fdd duP (spDue K)) (bD:Binds K fdd duP []) (kD:PySem.W.keepIn K (.ref fd') = true) (mD:mg "_law_due" = some (.ref fd'))
    (GB:FnOk P w K mg base CX0 2 fb fdb beP (spBehind K)) (bB:Binds K fdb beP []) (kB:PySem.W.keepIn K (.ref fb) = true) (mB:mg "_law_behind" = some (.ref fb))
    (GC:FnOk P w K mg base CX0 1 fc fdc ["_law_script","_law_k"] (spCell K)) (bC:Binds K fdc ["_law_script","_law_k"] []) (kC:PySem.W.keepIn K (.ref fc) = true) (mC:mg "_law_cell" = some (.ref fc))
    (GW:FnOk P w K mg base CX0 1 fw fdw ["_law_cell_here"] spWordF) (bW:Binds K fdw ["_law_cell_here"] []) (kW:PySem.W.keepIn K (.ref fw) = true) (mW:mg "_law_word" = some (.ref fw))
    (GM:FnOk P w K mg base CX0 3 fm fdm imP (spItem K)) (bM:Binds K fdm imP []) (kM:PySem.W.keepIn K (.ref fm) = true) (mM:mg "_law_item" = some (.ref fm)):FnOk P w K mg base CX0 44 f fd ["_law_script"] (spLaw K):=by
  refine F.ok scLaw (fun vs H Q E h => ?_) (fun cdv A outer s H vs Q E hr h => ?_)
  · obtain ⟨a,ns,rfl,_⟩:=h
    rfl
  obtain ⟨a,ns,rfl,hS,h63,q⟩:=h
  have hu:=hu_of hr
  have hr1:Room 1 _:=hr.mono (by decide)
  obtain ⟨t7,d7,k7⟩:=law_7 (P:=P) (w:=w) (K:=K) (base:=base) (outer:=outer) (H:=H) (E:=E) cF nK mL mt ml mi GI bI MF mF GS bS kS mS GD bD kD mD GB bB kB mB hr
  obtain ⟨tI,dI,kI⟩:=itm_0 (P:=P) (w:=w) (K:=K) (base:=base) (outer:=outer) (H:=H) (E:=E) GC bC kC mC GM bM kM mM mr hr
  refine ⟨_,pss_cons (ps_set (i:=1) scLaw.nd rfl (Or.inr rfl) (pe_lst pa_nil))
    (pss_cons (ps_for PassesOwn.never rfl (pi_range1 (by rfl) mr (pa_cons pe_int pa_nil)) (pg_name (i:=2) scLaw.nd rfl (Or.inr rfl))
      (pss_cons (ps_set (i:=3) scLaw.nd rfl (Or.inl rfl) (pe_call GC hr1 (by rfl) mC kC bC .nil pass0 (pa_cons (pv 0) (pa_cons (pe_op op_add pe_int (pv 2)) pa_nil))))
      (pss_cons (ps_while PassesOwn.never (pt_cmpR op_in_seq (pe_call GW hr1 (by rfl) mW kW bW .nil pass0 (pa_cons (pv 3) pa_nil)) (pv 1) (by with_unfolding_all rfl))
        (pss_one (ps_set (i:=3) scLaw.nd rfl (Or.inl rfl) (pe_op op_add (pv 3) pe_int))))
      (pss_one (ps_expr (pe_bm PySem.F.plainAttrs_list PySem.F.slot_list_append PySem.F.type_list_append mt_append (pv 1) (pa_cons (pe_call GW hr1 (by rfl) mW kW bW .nil pass0 (pa_cons (pv 3) pa_nil)) pa_nil)))))))
    (pss_cons (ps_set (i:=4) scLaw.nd rfl (Or.inl rfl) (pe_call GW hr1 (by rfl) mW kW bW .nil pass0 (pa_cons (pe_call GC hr1 (by rfl) mC kC bC .nil pass0 (pa_cons (pv 0) (pa_cons pe_int pa_nil))) pa_nil)))
    (pss_cons (ps_set (i:=5) scLaw.nd rfl (Or.inl rfl) (pe_disp (pps_cons pe_str (pe_tup (pa_cons pe_str (pa_cons (pv 4) (pa_cons pe_str pa_nil)))) (pps_cons pe_str (pe_tup (pa_cons pe_str (pa_cons (pe_tup (pa_cons pe_str (pa_cons pe_int pa_nil))) (pa_cons (pe_tup (pa_cons pe_str (pa_cons pe_str (pa_cons (pe_ix ix_list (pv 1) pe_int (fun _ _ => rfl)) pa_nil)))) pa_nil)))) pps_nil)) rfl rfl (by intro e; cases e) (by decide)))
    (pss_cons (ps_set (i:=6) scLaw.nd rfl (Or.inl rfl) (pe_disp2T hu (pe_tup (pa_cons (pv 4) (pa_cons pe_str pa_nil))) (pe_dget hu (pv 5) pe_str (fun _ _ => rfl)) (pe_tup (pa_cons (pv 4) (pa_cons pe_str pa_nil))) (pe_dget hu (pv 5) pe_str (fun _ _ => rfl))))
    (pss_cons (ps_set (i:=7) scLaw.nd rfl (Or.inl rfl) (pe_lst pa_nil))
    (pss_cons (ps_for PassesOwn.never rfl (pi_range1 (by rfl) mr (pa_cons (pe_op op_mod (pe_call GC hr1 (by rfl) mC kC bC .nil pass0 (pa_cons (pv 0) (pa_cons pe_int pa_nil))) pe_int) pa_nil)) (pg_name (i:=2) scLaw.nd rfl (Or.inr rfl)) dI) d7)))))),?_⟩
  refine ⟨(by show 0 ≤ sizeLine; decide),fun l hl => ?_⟩
  refine ⟨_,rfl,by decide,by decide,for_range (fun i σ H2 => ∃ (ws:List Str) (v c:Option V),σ = [some (.ref a),some (.ref l),v,c,none,none,none,none,none,none,none,none,none,none] ∧ Same H H2 ∧ H2 l = some (.lst (ws.map V.str)) ∧ ws.length = i ∧ ∀ z ∈ ws,smW z)
    ⟨[],none,none,rfl,same_new hl _,upd_same,rfl,fun z hz => nomatch hz⟩ ?_ ?_⟩
  · rintro i σ H2 hi ⟨ws,v,c,rfl,sH,hL,hlen,hok⟩
    have hi3:i < 6:=hi
    refine ⟨_,rfl,_,rfl,_,_,rfl,rfl,a,ns,_,rfl,sql_same sH hS,h63,by omega,by omega,fun ce => ?_⟩
    obtain ⟨J,hJ⟩:=fresh_word ws (by omega) ce
    refine while_rel (fun m' σ H3 => ∃ j:Nat,σ = [some (.ref a),some (.ref l),some (.int (0 + (i:Int))),some (.int (ce + (j:Int))),none,none,none,none,none,none,none,none,none,none] ∧ Same H2 H3 ∧ j ≤ J ∧ m' = J - j) (J - 0)
      ⟨0,by rw [show ce + ((0:Nat):Int) = ce by omega] <;> rfl,Same.refl _,Nat.zero_le _,rfl⟩ ?_ ?_
    · rintro m' σ H3 ⟨j,rfl,s3,hj,rfl⟩
      refine ⟨_,rfl,_,rfl,fun H4 s4 => ?_⟩
      have hL4:=s4 _ _ (s3 _ _ hL)
      refine ⟨_,rfl,l,_,rfl,.inl (SqL.of hL4),rfl,flat_strs ws,_,rfl,?_⟩
      refine ite2 (fun c1 => ?_) (fun c1 => ?_)
      · have c1':inV (V.str (wordF (ce + (j:Int)))) (ws.map V.str) = true:=c1
        have hm:=inV_str.mp c1'
        have hne:j ≠ J:=fun e => hJ (e ▸ hm)
        refine ⟨_,rfl,_,_,rfl,rfl,J - (j + 1),by omega,j + 1,?_,same_trans s3 s4,by omega,rfl⟩
        show ([some (.ref a),some (.ref l),some (.int (0 + (i:Int))),some (.int (ce + (j:Int) + 1)),none,none,none,none,none,none,none,none,none,none]:St) = _
        rw [show ce + (j:Int) + 1 = ce + ((j + 1:Nat):Int) by omega]
      · refine ⟨_,rfl,.inl ⟨rfl,_,SqL.of hL4⟩,_,rfl,_,rfl,fun H5 s5 => ?_⟩
        have hL5:=s5 _ _ hL4
        refine ⟨l,_,_,rfl,rfl,hL5,Nat.lt_of_lt_of_le (Nat.lt_succ_self _) (small (by rw [List.length_map]; omega)),?_⟩
        refine ⟨ws ++ [wordF (ce + (j:Int))],_,_,rfl,sput (same_trans sH (same_trans s3 (same_trans s4 s5))) hl,?_,?_,?_⟩
        · rw [upd_same,List.map_append]
          rfl
        · rw [List.length_append,hlen]
          rfl
        · intro z hz
          rcases List.mem_append.mp hz with hz | hz
          · exact hok z hz
          · rw [List.mem_singleton.mp hz]
            exact smW_word _
    · rintro σ H3 Q1 Q2 hq ⟨v1,e1,c1,e2,h1⟩
      refine ⟨v1,e1,c1,e2,fun H4 s4 => ?_⟩
      obtain ⟨v2,e3,p,xs,e4,h2,h3,h4,b,e5,h5⟩:=h1 H4 s4
      exact ⟨v2,e3,p,xs,e4,h2,h3,h4,b,e5,hq _ _ h5⟩
  · rintro σ H2 ⟨ws,v,c,rfl,sH,hL,hlen,hok⟩
    have h6:ws.length = 6:=hlen
    refine ⟨_,rfl,a,ns,_,rfl,sql_same sH hS,h63,by decide,by decide,fun cq => ?_⟩
    refine ⟨cq,rfl,fun H3 s3 => ?_⟩
    have hz:=smW_word cq
    generalize wordF cq = z at hz ⊢
    have hL3:=s3 _ _ hL
    obtain ⟨W0,hW0⟩:∃ W0,ws[0]? = some W0:=⟨_,List.getElem?_eq_getElem (by omega)⟩
    have hw0:=hok W0 (List.mem_of_getElem? hW0)
    have hWat:atI (ws.map V.str) 0 = some (.str W0):=by
      show atI _ ((0:Nat):Int) = _
      exact atI_nat (by rw [List.getElem?_map,hW0]; rfl)
    intro kd hkd
    have s4:=same_new hkd (.dK [])
    refine ⟨_,rfl,(by show 3 ≤ sizeLine; decide),fun p1 hp1 => ?_⟩
    have s5:=same_new hp1 (.tup [.str "name",.str z,.str "out"])
    refine ⟨(by show 2 ≤ sizeLine; decide),fun p2 hp2 => ?_⟩
    have s6:=same_new hp2 (.tup [.str "num",.int 5])
    have s46:=s4.trans (s5.trans s6)
    refine ⟨_,rfl,l,_,_,_,rfl,rfl,SqL.of (s46 _ _ hL3),hWat,(by show 3 ≤ sizeLine; decide),fun p3 hp3 => ⟨(by show 3 ≤ sizeLine; decide),fun p4 hp4 => ?_⟩⟩
    have s7:=same_new hp3 (.tup [.str "name",.str "s",.str W0])
    have s8:=same_new hp4 (.tup [.str "pair",.ref p2,.ref p3])
    have s58:=s5.trans (s6.trans (s7.trans s8))
    have s48:=s4.trans s58
    have hkd8:=s58 _ _ (upd_same (H:=H3) (a:=kd) (o:=.dK []))
    refine ⟨hkd8,[(.inr "out",.ref p1),(.inr "near",.ref p4)],rfl,by show 2 ≤ 15; decide,?_⟩
    have k1:KdAt K _ (.ref p1) (.name z "out"):=.name (SqT.of ((s6.trans (s7.trans s8)) _ _ upd_same))
    have k2:KdAt K _ (.ref p4) (.pair (.num 5) (.name "s" W0)):=.pair (SqT.of upd_same) (.num (SqT.of ((s7.trans s8) _ _ upd_same))) (.name (SqT.of (s8 _ _ upd_same)))
    have sA:Same H3 (upd (upd (upd (upd (upd (upd H3 kd (.dK [])) p1 (.tup [.str "name",.str z,.str "out"])) p2 (.tup [.str "num",.int 5])) p3 (.tup [.str "name",.str "s",.str W0])) p4 (.tup [.str "pair",.ref p2,.ref p3])) kd (.dK (mergeK [] [(.inr "out",.ref p1),(.inr "near",.ref p4)]))):=sput s48 hkd
    have kpA:∀ a ys,SqT K (upd (upd (upd (upd (upd H3 kd (.dK [])) p1 (.tup [.str "name",.str z,.str "out"])) p2 (.tup [.str "num",.int 5])) p3 (.tup [.str "name",.str "s",.str W0])) p4 (.tup [.str "pair",.ref p2,.ref p3])) a ys → SqT K (upd (upd (upd (upd (upd (upd H3 kd (.dK [])) p1 (.tup [.str "name",.str z,.str "out"])) p2 (.tup [.str "num",.int 5])) p3 (.tup [.str "name",.str "s",.str W0])) p4 (.tup [.str "pair",.ref p2,.ref p3])) kd (.dK (mergeK [] [(.inr "out",.ref p1),(.inr "near",.ref p4)]))) a ys:=fun a ys t => sqt_dk hkd8 t
    replace k1:=kd_keep kpA k1
    replace k2:=kd_keep kpA k2
    have em:mergeK [] [((Sum.inr "out":Key),V.ref p1),(Sum.inr "near",V.ref p4)] = [(.inr "out",.ref p1),(.inr "near",.ref p4)]:=by
      show putK [((Sum.inr "out":Key),V.ref p1)] (.inr "near") (.ref p4) = _
      unfold putK
      rw [if_neg]
      · rfl
      · rw [List.any_cons,List.any_nil,decide_eq_false (fun z => out_near (Sum.inr.inj z))]
        decide
    have hkdA:upd (upd (upd (upd (upd (upd H3 kd (.dK [])) p1 (.tup [.str "name",.str z,.str "out"])) p2 (.tup [.str "num",.int 5])) p3 (.tup [.str "name",.str "s",.str W0])) p4 (.tup [.str "pair",.ref p2,.ref p3])) kd (.dK (mergeK [] [(.inr "out",.ref p1),(.inr "near",.ref p4)])) kd = some (.dK [(.inr "out",.ref p1),(.inr "near",.ref p4)]):=by rw [upd_same,em]
    generalize upd (upd (upd (upd (upd (upd H3 kd (.dK [])) p1 (.tup [.str "name",.str z,.str "out"])) p2 (.tup [.str "num",.int 5])) p3 (.tup [.str "name",.str "s",.str W0])) p4 (.tup [.str "pair",.ref p2,.ref p3])) kd (.dK (mergeK [] [(.inr "out",.ref p1),(.inr "near",.ref p4)])) = BA at k1 k2 sA kpA hkdA ⊢
    have v1:valV [((Sum.inr "out":Key),V.ref p1),(.inr "near",.ref p4)] (.inr "out") = some (.ref p1):=by unfold valV; simp
    have v2:valV [((Sum.inr "out":Key),V.ref p1),(.inr "near",.ref p4)] (.inr "near") = some (.ref p4):=by
      unfold valV
      rw [List.find?_cons,decide_eq_false (fun z => out_near (Sum.inr.inj z))]
      simp
    have pkA:PkAt (KdAt K BA) [(.inr "out",.ref p1),(.inr "near",.ref p4)] (kl z W0):=.cons ⟨rfl,k1⟩ (.cons ⟨rfl,k2⟩ .nil)
    have hrf:∀ p ∈ [((Sum.inr "out":Key),V.ref p1),(.inr "near",.ref p4)],∃ c,p.2 = .ref c:=fun p hp => by
      rcases List.mem_cons.mp hp with rfl | hp
      · exact ⟨_,rfl⟩
      · rw [List.mem_singleton.mp hp]
        exact ⟨_,rfl⟩
    intro aw haw
    have sw:=same_new haw (.dT [])
    refine ⟨_,rfl,(by show 2 ≤ sizeLine; decide),fun q1 hq1 => ?_⟩
    have sq1:=same_new hq1 (.tup [.str z,.str "out"])
    have sw1:=sw.trans sq1
    refine ⟨_,rfl,kd,.ref p1,rfl,v1 ▸ DGet.k (k:=.inr "out") (sw1 _ _ hkdA),?_⟩
    refine ⟨_,rfl,(by show 2 ≤ sizeLine; decide),fun q2 hq2 => ?_⟩
    have sq2:=same_new hq2 (.tup [.str z,.str "near"])
    have sw2:=sw1.trans sq2
    have haw2:=(sq1.trans sq2) _ _ (upd_same (H:=BA) (a:=aw) (o:=.dT []))
    refine ⟨_,rfl,kd,.ref p4,rfl,v2 ▸ DGet.k (k:=.inr "near") (sw2 _ _ hkdA),q1,keyN (z,"out"),q2,keyN (z,"near"),rfl,rfl,haw2,sq2 _ _ upd_same,upd_same,?_⟩
    have sB:Same BA (upd (upd (upd (upd BA aw (.dT [])) q1 (.tup [.str z,.str "out"])) q2 (.tup [.str z,.str "near"])) aw (.dT (putK (putK [] (keyN (z,"out")) (.ref p1)) (keyN (z,"near")) (.ref p4)))):=sput sw2 haw
    have hawB:upd (upd (upd (upd BA aw (.dT [])) q1 (.tup [.str z,.str "out"])) q2 (.tup [.str z,.str "near"])) aw (.dT (putK (putK [] (keyN (z,"out")) (.ref p1)) (keyN (z,"near")) (.ref p4))) aw = some (.dT (putK (putK [] (keyN (z,"out")) (.ref p1)) (keyN (z,"near")) (.ref p4))):=upd_same
    generalize upd (upd (upd (upd BA aw (.dT [])) q1 (.tup [.str z,.str "out"])) q2 (.tup [.str z,.str "near"])) aw (.dT (putK (putK [] (keyN (z,"out")) (.ref p1)) (keyN (z,"near")) (.ref p4))) = BB at sB hawB ⊢
    have g0:GvAt K BB [] (fun _ => none):=fun n => .inl ⟨rfl,rfl⟩
    have gB:GvAt K BB (putK (putK [] (keyN (z,"out")) (.ref p1)) (keyN (z,"near")) (.ref p4)) (Gz z W0):=gv_put (gv_put g0 (k1.same sB)) (k2.same sB)
    have sHB:Same H BB:=sH.trans (s3.trans (sA.trans sB))
    have hLB:=(sA.trans sB) _ _ hL3
    have fwB:FW K BB l kd aw ws _ _ (kl z W0) (Gz z W0):=⟨hLB,sB _ _ hkdA,pkA.imp fun _ _ h => h.same sB,hawB,gB⟩
    refine ⟨(by show 0 ≤ sizeLine; decide),fun il hil => ?_⟩
    have si:=same_new hil (.lst [])
    have hil0:H il = none:=sHB.free hil
    have nli:l ≠ il:=ne_of_none hLB hil
    refine ⟨_,rfl,a,ns,_,rfl,sql_same (sHB.trans si) hS,h63,by decide,by decide,fun c0 => ?_⟩
    have r0:=Int.emod_nonneg c0 (show (13:Int) ≠ 0 by decide)
    have r1:=Int.emod_lt_of_pos c0 (show (0:Int) < 13 by decide)
    refine ⟨_,_,rfl,rfl,(by show (0:Int) < 13; decide),_,rfl,by omega,by omega,for_range (fun i σ H5 => ∃ (xs:List V) (its:List It) (x2 x8 x9:Option V),σ = [some (.ref a),some (.ref l),x2,c,some (.str z),some (.ref kd),some (.ref aw),some (.ref il),x8,x9,none,none,none,none] ∧ Same H H5 ∧ FW K H5 l kd aw ws [(.inr "out",.ref p1),(.inr "near",.ref p4)] (putK (putK [] (keyN (z,"out")) (.ref p1)) (keyN (z,"near")) (.ref p4)) (kl z W0) (Gz z W0) ∧ H5 il = some (.lst xs) ∧ Paired (ItAt K H5) xs its ∧ (∀ it ∈ its,IB it) ∧ xs.length = i)
      ⟨[],[],_,none,none,rfl,sHB.trans si,fwB.same si,upd_same,.nil,(fun _ h => nomatch h),rfl⟩ ?_ ?_⟩
    · rintro i σ H5 hi ⟨xs,its,x2,x8,x9,rfl,s5',fw5,hil5,hits,hib,hxl⟩
      refine kI _ H5 c x8 x9 none none none none _ _ z a l il i ns ws xs (sql_same s5' hS) h63 (by omega) fw5.wl h6 hok hz hil5 (by omega) fun B' y' it' x8' sB' hat' ib' => ?_
      have hil':=sB' _ _ hil5
      have kp:∀ a ys,SqT K B' a ys → SqT K (upd B' il (.lst (xs ++ [y']))) a ys:=fun a ys t => sqt_upd hil' t
      refine ⟨xs ++ [y'],its ++ [it'],_,_,_,rfl,sput (s5'.trans sB') hil0,(fw5.same sB').put nli hil',upd_same,paired_snoc (Paired.mapP hits fun _ _ h => h.keep fun a ys t => kp a ys (sB'.tup t)) (hat'.keep kp),fun it h => ?_,by rw [List.length_append,hxl]; rfl⟩
      rcases List.mem_append.mp h with h | h
      · exact hib it h
      · rw [List.mem_singleton.mp h]
        exact ib'
    · rintro σ H5 ⟨xs,its,x2,x8,x9,rfl,s5',fw5,hil5,hits,hib,hxl⟩
      have hxi:xs.length = its.length:=hits.length
      exact k7 _ H5 _ _ x2 c x8 x9 none none none none z W0 l kd aw il ws _ _ xs its fw5 hz hw0 hrf hil5 hits hib (by omega) q
end
end K24
namespace PySem.W.Fast
def tw1644391602716845017:=()
def tw16166794839323518780:=()
def tw9622978800574500455:=()
def tw2735441671738780596:=()
def tw18413524333751380673:=()
def tw7752702575640160869:=()
def tw15630261714703179265:=()
def tw6413591140135758104:=()
def tw989017518149138143:=()
def tw13488603699453425116:=()
def tw17607998115470993566:=()
def tw200378990524156581:=()
def tw7215834652919311817:=()
def tw3487115761389164317:=()
def tw4033279819221639751:=()
def tw5484885491273496876:=()
def tw12401488591112732470:=()
def tw365528799270045619:=()
def tw6559784455811393981:=()
def tw16035094113111789944:=()
def tw6438815628964669831:=()
def tw15739820314703407236:=()
def tw8098298372117524675:=()
def tw13682532652981035731:=()
def tw12731719606219973982:=()
def tw11672446419856062179:=()
def tw4101699187993936957:=()
def tw7887971850870746605:=()
def tw13484140076829472738:=()
def tw14039992913989411035:=()
def tw15653961780177613007:=()
def tw14560902682974446828:=()
def tw2329248240953514928:=()
def tw12027084493916339479:=()
def tw14055973704768061375:=()
def tw10437503950052817967:=()
def tw17344041393719482780:=()
def tw12019631447787925204:=()
def tw7224749369995088891:=()
def tw4742288701961760976:=()
def tw9055483088947402032:=()
def tw8461714894917629083:=()
def tw2249180094902067413:=()
def tw12568315039557474868:=()
def tw2964487900970324600:=()
def tw14148824236103628302:=()
def tw7844393122198697308:=()
def tw14445123838337749660:=()
def tw14532204255085146208:=()
def tw12584765374738835412:=()
def tw843902073079446092:=()
def tw3984324727657631165:=()
def tw2607721107369093055:=()
def tw1574810270846410100:=()
def tw1207477511831935428:=()
def tw8418096180855246415:=()
def tw3668358189667422043:=()
def tw29600858808411508:=()
def tw10646681031619758787:=()
end PySem.W.Fast
namespace L2
open PySem
theorem mem_look {α β:Type} [BEq α] [LawfulBEq α] {a:α} {b:β}:∀ {l:List (α × β)},l.lookup a = some b → (a,b) ∈ l
  | [],h => by cases h
  | p :: r,h => by
    obtain ⟨c,d⟩:=p
    rw [List.lookup_cons] at h
    by_cases e:(a == c) = true
    · rw [e] at h
      have h':d = b:=Option.some.inj h
      rw [eq_of_beq e,h']
      exact .head _
    · rw [Bool.not_eq_true] at e
      rw [e] at h
      exact .tail _ (mem_look h)
theorem walk_z {q:Program} {loose:List Str} {XP:(Str → Option Value) → Heap → Prop} {r:PySem.W.RowW} {d:DefRec} {kwd:List (Str × Expr)} {run:Value → List Value → Sem Value} {K:Params → PySem.W.Frag} {as:List Addr} {n t:Nat}
    (hl:∀ p:Params,as = (K p).map (·.1)) (h:PySem.W.WalkO q loose XP (fun w h => (K w.params).In h) r d kwd run):PySem.W.WalkX q loose XP (PySem.W.X.obsZ as) (PySem.W.X.valZ K n t) r d kwd run:=by
  intro w s₀ s₁ mg mb G y a o pm cd doc dV kV ho hd hcd hD hmg hg args vals as' L hpre hlay hrd hwl hlo
  refine h w s₀ s₁ mg mb G (fun b ob hb => ?_) a o pm cd doc dV kV ho hd hcd hD hmg hg args vals as' hpre hlay hrd hwl hlo
  have e1:as.map s₀.heap.get? = (K w.params).map fun p => some p.2:=congrArg Prod.fst y
  rw [hl w.params,List.map_map] at e1
  have e2:s₀.heap.get? b = some ob:=List.map_inj_left.mp e1 (b,ob) (mem_look hb)
  exact L.keeps b ob e2
end L2
namespace K24
open PySem L2 Kk
set_option maxHeartbeats 0 in
theorem all_mk {l:PySem.W.OpenLaw} {w:World} {K:PySem.W.Frag} {h:Heap} {mg:Str → Option Value} {fa f1 f2 f3 f4 f5 f6 f7 f8 f9 f10 f11 f12 f13 f14 f15 f16 f17 f18:Addr} (X:K.In h) (G:h.Ns mainGlobals mg) (hfa:mg "law" = some (.ref fa))
    {od1 an1 od2 an2 od3 an3 od4 an4 od5 an5 od6 an6 od7 an7 od8 an8 od9 an9 od10 an10 od11 an11 od12 an12 od13 an13 od14 an14 od15 an15 od16 an16 od17 an17 od18 an18:Option Addr} {sl1 sl2 sl3 sl4 sl5 sl6 sl7 sl8 sl9 sl10 sl11 sl12 sl13 sl14 sl15 sl16 sl17 sl18:Array (Option Value)} {oc1 kV1 dc1 pm1 cd1 ct1 oc2 kV2 dc2 pm2 cd2 ct2 oc3 kV3 dc3 pm3 cd3 ct3 oc4 kV4 dc4 pm4 cd4 ct4 oc5 kV5 dc5 pm5 cd5 ct5 oc6 kV6 dc6 pm6 cd6 ct6 oc7 kV7 dc7 pm7 cd7 ct7 oc8 kV8 dc8 pm8 cd8 ct8 oc9 kV9 dc9 pm9 cd9 ct9 oc10 kV10 dc10 pm10 cd10 ct10 oc11 kV11 dc11 pm11 cd11 ct11 oc12 kV12 dc12 pm12 cd12 ct12 oc13 kV13 dc13 pm13 cd13 ct13 oc14 kV14 dc14 pm14 cd14 ct14 oc15 kV15 dc15 pm15 cd15 ct15 oc16 kV16 dc16 pm16 cd16 ct16 oc17 kV17 dc17 pm17 cd17 ct17 oc18 kV18 dc18 pm18 cd18 ct18:Value}
    {CF CW CN CT CR T1 fn fi:Addr} {odn ann odi ani dT1:Option Addr} {sln sli sT1:Array (Option Value)} {ocn kVn dcn pmn cdn ctn oci kVi dci pmi cdi cti oT1:Value} {nT1:Nat} {tk1':Tok}
    (a1:PySem.W.nsIn K mainGlobals "words_in" = some (some (.ref f1))) (l1:K.lookup f1 = some ⟨oc1,od1,.func (PySem.W.fnOf "words_in" "words_in" (defArgs sWords) (defBody sWords) (defScope sWords) .none kV1 dc1 pm1 an1 cd1 ct1),sl1⟩) (c1:PySem.W.codeIn K cd1 "words_in" = true) (k1:PySem.W.keepIn K (.ref f1) = true)
    (a2:PySem.W.nsIn K mainGlobals "names_in" = some (some (.ref f2))) (l2:K.lookup f2 = some ⟨oc2,od2,.func (PySem.W.fnOf "names_in" "names_in" (defArgs sNames) (defBody sNames) (defScope sNames) .none kV2 dc2 pm2 an2 cd2 ct2),sl2⟩) (c2:PySem.W.codeIn K cd2 "names_in" = true) (k2:PySem.W.keepIn K (.ref f2) = true)
    (a3:PySem.W.nsIn K mainGlobals "put" = some (some (.ref f3))) (l3:K.lookup f3 = some ⟨oc3,od3,.func (PySem.W.fnOf "put" "put" (defArgs sPut) (defBody sPut) (defScope sPut) .none kV3 dc3 pm3 an3 cd3 ct3),sl3⟩) (c3:PySem.W.codeIn K cd3 "put" = true) (k3:PySem.W.keepIn K (.ref f3) = true)
    (a4:PySem.W.nsIn K mainGlobals "bounded" = some (some (.ref f4))) (l4:K.lookup f4 = some ⟨oc4,od4,.func (PySem.W.fnOf "bounded" "bounded" (defArgs sBounded) (defBody sBounded) (defScope sBounded) .none kV4 dc4 pm4 an4 cd4 ct4),sl4⟩) (c4:PySem.W.codeIn K cd4 "bounded" = true) (k4:PySem.W.keepIn K (.ref f4) = true)
    (a5:PySem.W.nsIn K mainGlobals "told_kind" = some (some (.ref f5))) (l5:K.lookup f5 = some ⟨oc5,od5,.func (PySem.W.fnOf "told_kind" "told_kind" (defArgs sToldKind) (defBody sToldKind) (defScope sToldKind) .none kV5 dc5 pm5 an5 cd5 ct5),sl5⟩) (c5:PySem.W.codeIn K cd5 "told_kind" = true) (k5:PySem.W.keepIn K (.ref f5) = true)
    (a6:PySem.W.nsIn K mainGlobals "own_name" = some (some (.ref f6))) (l6:K.lookup f6 = some ⟨oc6,od6,.func (PySem.W.fnOf "own_name" "own_name" (defArgs sOwn) (defBody sOwn) (defScope sOwn) .none kV6 dc6 pm6 an6 cd6 ct6),sl6⟩) (c6:PySem.W.codeIn K cd6 "own_name" = true) (k6:PySem.W.keepIn K (.ref f6) = true)
    (a7:PySem.W.nsIn K mainGlobals "face_of" = some (some (.ref f7))) (l7:K.lookup f7 = some ⟨oc7,od7,.func (PySem.W.fnOf "face_of" "face_of" (defArgs sFaceOf) (defBody sFaceOf) (defScope sFaceOf) .none kV7 dc7 pm7 an7 cd7 ct7),sl7⟩) (c7:PySem.W.codeIn K cd7 "face_of" = true) (k7:PySem.W.keepIn K (.ref f7) = true)
    (a8:PySem.W.nsIn K mainGlobals "_law_cell" = some (some (.ref f8))) (l8:K.lookup f8 = some ⟨oc8,od8,.func (PySem.W.fnOf "_law_cell" "_law_cell" (defArgs sCell) (defBody sCell) (defScope sCell) .none kV8 dc8 pm8 an8 cd8 ct8),sl8⟩) (c8:PySem.W.codeIn K cd8 "_law_cell" = true) (k8:PySem.W.keepIn K (.ref f8) = true)
    (a9:PySem.W.nsIn K mainGlobals "_law_word" = some (some (.ref f9))) (l9:K.lookup f9 = some ⟨oc9,od9,.func (PySem.W.fnOf "_law_word" "_law_word" (defArgs sWord) (defBody sWord) (defScope sWord) .none kV9 dc9 pm9 an9 cd9 ct9),sl9⟩) (c9:PySem.W.codeIn K cd9 "_law_word" = true) (k9:PySem.W.keepIn K (.ref f9) = true)
    (a10:PySem.W.nsIn K mainGlobals "_law_leaf" = some (some (.ref f10))) (l10:K.lookup f10 = some ⟨oc10,od10,.func (PySem.W.fnOf "_law_leaf" "_law_leaf" (defArgs sLeaf) (defBody sLeaf) (defScope sLeaf) .none kV10 dc10 pm10 an10 cd10 ct10),sl10⟩) (c10:PySem.W.codeIn K cd10 "_law_leaf" = true) (k10:PySem.W.keepIn K (.ref f10) = true)
    (a11:PySem.W.nsIn K mainGlobals "_law_kind" = some (some (.ref f11))) (l11:K.lookup f11 = some ⟨oc11,od11,.func (PySem.W.fnOf "_law_kind" "_law_kind" (defArgs sKindL) (defBody sKindL) (defScope sKindL) .none kV11 dc11 pm11 an11 cd11 ct11),sl11⟩) (c11:PySem.W.codeIn K cd11 "_law_kind" = true) (k11:PySem.W.keepIn K (.ref f11) = true)
    (a12:PySem.W.nsIn K mainGlobals "_law_out" = some (some (.ref f12))) (l12:K.lookup f12 = some ⟨oc12,od12,.func (PySem.W.fnOf "_law_out" "_law_out" (defArgs sOut) (defBody sOut) (defScope sOut) .none kV12 dc12 pm12 an12 cd12 ct12),sl12⟩) (c12:PySem.W.codeIn K cd12 "_law_out" = true) (k12:PySem.W.keepIn K (.ref f12) = true)
    (a13:PySem.W.nsIn K mainGlobals "_law_size" = some (some (.ref f13))) (l13:K.lookup f13 = some ⟨oc13,od13,.func (PySem.W.fnOf "_law_size" "_law_size" (defArgs sSizeL) (defBody sSizeL) (defScope sSizeL) .none kV13 dc13 pm13 an13 cd13 ct13),sl13⟩) (c13:PySem.W.codeIn K cd13 "_law_size" = true) (k13:PySem.W.keepIn K (.ref f13) = true)
    (a14:PySem.W.nsIn K mainGlobals "_law_item" = some (some (.ref f14))) (l14:K.lookup f14 = some ⟨oc14,od14,.func (PySem.W.fnOf "_law_item" "_law_item" (defArgs sItem) (defBody sItem) (defScope sItem) .none kV14 dc14 pm14 an14 cd14 ct14),sl14⟩) (c14:PySem.W.codeIn K cd14 "_law_item" = true) (k14:PySem.W.keepIn K (.ref f14) = true)
    (a15:PySem.W.nsIn K mainGlobals "_law_due" = some (some (.ref f15))) (l15:K.lookup f15 = some ⟨oc15,od15,.func (PySem.W.fnOf "_law_due" "_law_due" (defArgs sDue) (defBody sDue) (defScope sDue) .none kV15 dc15 pm15 an15 cd15 ct15),sl15⟩) (c15:PySem.W.codeIn K cd15 "_law_due" = true) (k15:PySem.W.keepIn K (.ref f15) = true)
    (a16:PySem.W.nsIn K mainGlobals "_law_behind" = some (some (.ref f16))) (l16:K.lookup f16 = some ⟨oc16,od16,.func (PySem.W.fnOf "_law_behind" "_law_behind" (defArgs sBehind) (defBody sBehind) (defScope sBehind) .none kV16 dc16 pm16 an16 cd16 ct16),sl16⟩) (c16:PySem.W.codeIn K cd16 "_law_behind" = true) (k16:PySem.W.keepIn K (.ref f16) = true)
    (a17:PySem.W.nsIn K mainGlobals "_law_said" = some (some (.ref f17))) (l17:K.lookup f17 = some ⟨oc17,od17,.func (PySem.W.fnOf "_law_said" "_law_said" (defArgs sSaid) (defBody sSaid) (defScope sSaid) .none kV17 dc17 pm17 an17 cd17 ct17),sl17⟩) (c17:PySem.W.codeIn K cd17 "_law_said" = true) (k17:PySem.W.keepIn K (.ref f17) = true)
    (a18:PySem.W.nsIn K mainGlobals "law" = some (some (.ref f18))) (l18:K.lookup f18 = some ⟨oc18,od18,.func (PySem.W.fnOf "law" "law" (defArgs sLaw) (defBody sLaw) (defScope sLaw) .none kV18 dc18 pm18 an18 cd18 ct18),sl18⟩) (c18:PySem.W.codeIn K cd18 "law" = true) (k18:PySem.W.keepIn K (.ref f18) = true)
    (aF:PySem.W.nsIn K mainGlobals "Face" = some (some (.ref CF)))
    (aW:PySem.W.nsIn K mainGlobals "Twice" = some (some (.ref CW)))
    (aN:PySem.W.nsIn K mainGlobals "NoKind" = some (some (.ref CN)))
    (aT:PySem.W.nsIn K mainGlobals "TooBig" = some (some (.ref CT)))
    (aR:PySem.W.nsIn K mainGlobals "Refused" = some (some (.ref CR)))
    (an:PySem.W.nsIn K mainGlobals "normal" = some (some (.ref fn)))
    (ln:K.lookup fn = some ⟨ocn,odn,.func (PySem.W.fnOf "normal" "normal" (defArgs sNormal) (defBody sNormal) (defScope sNormal) (.ref T1) kVn dcn pmn ann cdn ctn),sln⟩)
    (cn:PySem.W.codeIn K cdn "normal" = true)
    (kn:PySem.W.keepIn K (.ref fn) = true)
    (lT1:K.lookup T1 = some ⟨oT1,dT1,.seq #[.int 40 tk1'] nT1,sT1⟩)
    (iF:PySem.W.findIn K (.ref CF) "__init__" = some (some (.ref fi)))
    (li:K.lookup fi = some ⟨oci,odi,.func (PySem.W.fnOf "__init__" "Face.__init__" (defArgs sInit) (defBody sInit) (defScope sInit) .none kVi dci pmi ani cdi cti),sli⟩)
    (ci:PySem.W.codeIn K cdi "Face.__init__" = true)
    (ki:PySem.W.keepIn K (.ref fi) = true)
    (tF:PySem.W.isFn K (.ref fi) = true)
    (mk:PySem.W.makesIn K CF = true)
    (kF:PySem.W.keepIn K (.ref CF) = true)
    (pg:PySem.W.plainGet K CF Str.empty = true)
    (hd:PySem.W.hasDictIn K CF = true)
    (po:PySem.W.plainOver K CF = true)
    (sa:PySem.W.findIn K (.ref CF) "__setattr__" = some (some (.builtin "object.__setattr__")))
    (nK:PySem.W.findIn K (.ref CF) "kinds" = some none)
    (nF:PySem.W.findIn K (.ref CF) "funs" = some none)
    (clF:PySem.W.findIn K (.ref CF) "__class__" = some (some (.builtin "object.__class__")))
    (obF:PySem.W.mroIn K CF (.type "object") = some true)
    (xW:PySem.W.excIn K CW bmVE "ValueError.__new__" = true)
    (xN:PySem.W.excIn K CN bmVE "ValueError.__new__" = true)
    (xT:PySem.W.excIn K CT bmVE "ValueError.__new__" = true)
    (sp:PySem.W.specialIn K (.builtin "object.__class__") "__get__" = some (some (.builtin "getset_descriptor.__get__")))
    (tk1:PySem.W.takesIn K (.builtin "object.__class__") = some true)
    (x1:PySem.W.exmOne K (.ref CW) (.ref CW) = some true)
    (x2:PySem.W.exmOne K (.ref CN) (.ref CW) = some false)
    (x3:PySem.W.exmOne K (.ref CN) (.ref CN) = some true)
    (x4:PySem.W.exmOne K (.ref CT) (.ref CW) = some false)
    (x5:PySem.W.exmOne K (.ref CT) (.ref CN) = some false)
    (x6:PySem.W.exmOne K (.ref CT) (.ref CT) = some true)
    (j1:PySem.W.kitOne K (.ref CW) (.ref CR) = some true)
    (j2:PySem.W.kitOne K (.ref CN) (.type "ValueError") = some true)
    (j3:PySem.W.kitOne K (.ref CT) (.ref CR) = some true)
    (j5:PySem.W.kitOne K (.ref CF) (.ref CF) = some true)
    (isW:(match K.lookup CW with | some ⟨_,_,.cls _,_⟩ => true | _ => false) = true)
    (gaW:PySem.W.findIn K (.ref CW) "__getattribute__" = some (some (.builtin "BaseException.__getattribute__")))
    (ghW:PySem.W.findIn K (.ref CW) "__getattr__" = some none)
    (clW:PySem.W.findIn K (.ref CW) "__class__" = some (some (.builtin "object.__class__")))
    (obW:PySem.W.mroIn K CW (.type "object") = some true)
    (beW:PySem.W.mroIn K CW (.type "BaseException") = some true)
    (isN:(match K.lookup CN with | some ⟨_,_,.cls _,_⟩ => true | _ => false) = true)
    (gaN:PySem.W.findIn K (.ref CN) "__getattribute__" = some (some (.builtin "BaseException.__getattribute__")))
    (ghN:PySem.W.findIn K (.ref CN) "__getattr__" = some none)
    (clN:PySem.W.findIn K (.ref CN) "__class__" = some (some (.builtin "object.__class__")))
    (obN:PySem.W.mroIn K CN (.type "object") = some true)
    (beN:PySem.W.mroIn K CN (.type "BaseException") = some true)
    (isT:(match K.lookup CT with | some ⟨_,_,.cls _,_⟩ => true | _ => false) = true)
    (gaT:PySem.W.findIn K (.ref CT) "__getattribute__" = some (some (.builtin "BaseException.__getattribute__")))
    (ghT:PySem.W.findIn K (.ref CT) "__getattr__" = some none)
    (clT:PySem.W.findIn K (.ref CT) "__class__" = some (some (.builtin "object.__class__")))
    (obT:PySem.W.mroIn K CT (.type "object") = some true)
    (beT:PySem.W.mroIn K CT (.type "BaseException") = some true)
    (z1:PySem.W.nsIn K mainGlobals "len" = some none)
    (z2:PySem.W.nsIn K mainGlobals "list" = some none)
    (z3:PySem.W.nsIn K mainGlobals "range" = some none)
    (z4:PySem.W.nsIn K mainGlobals "dict" = some none)
    (z5:PySem.W.nsIn K mainGlobals "tuple" = some none)
    (z6:PySem.W.nsIn K mainGlobals "max" = some none)
    (z7:PySem.W.nsIn K mainGlobals "int" = some none)
    (z8:PySem.W.nsIn K mainGlobals "isinstance" = some none)
    (z9:PySem.W.nsIn K mainGlobals "ValueError" = some none) :
    ∃ fd:FuncData,(∀ (s:Shared) (v:Value),BindsTo s fd ⟨[v],[]⟩ [("_law_script",v)]) ∧ ∀ base:Heap,K.In base → base.Ns mainGlobals mg → FnOk l.prog w K mg base CX0 44 fa fd ["_law_script"] (spLaw K):=by
  have e:=hfa.symm.trans (PySem.W.mg_of X G a18)
  cases e
  have F1:=fun_mk (st:=sWords) l1 c1 k1
  have F2:=fun_mk (st:=sNames) l2 c2 k2
  have F3:=fun_mk (st:=sPut) l3 c3 k3
  have F4:=fun_mk (st:=sBounded) l4 c4 k4
  have F5:=fun_mk (st:=sToldKind) l5 c5 k5
  have F6:=fun_mk (st:=sOwn) l6 c6 k6
  have F7:=fun_mk (st:=sFaceOf) l7 c7 k7
  have F8:=fun_mk (st:=sCell) l8 c8 k8
  have F9:=fun_mk (st:=sWord) l9 c9 k9
  have F10:=fun_mk (st:=sLeaf) l10 c10 k10
  have F11:=fun_mk (st:=sKindL) l11 c11 k11
  have F12:=fun_mk (st:=sOut) l12 c12 k12
  have F13:=fun_mk (st:=sSizeL) l13 c13 k13
  have F14:=fun_mk (st:=sItem) l14 c14 k14
  have F15:=fun_mk (st:=sDue) l15 c15 k15
  have F16:=fun_mk (st:=sBehind) l16 c16 k16
  have F17:=fun_mk (st:=sSaid) l17 c17 k17
  have F18:=fun_mk (st:=sLaw) l18 c18 k18
  have b1:=F1.binds (ps:=["kind"]) fun _ _ _ _ _ _ us hl => match us,hl with | [_],_ => rfl
  have b2:=F2.binds (ps:=["kind"]) fun _ _ _ _ _ _ us hl => match us,hl with | [_],_ => rfl
  have b3:=F3.binds (ps:=["kind","given"]) fun _ _ _ _ _ _ us hl => match us,hl with | [_,_],_ => rfl
  have b4:=F4.binds (ps:=["kind","most"]) fun _ _ _ _ _ _ us hl => match us,hl with | [_,_],_ => rfl
  have b5:=F5.binds (ps:=["part","word","own","parts"]) fun _ _ _ _ _ _ us hl => match us,hl with | [_,_,_,_],_ => rfl
  have b6:=F6.binds (ps:=["word"]) fun _ _ _ _ _ _ us hl => match us,hl with | [_],_ => rfl
  have b7:=F7.binds (ps:=["items","parts"]) fun _ _ _ _ _ _ us hl => match us,hl with | [_,_],_ => rfl
  have b8:=F8.binds (ps:=["_law_script","_law_k"]) fun _ _ _ _ _ _ us hl => match us,hl with | [_,_],_ => rfl
  have b9:=F9.binds (ps:=["_law_cell_here"]) fun _ _ _ _ _ _ us hl => match us,hl with | [_],_ => rfl
  have b10:=F10.binds (ps:=["_law_cell_here","_law_words","_law_q"]) fun _ _ _ _ _ _ us hl => match us,hl with | [_,_,_],_ => rfl
  have b11:=F11.binds (ps:=["_law_cell_here","_law_words","_law_q"]) fun _ _ _ _ _ _ us hl => match us,hl with | [_,_,_],_ => rfl
  have b12:=F12.binds (ps:=["_law_kind_here","_law_own","_law_away"]) fun _ _ _ _ _ _ us hl => match us,hl with | [_,_,_],_ => rfl
  have b13:=F13.binds (ps:=["_law_kind_here"]) fun _ _ _ _ _ _ us hl => match us,hl with | [_],_ => rfl
  have b14:=F14.binds (ps:=["_law_cell_here","_law_other","_law_words","_law_q"]) fun _ _ _ _ _ _ us hl => match us,hl with | [_,_,_,_],_ => rfl
  have b15:=F15.binds (ps:=["_law_items","_law_away"]) fun _ _ _ _ _ _ us hl => match us,hl with | [_,_],_ => rfl
  have b16:=F16.binds (ps:=["_law_item_here","_law_due_here"]) fun _ _ _ _ _ _ us hl => match us,hl with | [_,_],_ => rfl
  have b17:=F17.binds (ps:=["_law_items","_law_parts"]) fun _ _ _ _ _ _ us hl => match us,hl with | [_,_],_ => rfl
  refine ⟨PySem.W.fnOf "law" "law" (defArgs sLaw) (defBody sLaw) (defScope sLaw) .none kV18 dc18 pm18 an18 cd18 ct18,fun s v => .of_eq rfl,fun base _ _ => ?_⟩
  have FNo:FunD K "normal" "normal" sNormal (.ref T1) fn (PySem.W.fnOf "normal" "normal" (defArgs sNormal) (defBody sNormal) (defScope sNormal) (.ref T1) kVn dcn pmn ann cdn ctn):=⟨⟨ocn,odn,kVn,dcn,pmn,ann,cdn,ctn,sln,rfl,ln,cn⟩,kn⟩
  have Fi:=fun_mk (st:=sInit) li ci ki
  have bI:=Fi.binds (ps:=["self","kinds","funs"]) fun _ _ _ _ _ _ us hl => match us,hl with | [_,_,_],_ => rfl
  have MF:Mk K CF fi:=⟨mk,iF,tF,kF⟩
  have cF:Cls K CF:=⟨pg,hd,po,sa⟩
  have cW:ExcCls K CW:=⟨isW,gaW,ghW,clW,sp,tk1,obW,beW⟩
  have cN:ExcCls K CN:=⟨isN,gaN,ghN,clN,sp,tk1,obN,beN⟩
  have cT:ExcCls K CT:=⟨isT,gaT,ghT,clT,sp,tk1,obT,beT⟩
  have GWi:=ok_words (P:=l.prog) (w:=w) (base:=base) (mg:=mg) F1 (PySem.W.mg_none_of X G z1)
  have GNa:=ok_names (P:=l.prog) (w:=w) (base:=base) (mg:=mg) F2 (PySem.W.mg_none_of X G z1) (PySem.W.mg_none_of X G z2)
  have GP4:=ok_put (P:=l.prog) (w:=w) (base:=base) (mg:=mg) F3 b3 k3 (PySem.W.mg_of X G a3) 40
  have GB:=ok_bounded (P:=l.prog) (w:=w) (base:=base) (mg:=mg) F4 GWi b1 k1 (PySem.W.mg_of X G a1) (PySem.W.mg_of X G aT) xT
  have GTK:=ok_toldKind (P:=l.prog) (w:=w) (base:=base) (mg:=mg) F5 cF nK (PySem.W.mg_of X G aN) xN
  have GNo:=ok_normal (P:=l.prog) (w:=w) (base:=base) (mg:=mg) FNo GNa b2 k2 (PySem.W.mg_of X G a2) GP4 b3 k3 (PySem.W.mg_of X G a3) GB b4 k4 (PySem.W.mg_of X G a4) GTK b5 k5 (PySem.W.mg_of X G a5)
  have GO:=ok_own (P:=l.prog) (w:=w) (base:=base) (mg:=mg) F6
  have GI:=ok_initF (P:=l.prog) (w:=w) (base:=base) (mg:=mg) Fi cF nK nF (PySem.W.mg_none_of X G z4)
  have GA:=ok_faceOf (P:=l.prog) (w:=w) (base:=base) (mg:=mg) F7 FNo lT1 GNo kn (PySem.W.mg_of X G an) GO b6 k6 (PySem.W.mg_of X G a6) GI bI MF (PySem.W.mg_of X G aF) (PySem.W.mg_none_of X G z5) (PySem.W.mg_of X G aW) xW
  have GC:=ok_cell (P:=l.prog) (w:=w) (base:=base) (mg:=mg) F8 (PySem.W.mg_none_of X G z1)
  have GW:=ok_wordF (P:=l.prog) (w:=w) (base:=base) (mg:=mg) F9
  have GLf:=ok_leaf (P:=l.prog) (w:=w) (base:=base) (mg:=mg) F10 (PySem.W.mg_none_of X G z1)
  have GK:=ok_kindL (P:=l.prog) (w:=w) (base:=base) (mg:=mg) F11 GLf b10 k10 (PySem.W.mg_of X G a10)
  have GOu:=ok_out (P:=l.prog) (w:=w) (base:=base) (mg:=mg) F12 b12 k12 (PySem.W.mg_of X G a12) 5
  have GZ:=ok_sizeL (P:=l.prog) (w:=w) (base:=base) (mg:=mg) F13 (PySem.W.mg_none_of X G z1)
  have GM:=ok_item (P:=l.prog) (w:=w) (base:=base) (mg:=mg) F14 GK b11 k11 (PySem.W.mg_of X G a11) (PySem.W.mg_none_of X G z1) (PySem.W.mg_none_of X G z3) (PySem.W.mg_none_of X G z5)
  have GD:=ok_due (P:=l.prog) (w:=w) (base:=base) (mg:=mg) F15 (PySem.W.mg_none_of X G z5) (PySem.W.mg_none_of X G z6) (PySem.W.mg_none_of X G z7) (PySem.W.mg_none_of X G z2) GZ b13 k13 (PySem.W.mg_of X G a13) GOu b12 k12 (PySem.W.mg_of X G a12)
  have GBe:=ok_behind (P:=l.prog) (w:=w) (base:=base) (mg:=mg) F16 (PySem.W.mg_none_of X G z8) (PySem.W.mg_none_of X G z5) (PySem.W.mg_none_of X G z2) (PySem.W.mg_none_of X G z4) (PySem.W.mg_none_of X G z1)
  have GS:=ok_said (P:=l.prog) (w:=w) (base:=base) (mg:=mg) F17 GA b7 k7 (PySem.W.mg_of X G a7) (PySem.W.mg_of X G aW) (PySem.W.mg_of X G aN) (PySem.W.mg_of X G aT) (PySem.W.mg_of X G aR) (PySem.W.mg_of X G aF) (PySem.W.mg_none_of X G z9) (PySem.W.mg_none_of X G z8) (PySem.W.mg_none_of X G z7) (PySem.W.mg_none_of X G z2) cW cN cT cF nK nF x1 x2 x3 x4 x5 x6 j1 j2 j3 j5 clF sp tk1 obF
  exact ok_law F18 cF nK (PySem.W.mg_none_of X G z2) (PySem.W.mg_none_of X G z5) (PySem.W.mg_none_of X G z1) (PySem.W.mg_none_of X G z8) (PySem.W.mg_none_of X G z3) GI bI MF (PySem.W.mg_of X G aF) GS b17 k17 (PySem.W.mg_of X G a17) GD b15 k15 (PySem.W.mg_of X G a15) GBe b16 k16 (PySem.W.mg_of X G a16) GC b8 k8 (PySem.W.mg_of X G a8) GW b9 k9 (PySem.W.mg_of X G a9) GM b14 k14 (PySem.W.mg_of X G a14)
theorem walk {l:PySem.W.OpenLaw} {q:Program} {loose:List Str} {XP:(Str → Option Value) → Heap → Prop} {YP:World → Heap → Prop} {d:DefRec} {K:Params → PySem.W.Frag} (hn:l.most = some 63) (hdf:d.params.defaults = [])
    (hY:∀ (w:World) (h:Heap),YP w h → (K w.params).In h)
    (F:∀ (w:World) (mg:Str → Option Value) (fa:Addr) (h:Heap),(K w.params).In h → h.Ns mainGlobals mg → mg d.name = some (.ref fa) →
      ∃ fd:FuncData,(∀ (s:Shared) (u:Value),BindsTo s fd ⟨[u],[]⟩ [("_law_script",u)]) ∧ ∀ base:Heap,(K w.params).In base → base.Ns mainGlobals mg → FnOk l.prog w (K w.params) mg base CX0 44 fa fd ["_law_script"] (spLaw (K w.params))) :
    PySem.W.WalkO q loose XP YP l.row.toRowW d [] (fun f vs => PySem.call f vs) :=
  L2.walk_of (n:=63) (k:=44) (x:="_law_script") (CX:=fun _ => CX0) (sp:=fun w => spLaw (K w.params)) hn (by decide) hdf ⟨rfl,by decide,by decide,rfl⟩ hY F (fun _ _ a ns hl _ hS => ⟨a,ns,rfl,hS,hl,fun _ => rfl⟩) fun _ _ _ _ _ z => z
end K24
open PySem PySem.W PyProof.Rows
set_option maxRecDepth 100000 in
set_option maxHeartbeats 0 in
theorem PySem.Challenge.cw_sealhouse_k24_faces_declared_holds : PySem.Challenge.rw_sealhouse_k24_faces_declared.Holds := by
  w_on; o_law; z_head; (case hw => w_witness2)
  k_fill
  refine L2.walk_z (fun _ => rfl) ?_
  refine K24.walk (l:=PySem.Challenge.rw_sealhouse_k24_faces_declared) rfl rfl (fun w h Y => Y) ?F
  case F =>
    intro w mg fa h KX G hmg
    refine' K24.all_mk KX G hmg ?a1 ?l1 ?c1 ?k1 ?a2 ?l2 ?c2 ?k2 ?a3 ?l3 ?c3 ?k3 ?a4 ?l4 ?c4 ?k4 ?a5 ?l5 ?c5 ?k5 ?a6 ?l6 ?c6 ?k6 ?a7 ?l7 ?c7 ?k7 ?a8 ?l8 ?c8 ?k8 ?a9 ?l9 ?c9 ?k9 ?a10 ?l10 ?c10 ?k10 ?a11 ?l11 ?c11 ?k11 ?a12 ?l12 ?c12 ?k12 ?a13 ?l13 ?c13 ?k13 ?a14 ?l14 ?c14 ?k14 ?a15 ?l15 ?c15 ?k15 ?a16 ?l16 ?c16 ?k16 ?a17 ?l17 ?c17 ?k17 ?a18 ?l18 ?c18 ?k18 ?aF ?aW ?aN ?aT ?aR ?an ?ln ?cn ?kn ?lT1 ?iF ?li ?ci ?ki ?tF ?mk ?kF ?pg ?hd ?po ?sa ?nK ?nF ?clF ?obF ?xW ?xN ?xT ?sp ?tk1 ?x1 ?x2 ?x3 ?x4 ?x5 ?x6 ?j1 ?j2 ?j3 ?j5 ?isW ?gaW ?ghW ?clW ?obW ?beW ?isN ?gaN ?ghN ?clN ?obN ?beN ?isT ?gaT ?ghT ?clT ?obT ?beT ?z1 ?z2 ?z3 ?z4 ?z5 ?z6 ?z7 ?z8 ?z9
    (case a1 => k_is)
    (case l1 => k_is)
    (case c1 => k_is)
    (case k1 => k_is)
    (case a2 => k_is)
    (case l2 => k_is)
    (case c2 => k_is)
    (case k2 => k_is)
    (case a3 => k_is)
    (case l3 => k_is)
    (case c3 => k_is)
    (case k3 => k_is)
    (case a4 => k_is)
    (case l4 => k_is)
    (case c4 => k_is)
    (case k4 => k_is)
    (case a5 => k_is)
    (case l5 => k_is)
    (case c5 => k_is)
    (case k5 => k_is)
    (case a6 => k_is)
    (case l6 => k_is)
    (case c6 => k_is)
    (case k6 => k_is)
    (case a7 => k_is)
    (case l7 => k_is)
    (case c7 => k_is)
    (case k7 => k_is)
    (case a8 => k_is)
    (case l8 => k_is)
    (case c8 => k_is)
    (case k8 => k_is)
    (case a9 => k_is)
    (case l9 => k_is)
    (case c9 => k_is)
    (case k9 => k_is)
    (case a10 => k_is)
    (case l10 => k_is)
    (case c10 => k_is)
    (case k10 => k_is)
    (case a11 => k_is)
    (case l11 => k_is)
    (case c11 => k_is)
    (case k11 => k_is)
    (case a12 => k_is)
    (case l12 => k_is)
    (case c12 => k_is)
    (case k12 => k_is)
    (case a13 => k_is)
    (case l13 => k_is)
    (case c13 => k_is)
    (case k13 => k_is)
    (case a14 => k_is)
    (case l14 => k_is)
    (case c14 => k_is)
    (case k14 => k_is)
    (case a15 => k_is)
    (case l15 => k_is)
    (case c15 => k_is)
    (case k15 => k_is)
    (case a16 => k_is)
    (case l16 => k_is)
    (case c16 => k_is)
    (case k16 => k_is)
    (case a17 => k_is)
    (case l17 => k_is)
    (case c17 => k_is)
    (case k17 => k_is)
    (case a18 => k_is)
    (case l18 => k_is)
    (case c18 => k_is)
    (case k18 => k_is)
    (case aF => k_is)
    (case aW => k_is)
    (case aN => k_is)
    (case aT => k_is)
    (case aR => k_is)
    (case an => k_is)
    (case ln => k_is)
    (case cn => k_is)
    (case kn => k_is)
    (case lT1 => k_is)
    (case iF => k_is)
    (case li => k_is)
    (case ci => k_is)
    (case ki => k_is)
    (case tF => k_is)
    (case mk => k_is)
    (case kF => k_is)
    (case pg => k_is)
    (case hd => k_is)
    (case po => k_is)
    (case sa => k_is)
    (case nK => k_is)
    (case nF => k_is)
    (case clF => k_is)
    (case obF => k_is)
    (case xW => with_unfolding_all exact rfl)
    (case xN => with_unfolding_all exact rfl)
    (case xT => with_unfolding_all exact rfl)
    (case sp => k_is)
    (case tk1 => k_is)
    (case x1 => exact rfl)
    (case x2 => exact rfl)
    (case x3 => exact rfl)
    (case x4 => exact rfl)
    (case x5 => exact rfl)
    (case x6 => exact rfl)
    (case j1 => exact rfl)
    (case j2 => exact rfl)
    (case j3 => exact rfl)
    (case j5 => exact rfl)
    (case isW => exact rfl)
    (case gaW => k_is)
    (case ghW => k_is)
    (case clW => k_is)
    (case obW => k_is)
    (case beW => k_is)
    (case isN => exact rfl)
    (case gaN => k_is)
    (case ghN => k_is)
    (case clN => k_is)
    (case obN => k_is)
    (case beN => k_is)
    (case isT => exact rfl)
    (case gaT => k_is)
    (case ghT => k_is)
    (case clT => k_is)
    (case obT => k_is)
    (case beT => k_is)
    (case z1 => k_is)
    (case z2 => k_is)
    (case z3 => k_is)
    (case z4 => k_is)
    (case z5 => k_is)
    (case z6 => k_is)
    (case z7 => k_is)
    (case z8 => k_is)
    (case z9 => k_is)
#print axioms PySem.Challenge.cw_sealhouse_k24_faces_declared_holds
