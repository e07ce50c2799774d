import PyProof.Rows.All
import Wide.All
import OpenK.AllK
import Wide.FinOn
import Lean
import PyProof.EqAt
import PyProof.EqKinds
import PyProof.TupleCall
import PySem.Challenge.RW_sealhouse_k29_faces_of_sixteen
noncomputable section
set_option Elab.async false
set_option linter.all false
set_option maxRecDepth 100000
namespace L2
open PySem PySem.Spec PyProof.Rows
noncomputable abbrev Key:=Sum Int Str
noncomputable def keyIs:Key → Value → Bool
  | .inl k,v => Value.isInt k v
  | .inr x,v => Value.isStrOf x v
noncomputable def keyH (w:World):Key → Int
  | .inl k => hashInt k
  | .inr x => hashStr w x
theorem keyIs_shape:∀ {k:Key} {v:Value},keyIs k v = true → (∃ i t,k = Sum.inl i ∧ v = Value.int i t) ∨ (∃ x t,k = Sum.inr x ∧ v = Value.str x t)
  | .inl i,v,h => by
    obtain ⟨t,e⟩:=Value.isInt_shape (k:=i) (v:=v) h
    exact .inl ⟨i,t,rfl,e⟩
  | .inr x,v,h => by
    obtain ⟨t,e⟩:=Value.isStrOf_shape (x:=x) (v:=v) h
    exact .inr ⟨x,t,rfl,e⟩
theorem keyIs_int (i:Int) (t:Tok):keyIs (.inl i) (.int i t) = true:=by simp [keyIs,Value.isInt]
theorem keyIs_str (x:Str) (t:Tok):keyIs (.inr x) (.str x t) = true:=by simp [keyIs,Value.isStrOf]
theorem key_ll (a b:Int):decide ((Sum.inl a:Key) = Sum.inl b) = (a == b):=by
  by_cases e:a = b
  · subst e; simp
  · have h:¬ (Sum.inl a:Key) = Sum.inl b:=fun q => e (Sum.inl.inj q)
    rw [decide_eq_false h]
    exact (beq_eq_false_iff_ne.mpr e).symm
theorem key_rr (a b:Str):decide ((Sum.inr a:Key) = Sum.inr b) = decide (a = b):=by
  by_cases e:a = b
  · subst e; simp
  · have h:¬ (Sum.inr a:Key) = Sum.inr b:=fun q => e (Sum.inr.inj q)
    rw [decide_eq_false h,decide_eq_false e]
theorem key_lr (a:Int) (b:Str):decide ((Sum.inl a:Key) = Sum.inr b) = false:=decide_eq_false (fun q => nomatch q)
theorem key_rl (a:Str) (b:Int):decide ((Sum.inr a:Key) = Sum.inl b) = false:=decide_eq_false (fun q => nomatch q)
noncomputable def mixKind (prog:Program) (w:World):PySem.KeyKind prog w Key where
  is:=keyIs
  hash:=keyH w
  inj:=fun v a b ha hb => by
    rcases keyIs_shape ha with ⟨i,t,rfl,rfl⟩ | ⟨x,t,rfl,rfl⟩
    · rcases keyIs_shape hb with ⟨j,u,rfl,e⟩ | ⟨y,u,rfl,e⟩
      · injection e with e1 _; rw [e1]
      · exact nomatch e
    · rcases keyIs_shape hb with ⟨j,u,rfl,e⟩ | ⟨y,u,rfl,e⟩
      · exact nomatch e
      · injection e with e1 _; rw [e1]
  byValue:=fun k v h => by
    rcases keyIs_shape h with ⟨i,t,rfl,rfl⟩ | ⟨x,t,rfl,rfl⟩ <;> rfl
  pyHash:=fun hv h => by
    rcases keyIs_shape hv with ⟨i,t,rfl,rfl⟩ | ⟨x,t,rfl,rfl⟩
    · exact wpAny_pyHash_int h
    · exact wpAny_pyHash_str h
  eqBool:=fun hu hv h => by
    rcases keyIs_shape hu with ⟨i,t,rfl,rfl⟩ | ⟨x,t,rfl,rfl⟩
    · rcases keyIs_shape hv with ⟨j,u,rfl,rfl⟩ | ⟨y,u,rfl,rfl⟩
      · rw [key_ll] at h; exact wpAny_eqBool_int h
      · rw [key_lr] at h; exact SeqAt.EqAt.int_str i t y u _ _ _ _ h
    · rcases keyIs_shape hv with ⟨j,u,rfl,rfl⟩ | ⟨y,u,rfl,rfl⟩
      · rw [key_rl] at h; exact SeqAt.EqAt.str_int x t j u _ _ _ _ h
      · rw [key_rr] at h; exact wpAny_eqBool_str h
  «strs»:=fun k x t v h => by
    rcases keyIs_shape h with ⟨i,u,rfl,e⟩ | ⟨y,u,rfl,e⟩
    · exact nomatch e
    · injection e with e1 _
      subst e1
      cases v <;> rfl
theorem mixKind_is (prog:Program) (w:World) (k:Key) (v:Value):(mixKind prog w).is k v = keyIs k v:=rfl
theorem mixKind_int (prog:Program) (w:World) (i:Int) (t:Tok):(mixKind prog w).is (.inl i) (.int i t) = true:=keyIs_int i t
theorem mixKind_str (prog:Program) (w:World) (x:Str) (t:Tok):(mixKind prog w).is (.inr x) (.str x t) = true:=keyIs_str x t
end L2
namespace L2
open PySem PySem.Spec PyProof.Rows
inductive V where
  | non | bl (b:Bool) | int (i:Int) | str (x:Str) | byt (b:Array UInt8) | flt (b:UInt64) | ref (a:Addr) | ty (n:String)
  deriving DecidableEq
noncomputable def RelV:V → Value → Prop
  | .non,u => u = Value.none
  | .bl b,u => u = Value.bool b
  | .int i,u => ∃ t,u = Value.int i t
  | .str x,u => ∃ t,u = Value.str x t
  | .byt b,u => ∃ t,u = Value.bytes b t
  | .flt b,u => ∃ t,u = Value.float b t
  | .ref a,u => u = Value.ref a
  | .ty n,u => u = Value.type n
noncomputable abbrev Vals:List V → List Value → Prop:=Paired RelV
theorem Vals.length {xs:List V} {us:List Value} (r:Vals xs us):xs.length = us.length:=Paired.length r
theorem Vals.get:∀ {xs:List V} {us:List Value} {i:Nat} {x:V},Vals xs us → xs[i]? = some x → ∃ u,us[i]? = some u ∧ RelV x u
  | _,_,_,_,.nil,e => by simp at e
  | _,_,0,_,.cons r _,e => by simp at e; subst e; exact ⟨_,rfl,r⟩
  | _,_,i + 1,x,.cons _ t,e => by
    obtain ⟨u,h1,h2⟩:=Vals.get (i:=i) (x:=x) t (by simpa using e)
    exact ⟨u,by simpa using h1,h2⟩
theorem Vals.append:∀ {xs ys:List V} {us ws:List Value},Vals xs us → Vals ys ws → Vals (xs ++ ys) (us ++ ws)
  | _,_,_,_,.nil,s => s
  | _,_,_,_,.cons r t,s => .cons r (Vals.append t s)
noncomputable def RelO:Option V → Option Value → Prop
  | some v,some u => RelV v u
  | none,none => True
  | _,_ => False
noncomputable def KV {κ:Type}:List (κ × V) → List (κ × Value) → Prop:=Paired fun (p:κ × V) (q:κ × Value) => p.1 = q.1 ∧ RelV p.2 q.2
noncomputable def kV:Key → V
  | .inl i => .int i
  | .inr x => .str x
inductive HO where
  | lst (xs:List V)
  | tup (xs:List V)
  | dK (kvs:List (Key × V)) | dT (kvs:List (List Key × V))
  | set (S:Int → Bool) (n:Nat)
  | ins (C dx:Addr) (fs:List (Str × V))
  | own (x:Addr)
  | xd (fs:List (Str × V))
  | met (f x:Addr)
  | rng (lo hi:Int)
  | frz (o:Obj) (u:HO)
  | tbl (ps:Array Value)
  | ext (φ:Heap → Prop)
noncomputable abbrev Hp:=Addr → Option HO
noncomputable def upd (H:Hp) (a:Addr) (o:HO):Hp:=fun b => if b = a then some o else H b
theorem upd_same {H:Hp} {a:Addr} {o:HO}:upd H a o a = some o:=by unfold upd; rw [if_pos rfl]
theorem upd_ne {H:Hp} {a b:Addr} {o:HO} (h:b ≠ a):upd H a o b = H b:=by unfold upd; rw [if_neg h]
theorem upd_upd {H:Hp} {a:Addr} {o u:HO}:upd (upd H a o) a u = upd H a u:=by
  funext b; unfold upd; split <;> rfl
theorem ne_of {H:Hp} {a b:Addr} {o u:HO} (h:H a = some o) (h':H b = some u) (d:o ≠ u):a ≠ b:=by
  intro e; subst e; rw [h] at h'; exact d (Option.some.inj h')
theorem ne_of_none {H:Hp} {a b:Addr} {o:HO} (h:H a = some o) (h':H b = none):a ≠ b:=by
  intro e; subst e; rw [h] at h'; cases h'
section
variable (P:Program) (w:World)
noncomputable def ObjOk (H:Hp) (h:Heap) (a:Addr):HO → Prop
  | .lst xs => xs.length ≤ sizeLine ∧ ∃ (its:List Value) (n:Nat),Vals xs its ∧ h.get? a = some { cls:=.type "list",data:=.seq its.toArray n }
  | .tup xs => xs.length ≤ sizeLine ∧ ∃ its:List Value,Vals xs its ∧ IsTup h a its.toArray
  | .dK kvs => kvs.length ≤ sizeLine ∧ (a == sysModules) = false ∧ ∃ vs,KV kvs vs ∧ h.DictOf (mixKind P w) a vs
  | .dT kvs => kvs.length ≤ sizeLine ∧ (a == sysModules) = false ∧ ∃ xs:List (List Key × Addr × Value),
      Paired (fun (p:List Key × V) (q:List Key × Addr × Value) => p.1 = q.1 ∧ H q.2.1 = some (.tup (p.1.map kV)) ∧ RelV p.2 q.2.2) kvs xs ∧
      ∃ o es ep,h.get? a = some o ∧ o.ExactDict ∧ o.data = .dict es ep ∧ es.toList = xs.map (entryOfKey (tupleKind (mixKind P w))) ∧ (xs.map (·.1)).Nodup
  | .set S n => h.SetOf (intKind P w) a S n
  | .ins C dx fs => H dx = some (.own a) ∧ fs.length ≤ 1000 ∧ dx ≠ a ∧ h.get? a = some (PySem.W.instObj C dx) ∧
      ∃ mA,h.Ns1 dx mA ∧ (∀ f,RelO (fs.lookup f) (mA f)) ∧ PySem.Within mA (fs.map (·.1))
  | .own _ => ∃ o,h.get? a = some o
  | .xd fs => ∃ mA,h.Ns1 a mA ∧ ∀ f,RelO (fs.lookup f) (mA f)
  | .rng lo hi => ∃ t u v,h.get? a = some { cls:=.type "range",data:=.fields #[.int lo t,.int hi u,.int 1 v] }
  | .frz o u => h.get? a = some o ∧ ObjOk H h a u
  | .tbl ps => h.get? a = some { cls:=.none,data:=.fields ps }
  | .met f x => h.get? a = some (PySem.W.methodObj (.ref f) (.ref x))
  | .ext φ => φ h ∧ (∃ o,h.get? a = some o) ∧ ∀ h1 h2:Heap,φ h1 → (∀ o,h1.get? a = some o → h2.get? a = some o) → φ h2
noncomputable def HOk (H:Hp) (h:Heap):Prop:=∀ a o,H a = some o → ObjOk P w H h a o
end
section
variable {P:Program} {w:World} {H H':Hp} {h h':Heap} {a:Addr} {o:HO}
theorem ObjOk.lt (x:ObjOk P w H h a o):a < h.objs.size:=by
  cases o with
  | lst xs => obtain ⟨_,_,_,_,e⟩:=x; exact Heap.lt_size e
  | tup xs => obtain ⟨_,_,_,p⟩:=x; exact p.lt
  | dK kvs => obtain ⟨_,_,_,_,o,_,_,e,_⟩:=x; exact Heap.lt_size e
  | dT kvs => obtain ⟨_,_,_,_,o,_,_,e,_⟩:=x; exact Heap.lt_size e
  | set S n => obtain ⟨o,_,_,_,e,_⟩:=x; exact Heap.lt_size e
  | ins C dx fs => obtain ⟨_,_,_,e,_⟩:=x; exact Heap.lt_size e
  | own y => obtain ⟨_,e⟩:=x; exact Heap.lt_size e
  | xd fs => obtain ⟨_,⟨_,_,_,e,_⟩,_⟩:=x; exact Heap.lt_size e
  | rng lo hi => obtain ⟨_,_,_,e⟩:=x; exact Heap.lt_size e
  | frz ob u => obtain ⟨e,_⟩:=x; exact Heap.lt_size e
  | tbl ps => exact Heap.lt_size (show h.get? a = some _ from x)
  | met f y => exact Heap.lt_size (show h.get? a = some _ from x)
  | ext φ => obtain ⟨_,⟨_,e⟩,_⟩:=x; exact Heap.lt_size e
theorem Paired.mapP {α β:Type} {F G:α → β → Prop}:∀ {l₁:List α} {l₂:List β},Paired F l₁ l₂ → (∀ a b,F a b → G a b) → Paired G l₁ l₂
  | _,_,.nil,_ => .nil
  | _,_,.cons r t,f => .cons (f _ _ r) (Paired.mapP t f)
theorem Paired.imp' {α β:Type} {F G:α → β → Prop} (f:∀ a b,F a b → G a b) {l₁:List α} {l₂:List β} (r:Paired F l₁ l₂):Paired G l₁ l₂:=Paired.mapP r f
theorem ObjOk.stay (x:ObjOk P w H h a o) (k:∀ b u,(b = a ∨ H b = some (.own a)) → h.get? b = some u → h'.get? b = some u)
    (ho:∀ b,H b = some (.own a) → H' b = some (.own a)) (ht:∀ b xs,H b = some (.tup xs) → H' b = some (.tup xs)):ObjOk P w H' h' a o:=by
  induction o with
  | lst xs => obtain ⟨z,its,n,r,e⟩:=x; exact ⟨z,its,n,r,k _ _ (.inl rfl) e⟩
  | tup xs => obtain ⟨z,its,r,ob,e,c⟩:=x; exact ⟨z,its,r,ob,k _ _ (.inl rfl) e,c⟩
  | dK kvs => obtain ⟨z,y,vs,r,ob,es,ep,e,c⟩:=x; exact ⟨z,y,vs,r,ob,es,ep,k _ _ (.inl rfl) e,c⟩
  | dT kvs =>
    obtain ⟨z,y,xs,r,ob,es,ep,e,c⟩:=x
    exact ⟨z,y,xs,Paired.mapP r fun p q z => ⟨z.1,ht _ _ z.2.1,z.2.2⟩,ob,es,ep,k _ _ (.inl rfl) e,c⟩
  | set S n => obtain ⟨ob,es,ep,t,e,c⟩:=x; exact ⟨ob,es,ep,t,k _ _ (.inl rfl) e,c⟩
  | ins C dx fs =>
    obtain ⟨d,z,ne,e,mA,⟨od,es,ep,e2,c⟩,r⟩:=x
    exact ⟨ho _ d,z,ne,k _ _ (.inl rfl) e,mA,⟨od,es,ep,k _ _ (.inr d) e2,c⟩,r⟩
  | own y => obtain ⟨ob,e⟩:=x; exact ⟨ob,k _ _ (.inl rfl) e⟩
  | xd fs => obtain ⟨mA,⟨od,es,ep,e,c⟩,r⟩:=x; exact ⟨mA,⟨od,es,ep,k _ _ (.inl rfl) e,c⟩,r⟩
  | rng lo hi => obtain ⟨t,u,v,e⟩:=x; exact ⟨t,u,v,k _ _ (.inl rfl) e⟩
  | frz ob u ih => obtain ⟨e,q⟩:=x; exact ⟨k _ _ (.inl rfl) e,ih q⟩
  | tbl ps =>
    have e:h.get? a = some { cls:=.none,data:=.fields ps }:=x
    show h'.get? a = some { cls:=.none,data:=.fields ps }
    exact k a _ (.inl rfl) e
  | met f y =>
    have e:h.get? a = some (PySem.W.methodObj (.ref f) (.ref y)):=x
    show h'.get? a = some (PySem.W.methodObj (.ref f) (.ref y))
    exact k a _ (.inl rfl) e
  | ext φ => obtain ⟨p,⟨o,e⟩,st⟩:=x; exact ⟨st _ _ p fun o q => k _ _ (.inl rfl) q,⟨o,k _ _ (.inl rfl) e⟩,st⟩
theorem HOk.lt (x:HOk P w H h) (e:H a = some o):a < h.objs.size:=(x a o e).lt
theorem HOk.fresh (x:HOk P w H h) (e:h.objs.size ≤ a):H a = none:=by
  cases q:H a with
  | none => rfl
  | some u => exact absurd (Nat.lt_of_lt_of_le (x.lt q) e) (Nat.lt_irrefl _)
theorem HOk.kept (x:HOk P w H h) (k:∀ b u,h.get? b = some u → h'.get? b = some u):HOk P w H h':=fun a o e =>
  (x a o e).stay (fun b u _ q => k b u q) (fun _ q => q) fun _ _ q => q
theorem HOk.laid (x:HOk P w H h) (k:∀ b u,h.get? b = some u → h'.get? b = some u) (hp:h.objs.size ≤ a) (new:ObjOk P w (upd H a o) h' a o):HOk P w (upd H a o) h':=fun b u e => by
  have hn:=x.fresh hp
  by_cases hb:b = a
  · subst hb; rw [upd_same] at e; cases e; exact new
  · rw [upd_ne hb] at e
    exact (x b u e).stay (fun c v _ q => k c v q) (fun c q => by rw [upd_ne (ne_of_none q hn)]; exact q) fun c xs q => by rw [upd_ne (ne_of_none q hn)]; exact q
end
noncomputable def Rd (H:Hp) (a:Addr) (u:HO):Prop:=H a = some u ∨ ∃ o,H a = some (.frz o u)
theorem Rd.ok {P:Program} {w:World} {H:Hp} {h:Heap} {a:Addr} {u:HO} (r:Rd H a u) (x:HOk P w H h):ObjOk P w H h a u:=by
  rcases r with r | ⟨o,r⟩
  · exact x a u r
  · obtain ⟨_,q⟩:=x a _ r
    exact q
noncomputable def Mut:Option HO → Prop
  | some (.lst _) => True
  | some (.dK _) => True
  | some (.dT _) => True
  | some (.set _ _) => True
  | some (.ins _ _ _) => True
  | some (.ext _) => True
  | _ => False
section
variable {P:Program} {w:World} {H:Hp} {h h':Heap} {x e:Addr} {o':HO}
theorem HOk.write (ok:HOk P w H h) (mu:Mut (H x)) (he:e = x ∨ H e = some (.own x)) (k:∀ b u,b ≠ e → h.get? b = some u → h'.get? b = some u) (heo:∃ u,h'.get? e = some u)
    (new:ObjOk P w (upd H x o') h' x o'):HOk P w (upd H x o') h':=fun b u q => by
  have nown:∀ c y,H c = some (.own y) → c ≠ x:=fun c y r z => by subst z; rw [r] at mu; exact mu
  have ntup:∀ c xs,H c = some (.tup xs) → c ≠ x:=fun c xs r z => by subst z; rw [r] at mu; exact mu
  by_cases hb:b = x
  · subst hb; rw [upd_same] at q; cases q; exact new
  · rw [upd_ne hb] at q
    by_cases hbe:b = e
    · have q':H b = some (.own x):=by
        rcases he with z | z
        · exact absurd (hbe.trans z) hb
        · rw [hbe]; exact z
      rw [q] at q'; cases q'
      obtain ⟨v,hv⟩:=heo
      exact ⟨v,by rw [hbe]; exact hv⟩
    · refine (ok b u q).stay (fun c v hc r => k c v ?_ r) (fun c r => by rw [upd_ne (nown c b r)]; exact r) fun c xs r => by rw [upd_ne (ntup c xs r)]; exact r
      rcases hc with rfl | hc
      · exact hbe
      · rintro rfl
        rcases he with z | z
        · exact nown c b hc z
        · rw [hc] at z; cases z; exact hb rfl
end
structure Un (fs ex:List Addr) (H H':Hp) (h h':Heap):Prop where
  keep:∀ b o,h.get? b = some o → H b = none → b ∉ fs → b ∉ ex → h'.get? b = some o
  slot:∀ b o,h.get? b = some o → H b = none → b ∈ fs → b ∉ ex → ∃ sl,h'.get? b = some { o with slots:=sl }
  free:∀ b o,h.get? b = some o → H b = none → b ∉ ex → H' b = none
  there:∀ b o,h.get? b = some o → b ∉ ex → ∃ o',h'.get? b = some o'
  tups:∀ b xs,H b = some (.tup xs) → H' b = some (.tup xs)
  frzs:∀ b o u,H b = some (.frz o u) → H' b = some (.frz o u)
  tbls:∀ b ps,H b = some (.tbl ps) → ∃ more,H' b = some (.tbl (ps ++ more))
section
variable {fs fs' ex ex':List Addr} {H H1 H2:Hp} {h h1 h2 h':Heap} {a x e:Addr} {o:HO}
theorem Un.any (u:Un fs ex H H1 h h1) {b:Addr} {ob:Obj} (q:h.get? b = some ob) (n:H b = none) (hx:b ∉ ex):∃ sl,h1.get? b = some { ob with slots:=sl }:=by
  by_cases hb:b ∈ fs
  · exact u.slot b ob q n hb hx
  · exact ⟨ob.slots,u.keep b ob q n hb hx⟩
theorem Un.kept (k:∀ b u,h.get? b = some u → h'.get? b = some u):Un fs ex H H h h' :=
  ⟨fun b ob q _ _ _ => k b ob q,fun b ob q _ _ _ => ⟨ob.slots,k b ob q⟩,fun _ _ _ n _ => n,fun b ob q _ => ⟨ob,k b ob q⟩,fun _ _ q => q,fun _ _ _ q => q,fun _ ps q => ⟨#[],by rw [q]; simp⟩⟩
theorem Un.refl:Un fs ex H H h h:=Un.kept fun _ _ q => q
theorem Un.laid (k:∀ b u,h.get? b = some u → h'.get? b = some u) (hp:h.objs.size ≤ a) (hn:H a = none):Un fs ex H (upd H a o) h h' where
  keep:=fun b u q _ _ _ => k b u q
  slot:=fun b u q _ _ _ => ⟨u.slots,k b u q⟩
  free:=fun b u q n _ => by rw [upd_ne (Nat.ne_of_lt (Nat.lt_of_lt_of_le (Heap.lt_size q) hp))]; exact n
  there:=fun b u q _ => ⟨u,k b u q⟩
  tups:=fun b xs q => by rw [upd_ne (ne_of_none q hn)]; exact q
  frzs:=fun b u xs q => by rw [upd_ne (ne_of_none q hn)]; exact q
  tbls:=fun b ps q => ⟨#[],by rw [upd_ne (ne_of_none q hn),q]; simp⟩
theorem Un.write (mu:Mut (H x)) (he:e = x ∨ H e = some (.own x)) (k:∀ b u,b ≠ e → h.get? b = some u → h'.get? b = some u) (heo:∃ u,h'.get? e = some u):Un fs ex H (upd H x o) h h':=by
  have hx:∀ b,H b = none → b ≠ x:=fun b n z => by subst z; rw [n] at mu; exact mu
  have hb:∀ b,H b = none → b ≠ e:=fun b n z => by
    subst z
    rcases he with r | r
    · exact hx b n r
    · rw [n] at r; cases r
  have hm:∀ b u,H b = some u → ¬ Mut (some u) → b ≠ x:=fun b u q nm z => by subst z; rw [q] at mu; exact nm mu
  refine ⟨fun b u q n _ _ => k b u (hb b n) q,fun b u q n _ _ => ⟨u.slots,k b u (hb b n) q⟩,fun b u q n _ => by rw [upd_ne (hx b n)]; exact n,fun b u q _ => ?_,
    fun b xs q => by rw [upd_ne (hm b _ q fun z => z)]; exact q,fun b u xs q => by rw [upd_ne (hm b _ q fun z => z)]; exact q,fun b ps q => ⟨#[],by rw [upd_ne (hm b _ q fun z => z),q]; simp⟩⟩
  by_cases hbe:b = e
  · subst hbe; exact heo
  · exact ⟨u,k b u hbe q⟩
end
noncomputable def trk (h:Heap) (H:Hp):List Addr:=(List.range h.objs.size).filter fun a => (H a).isSome
noncomputable def hidT (h:Heap) (H:Hp):Heap:=PySem.W.hideAll h (trk h H)
theorem hidT_size (h:Heap) (H:Hp):(hidT h H).objs.size = h.objs.size:=PySem.W.hideAll_size _ _
theorem hidT_get {h:Heap} {H:Hp} {b:Addr} {o:Obj} (e:h.get? b = some o) (n:H b = none):(hidT h H).get? b = some o :=
  PySem.W.hideAll_get _ e fun hm => by
    have q:(H b).isSome = true:=(List.mem_filter.mp hm).2
    rw [n] at q; simp at q
theorem of_hidT {h:Heap} {H:Hp} {b:Addr} {o:Obj} (e:(hidT h H).get? b = some o):h.get? b = some o ∧ H b = none:=by
  have e':h.get? b = some o:=PySem.W.of_hideAll (trk h H) e
  refine ⟨e',?_⟩
  cases q:H b with
  | none => rfl
  | some x =>
    have hm:b ∈ trk h H:=List.mem_filter.mpr ⟨List.mem_range.mpr (Heap.lt_size e'),by simp [q]⟩
    have z:(hidT h H).get? b = none:=PySem.W.hideAll_none (trk h H) hm
    rw [z] at e; cases e
noncomputable def allNews (g h:Heap) (L:Addr):List (Addr × Obj):=(List.range h.objs.size).filterMap fun a => if a = L ∨ (g.get? a).isSome = true then none else (h.get? a).map fun o => (a,o)
noncomputable def rest (g h:Heap) (L d:Addr):List (Addr × Obj):=(allNews g h L).filter fun p => decide (p.1 ≠ d)
end L2
namespace L2
open PySem PySem.Spec PyProof.Rows
structure Mod (K:PySem.W.Frag) (mg:Str → Option Value) (base:Heap):Prop where
  kin:K.In base
  glob:base.Ns mainGlobals mg
  blt:∃ mb,base.Ns builtinsNs mb ∧ ∀ x:Str,x ≠ "__name__" → mb x = bootBuiltins x
  nolimit:base.NoLimit
structure Cx where
  prog:Program
  w:World
  K:PySem.W.Frag
  mg:Str → Option Value
  base:Heap
  A:Around
  N:List Str
  s₀:Shared
  H₀:Hp
  env:Env
  outer:List Env
  stack:List Env
  ex:List Addr
  fn:Str → Bool
  calm:Bool
  pn:List (Addr × Obj)
  xe:Value → Shared → Prop
noncomputable def frs (l:List Env):List Addr:=l.filterMap (·.frame)
noncomputable abbrev Cx.fs (X:Cx):List Addr:=frs X.outer
noncomputable def Vis (sc:Scope) (x:Str):Prop:=sc.names.lookup x = some .local ∨ sc.names.lookup x = some .cell ∨ sc.names.lookup x = some .free
noncomputable def Loc (sc:Scope) (x:Str):Prop:=sc.names.lookup x = some .local ∨ sc.names.lookup x = some .cell
noncomputable def Look (env:Env) (h:Heap) (m:Str → Option Value) (x:Str) (u:Value):Prop :=
  (env.kindOf x = some .local ∧ m x = some u) ∨ ((env.kindOf x = some .cell ∨ env.kindOf x = some .free) ∧ ∃ c,env.cells.lookup x = some c ∧ h.IsCell c (some u))
structure Cx.Ok (X:Cx):Prop where
  mod:Mod X.K X.mg X.base
  kind:X.env.scope.kind = .function
  glob:X.env.globals = mainGlobals
  blt:X.env.builtins = builtinsNs
  above:X.s₀.heap.objs.size ≤ X.env.locals
  inj:∀ x y c,X.env.cells.lookup x = some c → X.env.cells.lookup y = some c → x = y
  has:∀ x,(X.env.kindOf x = some .cell ∨ X.env.kindOf x = some .free) → ∃ c,X.env.cells.lookup x = some c
  cab:∀ x c,X.fn x = true → X.env.cells.lookup x = some c → X.s₀.heap.objs.size ≤ c
  hd:X.calm = true → X.A.handled = none
  frames:X.A.frames = some X.stack
  stk:X.stack = X.outer ∨ (X.stack = X.env :: X.outer ∧ X.env.frame = some X.env.locals)
  exf:∀ b ∈ X.ex,b ≠ X.env.locals ∧ ∀ x c,X.env.cells.lookup x = some c → c ≠ b
  bs:∀ b o,X.base.get? b = some o → X.s₀.heap.get? b = some o ∧ X.H₀ b = none
  bsz:X.base.objs.size ≤ X.s₀.heap.objs.size
  noex:∀ b o,X.base.get? b = some o → b ∉ X.ex
  exfs:∀ b ∈ X.ex,b ∉ X.fs
  funs:X.s₀.heap.FunFrames X.base X.outer
  frf:∀ b ∈ X.fs,X.H₀ b = none
structure Inv (X:Cx) (pins:List (Addr × Obj)) (σ:List (Option V)) (H:Hp) (s:Shared):Prop where
  ok:X.Ok
  os:s.os = X.s₀.os
  bare:AllBare s.gens
  base:Un X.fs X.ex X.H₀ H X.s₀.heap s.heap
  loc:∃ m,s.heap.Ns X.env.locals m ∧ ∀ (i:Nat) (x:Str) (v:V),X.N[i]? = some x → σ[i]? = some (some v) → Vis X.env.scope x → ∃ u,RelV v u ∧ Look X.env s.heap m x u
  cell:∀ x c,X.env.cells.lookup x = some c → ∃ v,s.heap.IsCell c v
  free:H X.env.locals = none
  freeC:∀ x c,X.env.cells.lookup x = some c → H c = none
  pin:∀ p ∈ X.pn ++ pins,s.heap.get? p.1 = some p.2 ∧ H p.1 = none ∧ p.1 ≠ X.env.locals ∧ p.1 ∉ X.fs ∧ ∀ v,p.2.data ≠ .cell v
  hok:HOk X.prog X.w H s.heap
  len:σ.length = X.N.length
section
variable {X:Cx} {pins:List (Addr × Obj)} {σ:List (Option V)} {H H':Hp} {s:Shared} {h':Heap}
theorem Cx.Ok.nofr (ok:X.Ok) {b:Addr} {o:Obj} (e:X.base.get? b = some o):b ∉ X.fs:=fun hb => by
  have:=(ok.funs.mem hb).1
  rw [e] at this; cases this
theorem Inv.bs (I:Inv X pins σ H s):∀ b o,X.base.get? b = some o → s.heap.get? b = some o ∧ H b = none:=fun b o e =>
  ⟨I.base.keep b o (I.ok.bs b o e).1 (I.ok.bs b o e).2 (I.ok.nofr e) (I.ok.noex b o e),I.base.free b o (I.ok.bs b o e).1 (I.ok.bs b o e).2 (I.ok.noex b o e)⟩
theorem Inv.bk (I:Inv X pins σ H s):∀ b o,X.base.get? b = some o → s.heap.get? b = some o:=fun b o e => (I.bs b o e).1
theorem Inv.mod (I:Inv X pins σ H s):Mod X.K X.mg X.base:=I.ok.mod
theorem Inv.kIn (I:Inv X pins σ H s):X.K.In s.heap:=I.ok.mod.kin.keeps I.bk
theorem Inv.lt (I:Inv X pins σ H s):X.env.locals < s.heap.objs.size:=let ⟨_,hn,_⟩:=I.loc; hn.lt
theorem Inv.sz (I:Inv X pins σ H s):X.s₀.heap.objs.size ≤ s.heap.objs.size:=Nat.le_trans I.ok.above (Nat.le_of_lt I.lt)
theorem Inv.nofs (I:Inv X pins σ H s) {a:Addr} (h:s.heap.objs.size ≤ a):a ∉ X.fs:=fun hb => by
  obtain ⟨_,o,ho,_⟩:=I.ok.funs.mem hb
  exact absurd (Nat.lt_of_lt_of_le (Heap.lt_size ho) (Nat.le_trans I.sz h)) (Nat.lt_irrefl _)
theorem Inv.cne (I:Inv X pins σ H s):∀ x c,X.env.cells.lookup x = some c → c ≠ X.env.locals:=fun x c e z => by
  obtain ⟨v,o,ho,hd⟩:=I.cell x c e
  obtain ⟨m,⟨o',es,ep,ho',hd',_⟩,_⟩:=I.loc
  rw [z,ho'] at ho; cases ho; rw [hd'] at hd; cases hd
theorem Inv.funs (I:Inv X pins σ H s):s.heap.FunFrames X.base X.outer:=by
  have all:∀ (l:List Env),(∀ b ∈ frs l,b ∈ X.fs) → X.s₀.heap.FunFrames X.base l → s.heap.FunFrames X.base l:=by
    intro l
    induction l with
    | nil => intro _ _; trivial
    | cons env r ih =>
      intro hs hl
      obtain ⟨hk,⟨L,o,hf,hn,ho,hd⟩,hr⟩:=hl
      have hL:L ∈ X.fs:=hs L (by unfold frs; rw [List.filterMap_cons,hf]; exact List.mem_cons_self)
      obtain ⟨sl,e⟩:=I.base.slot L o ho (I.ok.frf L hL) hL fun z => I.ok.exfs L z hL
      exact ⟨hk,⟨L,_,hf,hn,e,hd⟩,ih (fun b hb => hs b (by unfold frs; rw [List.filterMap_cons,hf]; exact List.mem_cons_of_mem _ hb)) hr⟩
  exact all X.outer (fun _ hb => hb) I.ok.funs
theorem Inv.stack (I:Inv X pins σ H s):s.heap.FunFrames X.base X.stack:=by
  rcases I.ok.stk with e | ⟨e,hf⟩
  · rw [e]; exact I.funs
  · rw [e]
    obtain ⟨m,hn,_⟩:=I.loc
    refine .cons (by rw [I.ok.kind]; decide) hf hn ?_ I.funs
    exact Heap.get?_none_of_le (Nat.le_trans I.ok.bsz I.ok.above)
theorem Inv.stkSub (I:Inv X pins σ H s):∀ b ∈ frs X.stack,b ∈ X.env.locals :: X.fs:=fun b hb => by
  rcases I.ok.stk with e | ⟨e,hf⟩
  · rw [e] at hb; exact List.mem_cons_of_mem _ hb
  · rw [e] at hb
    unfold frs at hb
    rw [List.filterMap_cons,hf] at hb
    exact hb
theorem Inv.stkFree (I:Inv X pins σ H s):∀ b ∈ frs X.stack,H b = none:=fun b hb => by
  rcases List.mem_cons.mp (I.stkSub b hb) with e | hb
  · rw [e]; exact I.free
  · obtain ⟨_,o,ho,_⟩:=I.ok.funs.mem hb
    exact I.base.free b o ho (I.ok.frf b hb) fun z => I.ok.exfs b z hb
theorem Inv.step {g':Array GenState} {t':Nat} {d':Drawn} {ch:List Addr} (I:Inv X pins σ H s)
    (hch:∀ b ∈ ch,(b ∈ X.ex ∨ X.s₀.heap.objs.size ≤ b) ∧ b ≠ X.env.locals ∧ (∀ x c,X.env.cells.lookup x = some c → c ≠ b) ∧ ∀ p ∈ X.pn ++ pins,p.1 ≠ b)
    (keep:∀ b o,b ≠ X.env.locals → b ∉ X.fs → b ∉ ch → s.heap.get? b = some o → H b = none → h'.get? b = some o)
    (slot:∀ b o,b ≠ X.env.locals → b ∈ X.fs → b ∉ ch → s.heap.get? b = some o → H b = none → ∃ sl,h'.get? b = some { o with slots:=sl }) (free:∀ b o,b ∉ ch → s.heap.get? b = some o → H b = none → H' b = none)
    (there:∀ b o,b ∉ ch → s.heap.get? b = some o → ∃ o',h'.get? b = some o')
    (tups:∀ b xs,H b = some (.tup xs) → H' b = some (.tup xs)) (frzs:∀ b o u,H b = some (.frz o u) → H' b = some (.frz o u)) (tbls:∀ b ps,H b = some (.tbl ps) → ∃ more,H' b = some (.tbl (ps ++ more)))
    (ns:∀ m,s.heap.Ns X.env.locals m → h'.Ns X.env.locals m) (hok:HOk X.prog X.w H' h') (hg:AllBare g') :
    Inv X pins σ H' { s with heap:=h',gens:=g',drawn:=d',toks:=t' }:=by
  have neL:∀ b o,X.s₀.heap.get? b = some o → b ≠ X.env.locals:=fun b o e => Nat.ne_of_lt (Nat.lt_of_lt_of_le (Heap.lt_size e) I.ok.above)
  have neC:∀ b o,X.s₀.heap.get? b = some o → b ∉ X.ex → b ∉ ch:=fun b o e hx hb => by
    rcases (hch b hb).1 with z | z
    · exact hx z
    · exact absurd (Nat.lt_of_lt_of_le (Heap.lt_size e) z) (Nat.lt_irrefl _)
  have cellK:∀ x c,X.env.cells.lookup x = some c → ∀ v,s.heap.IsCell c v → h'.IsCell c v:=fun x c e v ⟨o,ho,hd⟩ => by
    have nch:c ∉ ch:=fun z => (hch c z).2.2.1 x c e rfl
    by_cases hc:c ∈ X.fs
    · obtain ⟨sl,q⟩:=slot c o (I.cne x c e) hc nch ho (I.freeC x c e)
      exact ⟨_,q,hd⟩
    · exact ⟨o,keep c o (I.cne x c e) hc nch ho (I.freeC x c e),hd⟩
  refine ⟨I.ok,I.os,hg,⟨fun b o e n hb hx => ?_,fun b o e n hb hx => ?_,fun b o e n hx => ?_,fun b o e hx => ?_,fun b xs e => tups b xs (I.base.tups b xs e),fun b o xs e => frzs b o xs (I.base.frzs b o xs e),fun b ps e => ?_⟩,?_,fun x c e => ?_,?_,fun x c e => ?_,fun p hp => ?_,hok,I.len⟩
  · exact keep b o (neL b o e) hb (neC b o e hx) (I.base.keep b o e n hb hx) (I.base.free b o e n hx)
  · obtain ⟨sl,e1⟩:=I.base.slot b o e n hb hx
    obtain ⟨sl',e2⟩:=slot b _ (neL b o e) hb (neC b o e hx) e1 (I.base.free b o e n hx)
    exact ⟨sl',e2⟩
  · obtain ⟨o',e1⟩:=I.base.there b o e hx
    exact free b o' (neC b o e hx) e1 (I.base.free b o e n hx)
  · obtain ⟨o',e1⟩:=I.base.there b o e hx
    exact there b o' (neC b o e hx) e1
  · obtain ⟨m1,e1⟩:=I.base.tbls b ps e
    obtain ⟨m2,e2⟩:=tbls b _ e1
    exact ⟨m1 ++ m2,by rw [e2,Array.append_assoc]⟩
  · obtain ⟨m,hn,hl⟩:=I.loc
    refine ⟨m,ns m hn,fun i x v e1 e2 e3 => ?_⟩
    obtain ⟨u,r,l⟩:=hl i x v e1 e2 e3
    refine ⟨u,r,?_⟩
    rcases l with l | ⟨k,c,e,z⟩
    · exact .inl l
    · exact .inr ⟨k,c,e,cellK x c e _ z⟩
  · obtain ⟨v,z⟩:=I.cell x c e
    exact ⟨v,cellK x c e v z⟩
  · obtain ⟨m,⟨o,_,_,ho,_⟩,_⟩:=I.loc
    exact free _ o (fun z => (hch _ z).2.1 rfl) ho I.free
  · obtain ⟨v,o,ho,hd⟩:=I.cell x c e
    exact free c o (fun z => (hch c z).2.2.1 x c e rfl) ho (I.freeC x c e)
  · obtain ⟨e,n,ne,nf,d⟩:=I.pin p hp
    have nch:p.1 ∉ ch:=fun z => (hch p.1 z).2.2.2 p hp rfl
    exact ⟨keep p.1 p.2 ne nf nch e n,free p.1 p.2 nch e n,ne,nf,d⟩
theorem Inv.un {t':Nat} (I:Inv X pins σ H s) (u:Un X.fs [] H H' s.heap h') (hok:HOk X.prog X.w H' h'):Inv X pins σ H' { s with heap:=h',toks:=t' }:=by
  obtain ⟨m,⟨o,es,ep,ho,r⟩,_⟩:=id I.loc
  obtain ⟨sl,hL⟩:=u.any ho I.free (by simp)
  exact I.step (g':=s.gens) (d':=s.drawn) (ch:=[]) (fun _ z => nomatch z) (fun b o _ hb _ e n => u.keep b o e n hb (by simp)) (fun b o _ hb _ e n => u.slot b o e n hb (by simp)) (fun b o _ e n => u.free b o e n (by simp)) (fun b o _ e => u.there b o e (by simp)) u.tups u.frzs u.tbls (fun m' hm => by
    obtain ⟨o',es',ep',ho',r'⟩:=hm
    rw [ho] at ho'; cases ho'
    exact ⟨_,es',ep',hL,r'⟩) hok I.bare
theorem Inv.call {g':Array GenState} {t':Nat} {d':Drawn} {ch:List Addr} (I:Inv X pins σ H s) (u:Un (frs X.stack) ch H H' s.heap h') (hok:HOk X.prog X.w H' h') (hg:AllBare g')
    (hch:∀ b ∈ ch,(b ∈ X.ex ∨ X.s₀.heap.objs.size ≤ b) ∧ b ≠ X.env.locals ∧ (∀ x c,X.env.cells.lookup x = some c → c ≠ b) ∧ ∀ p ∈ X.pn ++ pins,p.1 ≠ b) :
    Inv X pins σ H' { s with heap:=h',gens:=g',drawn:=d',toks:=t' }:=by
  obtain ⟨m,⟨o,es,ep,ho,r⟩,_⟩:=id I.loc
  obtain ⟨sl,hL⟩:=u.any ho I.free fun z => (hch _ z).2.1 rfl
  exact I.step (ch:=ch) hch (fun b o hL hb hc e n => u.keep b o e n (fun z => (List.mem_cons.mp (I.stkSub b z)).elim hL hb) hc) (fun b o _ _ hc e n => u.any e n hc) (fun b o hc e n => u.free b o e n hc) (fun b o hc e => u.there b o e hc) u.tups u.frzs u.tbls (fun m' hm => by
    obtain ⟨o',es',ep',ho',r'⟩:=hm
    rw [ho] at ho'; cases ho'
    exact ⟨_,es',ep',hL,r'⟩) hok hg
theorem Inv.turned {t':Nat} {it:Addr} (I:Inv X pins σ H s) (k:∀ b o,b ≠ it → s.heap.get? b = some o → h'.get? b = some o) (hn:H it = none) (hL:it ≠ X.env.locals)
    (h1:it ∈ X.ex ∨ X.s₀.heap.objs.size ≤ it) (h2:∀ x c,X.env.cells.lookup x = some c → c ≠ it) (h3:∀ p ∈ X.pn ++ pins,p.1 ≠ it):Inv X pins σ H { s with heap:=h',toks:=t' }:=by
  have nit:∀ b u,H b = some u → b ≠ it:=fun b u e z => by rw [z,hn] at e; cases e
  refine I.step (g':=s.gens) (d':=s.drawn) (ch:=[it]) (fun b hb => ?_) (fun b o _ _ hc e _ => k b o (fun z => hc (by simp [z])) e) (fun b o _ _ hc e _ => ⟨o.slots,k b o (fun z => hc (by simp [z])) e⟩) (fun _ _ _ _ n => n)
    (fun b o hc e => ⟨o,k b o (fun z => hc (by simp [z])) e⟩) (fun _ _ e => e) (fun _ _ _ e => e) (fun b ps e => ⟨#[],by rw [e]; simp⟩) (fun m hm => ?_) (fun b u e => ?_) I.bare
  · have e:b = it:=by simpa using hb
    subst e
    exact ⟨h1,hL,h2,h3⟩
  · obtain ⟨o,es,ep,ho,r⟩:=hm
    exact ⟨o,es,ep,k _ o (Ne.symm hL) ho,r⟩
  · refine (I.hok b u e).stay (fun c v hc q => k c v ?_ q) (fun _ q => q) fun _ _ q => q
    rcases hc with z | z
    · rw [z]; exact nit b u e
    · exact nit c _ z
theorem Inv.tok (I:Inv X pins σ H s) (t:Nat):Inv X pins σ H { s with toks:=t }:=I.un (h':=s.heap) (t':=t) Un.refl I.hok
theorem Inv.kept {t':Nat} (I:Inv X pins σ H s) (k:∀ b u,s.heap.get? b = some u → h'.get? b = some u):Inv X pins σ H { s with heap:=h',toks:=t' }:=I.un (Un.kept k) (I.hok.kept k)
theorem Inv.laid {a:Addr} {o:HO} {t':Nat} (I:Inv X pins σ H s) (k:∀ b u,s.heap.get? b = some u → h'.get? b = some u) (hp:s.heap.objs.size ≤ a) (new:ObjOk X.prog X.w (upd H a o) h' a o) :
    Inv X pins σ (upd H a o) { s with heap:=h',toks:=t' }:=I.un (Un.laid k hp (I.hok.fresh hp)) (I.hok.laid k hp new)
theorem Inv.write {x e:Addr} {o:HO} {t':Nat} (I:Inv X pins σ H s) (mu:Mut (H x)) (he:e = x ∨ H e = some (.own x)) (k:∀ b u,b ≠ e → s.heap.get? b = some u → h'.get? b = some u) (heo:∃ u,h'.get? e = some u)
    (new:ObjOk X.prog X.w (upd H x o) h' x o):Inv X pins σ (upd H x o) { s with heap:=h',toks:=t' }:=I.un (Un.write mu he k heo) (I.hok.write mu he k heo new)
theorem Inv.weak {σ':List (Option V)} (I:Inv X pins σ H s) (hl:σ'.length = σ.length) (w:∀ (i:Nat) v,σ'[i]? = some (some v) → σ[i]? = some (some v)):Inv X pins σ' H s :=
  ⟨I.ok,I.os,I.bare,I.base,let ⟨m,hn,hl'⟩:=I.loc; ⟨m,hn,fun i x v e1 e2 e3 => hl' i x v e1 (w i v e2) e3⟩,I.cell,I.free,I.freeC,I.pin,I.hok,hl.trans I.len⟩
theorem Inv.pins_of {pins':List (Addr × Obj)} (I:Inv X pins σ H s) (h:∀ p ∈ pins',s.heap.get? p.1 = some p.2 ∧ H p.1 = none ∧ p.1 ≠ X.env.locals ∧ p.1 ∉ X.fs ∧ ∀ v,p.2.data ≠ .cell v):Inv X pins' σ H s :=
  ⟨I.ok,I.os,I.bare,I.base,I.loc,I.cell,I.free,I.freeC,fun p hp => (List.mem_append.mp hp).elim (fun z => I.pin p (List.mem_append_left _ z)) (h p),I.hok,I.len⟩
theorem nodup_ix {N:List Str} (hN:N.Nodup) {i j:Nat} {x:Str} (a:N[i]? = some x) (b:N[j]? = some x):i = j:=by
  obtain ⟨h1,e1⟩:=List.getElem?_eq_some_iff.mp a
  obtain ⟨h2,e2⟩:=List.getElem?_eq_some_iff.mp b
  exact (List.getElem_inj hN).mp (e1.trans e2.symm)
theorem store_ok2 {M:Model} {A:Around} {E:Value → Shared → Prop} {i:Nat} {x:Str} {v:V} {u:Value} {Q:Unit → Shared → Prop} (I:Inv X pins σ H s) (hN:X.N.Nodup) (hi:X.N[i]? = some x) (hx:Loc X.env.scope x) (r:RelV v u)
    (h:∀ s',Inv X pins (σ.set i (some v)) H s' → (∃ a,Heap.SameBut a s.heap s'.heap ∧ (a = X.env.locals ∨ X.env.cells.lookup x = some a)) → Q () s') (hf:X.fn x = true ∨ X.env.scope.names.lookup x = some .local:=by first | exact .inl rfl | exact .inr rfl | assumption):wpAny M A (storeName X.env x u) Q E s:=by
  obtain ⟨m,hn,hl⟩:=id I.loc
  have hcls:(X.env.scope.kind == .class || (X.env.scope.kind == .module && X.env.locals != X.env.globals)) = false:=by rw [I.ok.kind]; rfl
  have hiσ:i < σ.length:=by rw [I.len]; exact (List.getElem?_eq_some_iff.mp hi).1
  have cne:=I.cne
  have tracked:∀ {a:Addr} {h':Heap},(∃ o,s.heap.get? a = some o ∧ H a = none) → Heap.SameBut a s.heap h' → HOk X.prog X.w H h':=fun {a h'} ha hs b ob e => by
    obtain ⟨_,_,hfree⟩:=ha
    refine (I.hok b ob e).stay (fun c w' hc q => (hs.2 c ?_).trans q) (fun _ q => q) fun _ _ q => q
    rintro rfl
    rcases hc with rfl | hc
    · rw [hfree] at e; cases e
    · rw [hfree] at hc; cases hc
  rcases hx with hk | hk
  · refine wpAny_storeName_local hk hn (fun h' hn' hs => ?_) hcls
    obtain ⟨oL,_,_,hoL,_⟩:=id hn
    refine h _ ⟨I.ok,I.os,I.bare,⟨fun b o e n hb hx => ?_,fun b o e n hb hx => ?_,I.base.free,fun b o e hx => ?_,I.base.tups,I.base.frzs,I.base.tbls⟩,⟨_,hn',fun j y v' e1 e2 e3 => ?_⟩,fun y c e => ?_,I.free,I.freeC,fun p hp => ?_,tracked ⟨oL,hoL,I.free⟩ hs,by simpa using I.len⟩ ⟨_,hs,.inl rfl⟩
    · exact (hs.2 b (Nat.ne_of_lt (Nat.lt_of_lt_of_le (Heap.lt_size e) I.ok.above))).trans (I.base.keep b o e n hb hx)
    · obtain ⟨sl,e1⟩:=I.base.slot b o e n hb hx
      exact ⟨sl,(hs.2 b (Nat.ne_of_lt (Nat.lt_of_lt_of_le (Heap.lt_size e) I.ok.above))).trans e1⟩
    · obtain ⟨o',e1⟩:=I.base.there b o e hx
      exact ⟨o',(hs.2 b (Nat.ne_of_lt (Nat.lt_of_lt_of_le (Heap.lt_size e) I.ok.above))).trans e1⟩
    · by_cases hj:j = i
      · subst hj
        rw [hi] at e1; cases e1
        rw [List.getElem?_set_self hiσ] at e2
        cases e2
        exact ⟨u,r,.inl ⟨hk,by simp⟩⟩
      · rw [List.getElem?_set_ne (Ne.symm hj)] at e2
        obtain ⟨u',r',q⟩:=hl j y v' e1 e2 e3
        refine ⟨u',r',?_⟩
        rcases q with ⟨k,e⟩ | ⟨k,c,e,z⟩
        · refine .inl ⟨k,?_⟩
          have:y ≠ x:=fun e => hj (nodup_ix hN e1 (e ▸ hi))
          simp [this,e]
        · exact .inr ⟨k,c,e,z.sameBut hs (cne y c e)⟩
    · obtain ⟨w',z⟩:=I.cell y c e
      exact ⟨w',z.sameBut hs (cne y c e)⟩
    · obtain ⟨e,n,ne,nf,d⟩:=I.pin p hp
      exact ⟨(hs.2 p.1 ne).trans e,n,ne,nf,d⟩
  · have hfn:X.fn x = true:=by
      rcases hf with z | z
      · exact z
      · rw [z] at hk; cases hk
    obtain ⟨c,hc⟩:=I.ok.has x (.inl hk)
    obtain ⟨w',z⟩:=I.cell x c hc
    refine wpAny_storeName_cell I.ok.kind hk hc z (fun h' hc' hs => ?_)
    obtain ⟨oc,hoc,hocd⟩:=id z
    refine h { s with heap:=h' } ⟨I.ok,I.os,I.bare,⟨fun b o e n hb hx => ?_,fun b o e n hb hx => ?_,I.base.free,fun b o e hx => ?_,I.base.tups,I.base.frzs,I.base.tbls⟩,⟨m,hn.sameBut hs (Ne.symm (cne x c hc)),fun j y v' e1 e2 e3 => ?_⟩,fun y c' e => ?_,I.free,I.freeC,fun p hp => ?_,tracked ⟨oc,hoc,I.freeC x c hc⟩ hs,by simpa using I.len⟩ ⟨c,hs,.inr hc⟩
    · exact (hs.2 b (Nat.ne_of_lt (Nat.lt_of_lt_of_le (Heap.lt_size e) (I.ok.cab x c hfn hc)))).trans (I.base.keep b o e n hb hx)
    · obtain ⟨sl,e1⟩:=I.base.slot b o e n hb hx
      exact ⟨sl,(hs.2 b (Nat.ne_of_lt (Nat.lt_of_lt_of_le (Heap.lt_size e) (I.ok.cab x c hfn hc)))).trans e1⟩
    · obtain ⟨o',e1⟩:=I.base.there b o e hx
      exact ⟨o',(hs.2 b (Nat.ne_of_lt (Nat.lt_of_lt_of_le (Heap.lt_size e) (I.ok.cab x c hfn hc)))).trans e1⟩
    · by_cases hj:j = i
      · subst hj
        rw [hi] at e1; cases e1
        rw [List.getElem?_set_self hiσ] at e2
        cases e2
        exact ⟨u,r,.inr ⟨.inl hk,c,hc,hc'⟩⟩
      · rw [List.getElem?_set_ne (Ne.symm hj)] at e2
        obtain ⟨u',r',q⟩:=hl j y v' e1 e2 e3
        refine ⟨u',r',?_⟩
        rcases q with q | ⟨k,c',e,z'⟩
        · exact .inl q
        · refine .inr ⟨k,c',e,z'.sameBut hs ?_⟩
          rintro rfl
          exact hj (nodup_ix hN e1 (I.ok.inj _ _ _ e hc ▸ hi))
    · by_cases hcc:c' = c
      · subst hcc; exact ⟨_,hc'⟩
      · obtain ⟨w2,z2⟩:=I.cell y c' e
        exact ⟨w2,z2.sameBut hs hcc⟩
    · obtain ⟨e,n,ne,nf,d⟩:=I.pin p hp
      refine ⟨(hs.2 p.1 ?_).trans e,n,ne,nf,d⟩
      intro q
      rw [q,hoc] at e
      have q':oc = p.2:=Option.some.inj e
      exact d w' (by rw [← q']; exact hocd)
theorem store_ok {M:Model} {A:Around} {E:Value → Shared → Prop} {i:Nat} {x:Str} {v:V} {u:Value} {Q:Unit → Shared → Prop} (I:Inv X pins σ H s) (hN:X.N.Nodup) (hi:X.N[i]? = some x) (hx:Loc X.env.scope x) (r:RelV v u)
    (h:∀ s',Inv X pins (σ.set i (some v)) H s' → Q () s') (hf:X.fn x = true ∨ X.env.scope.names.lookup x = some .local:=by first | exact .inl rfl | exact .inr rfl | assumption):wpAny M A (storeName X.env x u) Q E s :=
  store_ok2 I hN hi hx r (fun s' I' _ => h s' I') hf
theorem Inv.call' {s':Shared} {ch:List Addr} (I:Inv X pins σ H s) (ho:s'.os = s.os) (u:Un (frs X.stack) ch H H' s.heap s'.heap) (hok:HOk X.prog X.w H' s'.heap) (hg:AllBare s'.gens)
    (hch:∀ b ∈ ch,(b ∈ X.ex ∨ X.s₀.heap.objs.size ≤ b) ∧ b ≠ X.env.locals ∧ (∀ x c,X.env.cells.lookup x = some c → c ≠ b) ∧ ∀ p ∈ X.pn ++ pins,p.1 ≠ b):Inv X pins σ H' s':=by
  obtain ⟨h',g',d',t',o'⟩:=s'
  have e:o' = s.os:=ho
  subst e
  exact I.call (g':=g') (t':=t') (d':=d') u hok hg hch
end
noncomputable abbrev XK:=Value → Option Addr → Hp → Prop
noncomputable abbrev St:=List (Option V)
noncomputable abbrev VK:=V → Hp → Prop
noncomputable abbrev TE:=St → Hp → VK → Prop
noncomputable abbrev TT:=St → Hp → (Bool → Hp → Prop) → Prop
noncomputable abbrev TA:=St → Hp → (List V → Hp → Prop) → Prop
structure Ends where
  nx:St → Hp → Prop
  rt:VK
  bk:St → Hp → Prop:=fun _ _ => False
  ct:St → Hp → Prop:=fun _ _ => False
noncomputable abbrev TS:=Ends → St → Hp → Prop
noncomputable def EP (X:Cx) (pins:List (Addr × Obj)) (σ:St) (Q:VK) (u:Value) (s':Shared):Prop:=∃ v H',Inv X pins σ H' s' ∧ RelV v u ∧ Q v H'
noncomputable def TP (X:Cx) (pins:List (Addr × Obj)) (σ:St) (Q:Bool → Hp → Prop) (b:Bool) (s':Shared):Prop:=∃ H',Inv X pins σ H' s' ∧ Q b H'
noncomputable def AP (X:Cx) (pins:List (Addr × Obj)) (σ:St) (Q:List V → Hp → Prop) (us:List Value) (s':Shared):Prop:=∃ vs H',Inv X pins σ H' s' ∧ Vals vs us ∧ Q vs H'
noncomputable def SP (X:Cx) (pins:List (Addr × Obj)) (D:Ends) (f:Flow) (s':Shared):Prop :=
  match f with
  | .next => ∃ σ' H',Inv X pins σ' H' s' ∧ D.nx σ' H'
  | .brk => ∃ σ' H',Inv X pins σ' H' s' ∧ D.bk σ' H'
  | .cont => ∃ σ' H',Inv X pins σ' H' s' ∧ D.ct σ' H'
  | .ret u => ∃ v σ' H',Inv X pins σ' H' s' ∧ RelV v u ∧ D.rt v H'
noncomputable def PE (X:Cx) (e:Expr) (t:TE):Prop :=
  ∀ (pins:List (Addr × Obj)) (s:Shared) (σ:St) (H:Hp) (Q:VK),Inv X pins σ H s → t σ H Q → wpAny (model X.prog X.w) X.A (eval e X.env) (EP X pins σ Q) X.xe s
noncomputable def PT (X:Cx) (e:Expr) (t:TT):Prop :=
  ∀ (pins:List (Addr × Obj)) (s:Shared) (σ:St) (H:Hp) (Q:Bool → Hp → Prop),Inv X pins σ H s → t σ H Q → wpAny (model X.prog X.w) X.A (isTrue e X.env (eval e X.env)) (TP X pins σ Q) X.xe s
noncomputable def PW (X:Cx) (e:Expr) (t:TT):Prop :=
  ∀ (whole:Sem Value) (pins:List (Addr × Obj)) (s:Shared) (σ:St) (H:Hp) (Q:Bool → Hp → Prop),Inv X pins σ H s → t σ H Q → wpAny (model X.prog X.w) X.A (isTrue e X.env whole) (TP X pins σ Q) X.xe s
theorem PW.pt {X:Cx} {e:Expr} {t:TT} (h:PW X e t):PT X e t:=h _
noncomputable def PA (X:Cx) (es:List Expr) (t:TA):Prop :=
  ∀ (pos:Pos) (pins:List (Addr × Obj)) (s:Shared) (σ:St) (H:Hp) (Q:List V → Hp → Prop),Inv X pins σ H s → t σ H Q → wpAny (model X.prog X.w) X.A (spliced (backTo pos (starEach es X.env))) (AP X pins σ Q) X.xe s
noncomputable def PS (X:Cx) (st:Stmt) (t:TS):Prop :=
  ∀ (pins:List (Addr × Obj)) (s:Shared) (σ:St) (H:Hp) (D:Ends),Inv X pins σ H s → t D σ H → wpAny (model X.prog X.w) X.A (exec st X.env) (SP X pins D) X.xe s
noncomputable def PSs (X:Cx) (st:List Stmt) (t:TS):Prop :=
  ∀ (pins:List (Addr × Obj)) (s:Shared) (σ:St) (H:Hp) (D:Ends),Inv X pins σ H s → t D σ H → wpAny (model X.prog X.w) X.A (execs st X.env) (SP X pins D) X.xe s
theorem thn {α:Type} {t:Sem α} {Q Q':α → Shared → Prop} {M:Model} {A:Around} {E:Value → Shared → Prop} {s:Shared} (h:wpAny M A t Q E s) (hQ:∀ a s,Q a s → Q' a s):wpAny M A t Q' E s:=wpAny_mono h hQ fun _ _ x => x
end L2
namespace L2
open PySem PySem.Spec PyProof.Rows
section
variable {X:Cx}
noncomputable def tVar (i:Nat):TE:=fun σ H Q => ∃ v,σ[i]? = some (some v) ∧ Q v H
noncomputable def tC (v:V):TE:=fun _ H Q => Q v H
theorem pe_var {i:Nat} {x:Str} {pos:Pos} (hN:X.N[i]? = some x) (hv:Vis X.env.scope x) (hd:(x == ("__debug__":Str)) = false:=by decide) (hcd:(x == ("__classdict__":Str)) = false:=by decide):PE X (.Name x pos) (tVar i):=by
  intro pins s σ H Q I h
  obtain ⟨v,e,h⟩:=h
  obtain ⟨m,hn,hl⟩:=I.loc
  obtain ⟨u,r,l⟩:=hl i x v hN e hv
  have fin:EP X pins σ Q u s:=⟨v,H,I,r,h⟩
  rcases l with ⟨hk,hm⟩ | ⟨hk,c,hc,hcell⟩
  · exact wpAny_Name (wpAny_loadName_local I.ok.kind hk hn hm fin) hd
  · rcases hk with hk | hk
    · exact wpAny_Name (wpAny_loadName_cell I.ok.kind hk hc hcell fin) hd
    · exact wpAny_Name (wpAny_loadName_free I.ok.kind hk hc hcell fin hcd) hd
theorem pe_int {i j pos}:PE X (.Constant (.int i) j pos) (tC (.int i)):=fun _ _ _ H _ I h => wpAny_Constant_int ⟨.int i,H,I.tok _,⟨_,rfl⟩,h⟩
theorem pe_bl {b j pos}:PE X (.Constant (.bool b) j pos) (tC (.bl b)):=fun _ _ _ H _ I h => Constant_bool ⟨.bl b,H,I,rfl,h⟩
theorem pe_non {j pos}:PE X (.Constant .none j pos) (tC .non):=fun _ _ _ H _ I h => Constant_none ⟨.non,H,I,rfl,h⟩
theorem pe_str {x j pos}:PE X (.Constant (.str x) j pos) (tC (.str x)):=fun _ _ _ H _ I h => Calls.Constant_str ⟨.str x,H,I.tok _,⟨_,rfl⟩,h⟩
noncomputable def Gl (X:Cx) (x:Str):Prop:=X.env.kindOf x = some .globalImplicit
theorem ld_glob {E:Value → Shared → Prop} {pins:List (Addr × Obj)} {s:Shared} {σ:St} {H:Hp} {x:Str} {u:Value} {pos:Pos} {Q:Value → Shared → Prop} (I:Inv X pins σ H s) (hg:Gl X x) (hm:X.mg x = some u) (h:Q u s)
    (hd:(x == ("__debug__":Str)) = false:=by decide):wpAny (model X.prog X.w) X.A (eval (.Name x pos) X.env) Q E s :=
  Calls.Name_function_global I.ok.kind hg (Calls.loadGlobal_global (by rw [I.ok.glob]; exact I.mod.glob.keeps I.bk) hm h) hd
theorem ld_blt {E:Value → Shared → Prop} {pins:List (Addr × Obj)} {s:Shared} {σ:St} {H:Hp} {x:Str} {u:Value} {pos:Pos} {Q:Value → Shared → Prop} (I:Inv X pins σ H s) (hg:Gl X x) (hm:X.mg x = none) (hv:bootBuiltins x = some u) (h:Q u s)
    (hn:x ≠ "__name__":=by decide) (hd:(x == ("__debug__":Str)) = false:=by decide):wpAny (model X.prog X.w) X.A (eval (.Name x pos) X.env) Q E s:=by
  obtain ⟨mb,h1,h2⟩:=I.mod.blt
  exact Calls.Name_function_global I.ok.kind hg (Calls.loadGlobal_builtin (by rw [I.ok.glob]; exact I.mod.glob.keeps I.bk) hm (by rw [I.ok.blt]; exact h1.keeps I.bk) ((h2 x hn).trans hv) h) hd
variable {a b:Expr} {ta tb:TE} {pos:Pos}
noncomputable def PC (X:Cx) (op:CmpOp) (a b:Expr) (t:TE):Prop :=
  ∀ (pins:List (Addr × Obj)) (s:Shared) (σ:St) (H:Hp) (Q:VK),Inv X pins σ H s → t σ H Q →
    wpAny (model X.prog X.w) X.A (eval a X.env) (fun v s₁ => wpAny (model X.prog X.w) X.A (eval b X.env) (fun u s₂ => wpAny (model X.prog X.w) X.A (compareOp op v u) (EP X pins σ Q) X.xe s₂) X.xe s₁) X.xe s
noncomputable def tB (t:TE):TT:=fun σ H Q => t σ H fun x H1 => ∃ c,x = .bl c ∧ Q c H1
theorem pt_cmp {op:CmpOp} {t:TE} (h:PC X op a b t) (h1:behindInMarks op b = false:=by first | exact nobehind _ (by decide) (by decide) | rfl):PT X (.Compare a [op] [b] pos) (tB t):=by
  intro pins s σ H Q I hw
  refine wpAny_isTrue_Compare1 (thn (h pins s σ H _ I hw) fun v s1 h1 => thn h1 fun u s2 h2 => thn h2 fun c s3 ⟨x,H1,I1,r1,q1⟩ => ?_) h1
  obtain ⟨d,rfl,q⟩:=q1
  cases r1
  exact wpAny_truthy_bool ⟨H1,I1,q⟩
theorem pt_val {e:Expr} {t:TE} (h:PE X e t) (he:∀ whole,isTrue e X.env whole = (do let v ← whole; standAt e.pos; holding [v] (truthy v)):=by intro _; rfl):PT X e (tB t):=by
  intro pins s σ H Q I hw
  refine isTrue_plain (thn (h pins s σ H _ I hw) fun v s1 ⟨x,H1,I1,r1,q1⟩ => ?_) (he _)
  obtain ⟨d,rfl,q⟩:=q1
  cases r1
  exact wpAny_truthy_bool ⟨H1,I1,q⟩
variable {tA tB':TT} {rest:List Expr}
noncomputable def tAnd (t u:TT):TT:=fun σ H Q => t σ H fun c H1 => if c = true then u σ H1 Q else Q false H1
noncomputable def tOr (t u:TT):TT:=fun σ H Q => t σ H fun c H1 => if c = true then Q true H1 else u σ H1 Q
noncomputable def tNot (t:TT):TT:=fun σ H Q => t σ H fun c H1 => Q (!c) H1
theorem pw_and1 (ha:PT X a tA):PW X (.BoolOp .And [a] pos) tA:=by
  intro wh pins s σ H Q I h
  refine isTrue_and (thn (ha pins s σ H Q I h) fun c s1 e => ?_)
  cases c with
  | true => exact isTrue_and_nil e
  | false => exact e
theorem pw_or1 (ha:PT X a tA):PW X (.BoolOp .Or [a] pos) tA:=by
  intro wh pins s σ H Q I h
  refine isTrue_or (thn (ha pins s σ H Q I h) fun c s1 e => ?_)
  cases c with
  | false => exact isTrue_or_nil e
  | true => exact e
theorem pw_and (ha:PT X a tA) (hb:PW X (.BoolOp .And (b :: rest) pos) tB'):PW X (.BoolOp .And (a :: b :: rest) pos) (tAnd tA tB'):=by
  intro wh pins s σ H Q I h
  refine isTrue_and (thn (ha pins s σ H _ I h) fun c s1 ⟨H1,I1,q1⟩ => ?_)
  cases c with
  | true => exact hb wh pins s1 σ H1 Q I1 q1
  | false => exact ⟨H1,I1,q1⟩
theorem pw_or (ha:PT X a tA) (hb:PW X (.BoolOp .Or (b :: rest) pos) tB'):PW X (.BoolOp .Or (a :: b :: rest) pos) (tOr tA tB'):=by
  intro wh pins s σ H Q I h
  refine isTrue_or (thn (ha pins s σ H _ I h) fun c s1 ⟨H1,I1,q1⟩ => ?_)
  cases c with
  | true => exact ⟨H1,I1,q1⟩
  | false => exact hb wh pins s1 σ H1 Q I1 q1
theorem pt_not (ha:PT X a tA):PT X (.UnaryOp .Not a pos) (tNot tA):=by
  intro pins s σ H Q I h
  exact isTrue_not (ha pins s σ H (fun c H1 => Q (!c) H1) I h)
noncomputable def tAndV (ta tb:TE):TE:=fun σ H Q => ta σ H fun x H1 => ∃ c,x = .bl c ∧ if c = true then tb σ H1 Q else Q (.bl false) H1
theorem pe_one {op} {t:TE} (h:PE X a t):PE X (.BoolOp op [a] pos) t:=fun pins s σ H Q I hw => BoolOp_one (h pins s σ H Q I hw)
theorem pe_and (ha:PE X a ta) (hb:PE X (.BoolOp .And (b :: rest) pos) tb):PE X (.BoolOp .And (a :: b :: rest) pos) (tAndV ta tb):=by
  intro pins s σ H Q I h
  refine BoolOp_and (thn (ha pins s σ H _ I h) fun v s1 ⟨x,H1,I1,r1,q1⟩ => ?_)
  obtain ⟨c,rfl,q1⟩:=q1
  cases r1
  refine wpAny_truthy_bool ?_
  cases c with
  | true => exact hb pins s1 σ H1 Q I1 q1
  | false => exact ⟨.bl false,H1,I1,rfl,q1⟩
noncomputable def tIf (t:TT) (ta tb:TE):TE:=fun σ H Q => t σ H fun c H1 => if c = true then ta σ H1 Q else tb σ H1 Q
theorem pe_ifExp {c:Expr} (hc:PT X c tA) (ha:PE X a ta) (hb:PE X b tb):PE X (.IfExp c a b pos) (tIf tA ta tb):=by
  intro pins s σ H Q I h
  refine wpAny_IfExp (thn (hc pins s σ H _ I h) fun d s1 ⟨H1,I1,q1⟩ => ?_)
  cases d with
  | true => exact ha pins s1 σ H1 Q I1 q1
  | false => exact hb pins s1 σ H1 Q I1 q1
end
end L2
namespace L2
open PySem PySem.Spec PyProof.Rows
noncomputable def SqL (K:PySem.W.Frag) (H:Hp) (a:Addr) (xs:List V):Prop :=
  Rd H a (.lst xs) ∨
    ∃ (o:Obj) (its:Array Value) (n:Nat),K.lookup a = some o ∧ o.cls = .type "list" ∧ o.dict = none ∧ o.data = .seq its n ∧ its.size ≤ sizeLine ∧ Vals xs its.toList
noncomputable def SqT (K:PySem.W.Frag) (H:Hp) (a:Addr) (xs:List V):Prop :=
  Rd H a (.tup xs) ∨
    ∃ (o:Obj) (its:Array Value) (n:Nat),K.lookup a = some o ∧ o.cls = .type "tuple" ∧ o.data = .seq its n ∧ its.size ≤ sizeLine ∧ Vals xs its.toList
noncomputable def absV:Value → Option V
  | .none => some .non
  | .bool b => some (.bl b)
  | .int i _ => some (.int i)
  | .str x _ => some (.str x)
  | .bytes b _ => some (.byt b)
  | .float b _ => some (.flt b)
  | .ref a => some (.ref a)
  | .type n => some (.ty n)
  | _ => none
theorem RelV.abs {x:V} {u:Value} (r:RelV x u):absV u = some x:=by
  cases x with
  | non => cases r; rfl
  | bl _ => cases r; rfl
  | int _ => obtain ⟨t,rfl⟩:=r; rfl
  | str _ => obtain ⟨t,rfl⟩:=r; rfl
  | byt _ => obtain ⟨t,rfl⟩:=r; rfl
  | flt _ => obtain ⟨t,rfl⟩:=r; rfl
  | ref _ => cases r; rfl
  | ty _ => cases r; rfl
theorem RelV.inj {x y:V} {u:Value} (r:RelV x u) (q:RelV y u):x = y:=Option.some.inj (r.abs.symm.trans q.abs)
theorem Vals.inj:∀ {xs ys:List V} {us:List Value},Vals xs us → Vals ys us → xs = ys
  | _,_,_,.nil,.nil => rfl
  | _,_,_,.cons r t,.cons r' t' => by rw [r.inj r',Vals.inj t t']
section
variable {X:Cx} {pins:List (Addr × Obj)} {σ:St} {H:Hp} {s:Shared} {a:Addr} {xs ys:List V}
theorem SqL.of {K:PySem.W.Frag} (h:H a = some (.lst xs)):SqL K H a xs:=.inl (.inl h)
theorem SqT.of {K:PySem.W.Frag} (h:H a = some (.tup xs)):SqT K H a xs:=.inl (.inl h)
theorem Inv.list (I:Inv X pins σ H s) (h:SqL X.K H a xs):∃ its:List Value,Vals xs its ∧ PlainL s.heap a its.toArray ∧ xs.length ≤ sizeLine:=by
  rcases h with h | ⟨o,its,n,hk,hc,hd,hs,hz,r⟩
  · obtain ⟨z,its,n,r,e⟩:=h.ok I.hok
    exact ⟨its,r,⟨_,n,e,rfl,rfl,rfl⟩,z⟩
  · refine ⟨its.toList,r,⟨o,n,I.kIn a o hk,hc,hd,by simpa using hs⟩,?_⟩
    have e:=r.length
    simp only [Array.length_toList] at e
    omega
theorem Inv.tuple (I:Inv X pins σ H s) (h:SqT X.K H a xs):∃ its:List Value,Vals xs its ∧ IsTup s.heap a its.toArray ∧ xs.length ≤ sizeLine:=by
  rcases h with h | ⟨o,its,n,hk,hc,hs,hz,r⟩
  · obtain ⟨z,its,r,p⟩:=h.ok I.hok
    exact ⟨its,r,p,z⟩
  · refine ⟨its.toList,r,⟨o,I.kIn a o hk,hc,n,by simpa using hs⟩,?_⟩
    have e:=r.length
    simp only [Array.length_toList] at e
    omega
theorem Inv.list_inj (I:Inv X pins σ H s) (h:SqL X.K H a xs) (h':SqL X.K H a ys):xs = ys:=by
  obtain ⟨its,r,⟨o,n,e,_,_,d⟩,_⟩:=I.list h
  obtain ⟨its',r',⟨o',n',e',_,_,d'⟩,_⟩:=I.list h'
  rw [e] at e'; cases e'
  rw [d] at d'
  injection d' with d1 _
  have:its = its':=by simpa using congrArg Array.toList d1
  subst this
  exact r.inj r'
theorem Inv.tuple_inj (I:Inv X pins σ H s) (h:SqT X.K H a xs) (h':SqT X.K H a ys):xs = ys:=by
  obtain ⟨its,r,⟨o,e,_,n,d⟩,_⟩:=I.tuple h
  obtain ⟨its',r',⟨o',e',_,n',d'⟩,_⟩:=I.tuple h'
  rw [e] at e'; cases e'
  rw [d] at d'
  injection d' with d1 _
  have:its = its':=by simpa using congrArg Array.toList d1
  subst this
  exact r.inj r'
end
noncomputable abbrev Cx.wish (X:Cx) (E:Value → Shared → Prop):Cx:={ X with xe:=E }
noncomputable abbrev Cx.nox (X:Cx):Cx:=X.wish fun _ _ => False
theorem Cx.Ok.wish {X:Cx} (ok:X.Ok) (E:Value → Shared → Prop):(X.wish E).Ok :=
  ⟨ok.mod,ok.kind,ok.glob,ok.blt,ok.above,ok.inj,ok.has,ok.cab,ok.hd,ok.frames,ok.stk,ok.exf,ok.bs,ok.bsz,ok.noex,ok.exfs,ok.funs,ok.frf⟩
theorem Cx.Ok.unwish {X:Cx} {E:Value → Shared → Prop} (ok:(X.wish E).Ok):X.Ok :=
  ⟨ok.mod,ok.kind,ok.glob,ok.blt,ok.above,ok.inj,ok.has,ok.cab,ok.hd,ok.frames,ok.stk,ok.exf,ok.bs,ok.bsz,ok.noex,ok.exfs,ok.funs,ok.frf⟩
section
variable {X:Cx} {pins:List (Addr × Obj)} {σ:St} {H:Hp} {s:Shared} {E:Value → Shared → Prop}
theorem Inv.wish (I:Inv X pins σ H s) (E:Value → Shared → Prop):Inv (X.wish E) pins σ H s:=⟨I.ok.wish E,I.os,I.bare,I.base,I.loc,I.cell,I.free,I.freeC,I.pin,I.hok,I.len⟩
theorem Inv.unwish (I:Inv (X.wish E) pins σ H s):Inv X pins σ H s:=⟨I.ok.unwish,I.os,I.bare,I.base,I.loc,I.cell,I.free,I.freeC,I.pin,I.hok,I.len⟩
theorem SP.unwish {D:Ends} {f:Flow} {s':Shared} (h:SP (X.wish E) pins D f s'):SP X pins D f s':=by
  cases f with
  | next => obtain ⟨σ',H',I,q⟩:=h; exact ⟨σ',H',I.unwish,q⟩
  | brk => obtain ⟨σ',H',I,q⟩:=h; exact ⟨σ',H',I.unwish,q⟩
  | cont => obtain ⟨σ',H',I,q⟩:=h; exact ⟨σ',H',I.unwish,q⟩
  | ret u => obtain ⟨v,σ',H',I,r,q⟩:=h; exact ⟨v,σ',H',I.unwish,r,q⟩
theorem PSs.nox {st:List Stmt} {t:TS} (h:PSs X.nox st t):PSs X st t:=fun pins s σ H D I hw =>
  wpAny_mono (h pins s σ H D (I.wish _) hw) (fun _ _ q => q.unwish) fun _ _ z => False.elim z
end
section
variable {X:Cx} {st:Stmt} {rest:List Stmt} {t u:TS} {e:Expr} {te:TE} {pos:Pos}
noncomputable def tNext:TS:=fun D σ H => D.nx σ H
noncomputable def tSeq (t u:TS):TS:=fun D σ H => t { D with nx:=u D } σ H
theorem pss_nil:PSs X [] tNext:=fun _ _ σ H _ I h => wpAny_execs_nil ⟨σ,H,I,h⟩
theorem pss_cons (h1:PS X st t) (h2:PSs X rest u):PSs X (st :: rest) (tSeq t u):=by
  intro pins s σ H D I h
  refine wpAny_execs_cons (thn (h1 pins s σ H { D with nx:=u D } I h) fun f s1 q => ?_)
  cases f with
  | next =>
    obtain ⟨σ',H',I',q⟩:=q
    exact h2 pins s1 σ' H' D I' q
  | ret v => exact q
  | brk => exact q
  | cont => exact q
theorem pss_one (h1:PS X st t):PSs X [st] t:=by
  intro pins s σ H D I h
  refine wpAny_execs_cons (thn (h1 pins s σ H D I h) fun f s1 q => ?_)
  cases f with
  | next => exact wpAny_execs_nil q
  | ret v => exact q
  | brk => exact q
  | cont => exact q
theorem Inv.quiet {pins:List (Addr × Obj)} {σ:St} {H:Hp} {s:Shared} (I:Inv X pins σ H s):interactive X.env = false:=by simp [interactive,I.ok.kind]
noncomputable def tDrop (te:TE):TS:=fun D σ H => te σ H fun _ H1 => D.nx σ H1
theorem ps_expr (he:PE X e te) (hs:swapsWith e none pos.line X.env = pure false:=by rfl):PS X (.Expr e pos) (tDrop te):=by
  intro pins s σ H D I h
  exact wpAny_Expr_any (thn (he pins s σ H _ I h) fun v s1 ⟨x,H1,I1,r1,q1⟩ => ⟨σ,H1,I1,q1⟩) I.quiet hs
noncomputable def tRet (te:TE):TS:=fun D σ H => te σ H D.rt
theorem ps_ret (he:PE X e te):PS X (.Return (some e) pos) (tRet te):=by
  intro pins s σ H D I h
  exact wpAny_Return_some (thn (he pins s σ H _ I h) fun v s1 ⟨x,H1,I1,r1,q1⟩ => ⟨x,σ,H1,I1,r1,q1⟩)
noncomputable def tIfS (c:TT) (t u:TS):TS:=fun D σ H => c σ H fun b H1 => if b = true then t D σ H1 else u D σ H1
theorem ps_if {c:Expr} {a b:List Stmt} {tc:TT} (hc:PT X c tc) (ha:PSs X a t) (hb:PSs X b u):PS X (.If c a b pos) (tIfS tc t u):=by
  intro pins s σ H D I h
  refine wpAny_If (thn (hc pins s σ H _ I h) fun d s1 ⟨H1,I1,q1⟩ => ?_)
  cases d with
  | true => exact ha pins s1 σ H1 D I1 q1
  | false => exact hb pins s1 σ H1 D I1 q1
end
noncomputable abbrev TG:=V → St → Hp → (St → Hp → Prop) → Prop
noncomputable abbrev TGs:=List V → St → Hp → (St → Hp → Prop) → Prop
noncomputable def PG (X:Cx) (target:Expr) (t:TG):Prop :=
  ∀ (pins:List (Addr × Obj)) (s:Shared) (σ:St) (H:Hp) (v:V) (u:Value) (Q:St → Hp → Prop),Inv X pins σ H s → RelV v u → t v σ H Q →
    wpAny (model X.prog X.w) X.A (assign target X.env u) (fun _ s' => ∃ σ' H',Inv X pins σ' H' s' ∧ Q σ' H') X.xe s
noncomputable def PGs (X:Cx) (ts:List Expr) (t:TGs):Prop :=
  ∀ (pins:List (Addr × Obj)) (s:Shared) (σ:St) (H:Hp) (vs:List V) (us:List Value) (Q:St → Hp → Prop),Inv X pins σ H s → Vals vs us → t vs σ H Q →
    wpAny (model X.prog X.w) X.A (assignInOrder ((assignEach ts X.env).map (·.2)) us) (fun _ s' => ∃ σ' H',Inv X pins σ' H' s' ∧ Q σ' H') X.xe s
noncomputable abbrev TIp:=V → V → Hp → VK → Prop
noncomputable def PIp (X:Cx) (op:Operator) (t:TIp):Prop :=
  ∀ (pins:List (Addr × Obj)) (s:Shared) (σ:St) (H:Hp) (x y:V) (v u:Value) (Q:VK),Inv X pins σ H s → RelV x v → RelV y u → t x y H Q →
    wpAny (model X.prog X.w) X.A (inplaceOp op v u) (EP X pins σ Q) X.xe s
section
variable {X:Cx} {pos:Pos}
noncomputable def gName (i:Nat):TG:=fun v σ H Q => Q (σ.set i (some v)) H
theorem pg_name {i:Nat} {x:Str} (hN:X.N.Nodup) (hi:X.N[i]? = some x) (hx:Loc X.env.scope x) (hf:X.fn x = true ∨ X.env.scope.names.lookup x = some .local:=by first | exact .inl rfl | exact .inr rfl | assumption):PG X (.Name x pos) (gName i):=by
  intro pins s σ H v u Q I r h
  exact wpAny_assign_Name (store_ok I hN hi hx r (fun s' I' => ⟨_,H,I',h⟩) hf)
noncomputable def gNil:TGs:=fun vs σ H Q => vs = [] ∧ Q σ H
noncomputable def gCons (t:TG) (u:TGs):TGs:=fun vs σ H Q => ∃ v r,vs = v :: r ∧ t v σ H fun σ' H' => u r σ' H' Q
theorem pgs_nil:PGs X [] gNil:=by
  intro pins s σ H vs us Q I r h
  obtain ⟨e,h⟩:=h
  subst e
  cases r
  exact assignInOrder_nil ⟨σ,H,I,h⟩
theorem pgs_cons {e:Expr} {es:List Expr} {t:TG} {u:TGs} (h1:PG X e t) (h2:PGs X es u)
    (hs:(assignEach (e :: es) X.env).map (·.2) = assign e X.env :: (assignEach es X.env).map (·.2):=by rfl):PGs X (e :: es) (gCons t u):=by
  intro pins s σ H vs us Q I r h
  obtain ⟨v,vr,e1,h⟩:=h
  subst e1
  cases r with
  | cons r rr =>
    rw [hs]
    refine assignInOrder_cons (thn (h1 pins s σ H _ _ _ I r h) fun _ s1 ⟨σ1,H1,I1,q1⟩ => ?_)
    exact h2 pins s1 σ1 H1 _ _ Q I1 rr q1
noncomputable def gTup (K:PySem.W.Frag) (n:Nat) (t:TGs):TG:=fun v σ H Q => ∃ a xs,v = .ref a ∧ SqT K H a xs ∧ xs.length = n ∧ t xs σ H Q
theorem pg_tup {es:List Expr} {k:Nat} {t:TGs} {n:Nat} (hc:X.calm = true) (h:PGs X es t)
    (hn:(assignEach es X.env).length = n:=by rfl) (hst:(assignEach es X.env).findIdx? (·.1) = none:=by rfl):PG X (.Tuple es k pos) (gTup X.K n t):=by
  intro pins s σ H v u Q I r hw
  obtain ⟨a,xs,e1,hq,hl,hw⟩:=hw
  subst e1
  cases r
  obtain ⟨its,rv,ht,hz⟩:=I.tuple hq
  refine assign_Tuple_tuple (I.ok.hd hc) ht (by simp [hn,← hl,rv.length]) hst fun h' hx => ?_
  have I1:Inv X pins σ H { s with heap:=h' }:=I.kept (t':=s.toks) fun b o e => hx b o (Nat.ne_of_lt (Heap.lt_size e)) e
  exact h pins _ σ H xs _ Q I1 (by simpa using rv) hw
noncomputable def tAsg (te:TE) (g:TG):TS:=fun D σ H => te σ H fun x H1 => g x σ H1 D.nx
theorem ps_set {i:Nat} {x:Str} {e:Expr} {te:TE} {pos':Pos} (hN:X.N.Nodup) (hi:X.N[i]? = some x) (hx:Loc X.env.scope x) (he:PE X e te) (hs:swapsWith e (some (.Name x pos')) pos.line X.env = pure false:=by rfl) (hf:X.fn x = true ∨ X.env.scope.names.lookup x = some .local:=by first | exact .inl rfl | exact .inr rfl | assumption) :
    PS X (.Assign [.Name x pos'] e pos) (tAsg te (gName i)):=by
  intro pins s σ H D I h
  refine wpAny_Assign_Name (thn (he pins s σ H _ I h) fun v s1 ⟨y,H1,I1,r1,q1⟩ => ?_) hs
  exact store_ok I1 hN hi hx r1 (fun s2 I2 => ⟨_,H1,I2,q1⟩) hf
noncomputable def tAug (i:Nat) (te:TE) (ti:TIp):TS:=fun D σ H => ∃ x,σ[i]? = some (some x) ∧ te σ H fun y H1 => ti x y H1 fun z H2 => D.nx (σ.set i (some z)) H2
theorem ps_aug {i:Nat} {x:Str} {e:Expr} {te:TE} {op:Operator} {ti:TIp} {pos':Pos} (hN:X.N.Nodup) (hi:X.N[i]? = some x) (hx:Loc X.env.scope x) (he:PE X e te) (ho:PIp X op ti) (hf:X.fn x = true ∨ X.env.scope.names.lookup x = some .local:=by first | exact .inl rfl | exact .inr rfl | assumption) :
    PS X (.AugAssign (.Name x pos') op e pos) (tAug i te ti):=by
  intro pins s σ H D I h
  obtain ⟨v,e1,h⟩:=h
  obtain ⟨m,hn,hl⟩:=I.loc
  have vis:Vis X.env.scope x:=by rcases hx with k | k; exact .inl k; exact .inr (.inl k)
  obtain ⟨u,r,l⟩:=hl i x v hi e1 vis
  refine wpAny_AugAssign_Name ?_
  have go:wpAny (model X.prog X.w) X.A (eval e X.env) (fun w s₂ => wpAny (model X.prog X.w) X.A (inplaceOp op u w) (fun r s₃ => wpAny (model X.prog X.w) X.A (storeName X.env x r) (fun _ => SP X pins D .next) X.xe s₃) X.xe s₂) X.xe s:=by
    refine thn (he pins s σ H _ I h) fun w s1 ⟨y,H1,I1,r1,q1⟩ => ?_
    refine thn (ho pins s1 σ H1 v y u w _ I1 r r1 q1) fun z s2 ⟨zv,H2,I2,r2,q2⟩ => ?_
    exact store_ok I2 hN hi hx r2 (fun s3 I3 => ⟨_,H2,I3,q2⟩) hf
  rcases l with ⟨hk,hm⟩ | ⟨hk,c,hc,hcell⟩
  · exact wpAny_loadName_local I.ok.kind hk hn hm go
  · rcases hk with hk | hk
    · exact wpAny_loadName_cell I.ok.kind hk hc hcell go
    · rcases hx with k | k
      · have:X.env.scope.names.lookup x = some .free:=hk
        rw [k] at this; cases this
      · have:X.env.scope.names.lookup x = some .free:=hk
        rw [k] at this; cases this
noncomputable def ipI (f:Int → Int → Int):TIp:=fun x y H Q => ∃ i j,x = .int i ∧ y = .int j ∧ Q (.int (f i j)) H
theorem ip_add:PIp X .Add (ipI fun i j => i + j):=by
  intro pins s σ H x y v u Q I r1 r2 h
  obtain ⟨i,j,e1,e2,q⟩:=h
  subst e1; subst e2
  obtain ⟨t,rfl⟩:=r1
  obtain ⟨t',rfl⟩:=r2
  exact iadd_int ⟨.int _,H,I.tok _,⟨_,rfl⟩,q⟩
end
section
variable {X:Cx} {pos:Pos}
noncomputable def tWhile (c:TT) (tb:TS):TS:=fun D σ H => ∃ W:Nat → St → Hp → Prop,(∃ m,W m σ H) ∧ ∀ m σ H,W m σ H →
  c σ H fun b H1 => if b = true then ∃ N:St → Hp → Prop,(∀ σ' H',N σ' H' → ∃ m',m' < m ∧ W m' σ' H') ∧ tb { D with nx:=N,ct:=N,bk:=D.nx } σ H1 else D.nx σ H1
theorem ps_while {c:Expr} {body:List Stmt} {tc:TT} {tb:TS} (hp:PassesOwn (model X.prog X.w) X.A X.env X.xe) (hc:PT X c tc) (hb:PSs X body tb):PS X (.While c body [] pos) (tWhile tc tb):=by
  intro pins s σ H D I h
  obtain ⟨W,⟨m0,w0⟩,turn⟩:=h
  refine wpAny_While (codeAny_whileLoop (fun n s' => ∃ σ' H',Inv X pins σ' H' s' ∧ W n σ' H') ?_ m0 ⟨σ,H,I,w0⟩)
  rintro n s1 ⟨σ1,H1,I1,w1⟩
  refine wpAny_passesOwn hp (thn (hc pins s1 σ1 H1 _ I1 (turn n σ1 H1 w1)) fun b s2 ⟨H2,I2,q2⟩ => ?_)
  cases b with
  | true =>
    obtain ⟨N,hN,q2⟩:=q2
    rw [if_pos rfl]
    refine wpAny_passesOwn hp (thn (hb pins s2 σ1 H2 _ I2 q2) fun f s3 q3 => ?_)
    cases f with
    | next =>
      obtain ⟨σ3,H3,I3,n3⟩:=q3
      obtain ⟨m',hm,w3⟩:=hN σ3 H3 n3
      exact ⟨m',hm,σ3,H3,I3,w3⟩
    | cont =>
      obtain ⟨σ3,H3,I3,n3⟩:=q3
      obtain ⟨m',hm,w3⟩:=hN σ3 H3 n3
      exact ⟨m',hm,σ3,H3,I3,w3⟩
    | brk => exact q3
    | ret v => exact q3
  | false =>
    rw [if_neg Bool.false_ne_true]
    exact wpAny_execs_nil ⟨σ1,H2,I2,q2⟩
end
structure It where
  go:Nat → Hp → Prop
  yld:Nat → Hp → V → Hp → Prop
  stop:Nat → Hp → Prop
noncomputable def FpOk (X:Cx) (pins:List (Addr × Obj)) (H:Hp) (b:Addr):Prop :=
  H b = none ∧ b ≠ X.env.locals ∧ b ∉ X.fs ∧ (b ∈ X.ex ∨ X.s₀.heap.objs.size ≤ b) ∧ (∀ x c,X.env.cells.lookup x = some c → c ≠ b) ∧ ∀ p ∈ X.pn ++ pins,p.1 ≠ b
theorem Inv.fpOk {X:Cx} {pins:List (Addr × Obj)} {σ:St} {H H':Hp} {s:Shared} {b:Addr} (I:Inv X pins σ H s) (hb:s.heap.objs.size ≤ b) (hn:H' b = none):FpOk X pins H' b:=by
  refine ⟨hn,Nat.ne_of_gt (Nat.lt_of_lt_of_le I.lt hb),I.nofs hb,.inr (Nat.le_trans I.sz hb),fun x c e z => ?_,fun p hp z => ?_⟩
  · obtain ⟨v,q⟩:=I.cell x c e
    exact absurd (Nat.lt_of_lt_of_le q.lt (by rw [z]; exact hb)) (Nat.lt_irrefl _)
  · exact absurd (Nat.lt_of_lt_of_le (Heap.lt_size (I.pin p hp).1) (by rw [z]; exact hb)) (Nat.lt_irrefl _)
structure Turn (P:Program) (w:World) (K:PySem.W.Frag) (tg:Expr) (J:It) (fp:List Addr) (it:Addr) (tn:Nat → Heap → Prop):Prop where
  mem:it ∈ fp
  obj:∀ i h,tn i h → ∀ b ∈ fp,∃ o,h.get? b = some o ∧ ∀ v,o.data ≠ .cell v
  keep:∀ i h h',tn i h → (∀ b ∈ fp,∀ o,h.get? b = some o → h'.get? b = some o) → tn i h'
  item:∀ (X:Cx),X.prog = P → X.w = w → X.K = K → X.calm = true → ∀ (i:Nat) (pins:List (Addr × Obj)) (s:Shared) (σ:St) (H:Hp) (E:Value → Shared → Prop),Inv X pins σ H s → (∀ b ∈ fp,FpOk X pins H b) → tn i s.heap → J.go i H →
    wpAny (model P w) X.A (pyNext (.ref it)) (fun r s1 => ∃ u,r = some u ∧
      wpAny (model P w) X.A (letOwnedTupleGo tg (.ref it) u) (fun _ s2 => ∃ x H',Inv X pins σ H' s2 ∧ RelV x u ∧ J.yld i H x H' ∧ tn (i + 1) s2.heap ∧ ∀ b ∈ fp,H' b = none) E s1) E s
  done:∀ (X:Cx),X.prog = P → X.w = w → X.K = K → X.calm = true → ∀ (i:Nat) (pins:List (Addr × Obj)) (s:Shared) (σ:St) (H:Hp) (E:Value → Shared → Prop),Inv X pins σ H s → (∀ b ∈ fp,FpOk X pins H b) → tn i s.heap → J.stop i H →
    wpAny (model P w) X.A (pyNext (.ref it)) (fun r s1 => r = none ∧ Inv X pins σ H s1) E s
  self:∀ (A:Around) (i:Nat) (s:Shared) (Q:Value → Shared → Prop) (E:Value → Shared → Prop),tn i s.heap → Q (.ref it) s → wpAny (model P w) A (pyIter (.ref it)) Q E s
noncomputable abbrev TI:=St → Hp → (It → Hp → Prop) → Prop
noncomputable def PIE (X:Cx) (pins:List (Addr × Obj)) (σ:St) (tg:Expr) (R:It → Hp → Prop) (itv:Value) (s2:Shared):Prop :=
  ∃ (it:Addr) (fp:List Addr) (tn:Nat → Heap → Prop) (J:It) (H':Hp),itv = .ref it ∧ Inv X pins σ H' s2 ∧ Turn X.prog X.w X.K tg J fp it tn ∧ tn 0 s2.heap ∧ (∀ b ∈ fp,FpOk X pins H' b) ∧ R J H'
noncomputable def PI (X:Cx) (tg iter:Expr) (wi:TI):Prop :=
  ∀ (pins:List (Addr × Obj)) (s:Shared) (σ:St) (H:Hp) (R:It → Hp → Prop),Inv X pins σ H s → wi σ H R →
    wpAny (model X.prog X.w) X.A (eval iter X.env) (fun v s1 => wpAny (model X.prog X.w) X.A (pyIter v) (PIE X pins σ tg R) X.xe s1) X.xe s
theorem go_of {M:Model} {A:Around} {E:Value → Shared → Prop} {s:Shared} {tg:Expr} {it:Addr} {u:Value} {o:Obj} {n:String} {vs:Array Value} {Q:Unit → Shared → Prop} (ho:s.heap.get? it = some o) (hc:o.cls = .type n) (hd:o.data = .fields vs)
    (hn:["enumerate","zip","dict_itemiterator","dict_reverseitemiterator","odict_iterator","itertools.zip_longest","itertools.pairwise"].contains n = false) (hQ:Q () s):wpAny M A (letOwnedTupleGo tg (.ref it) u) Q E s:=by
  unfold letOwnedTupleGo
  cases tg <;> first
    | exact wpAny_pure hQ
    | (cases u <;> first
        | exact wpAny_pure hQ
        | (refine wpAny_bind (wpAny_load ho ?_)
           rw [hc,hd]
           show wpAny M A (if (["enumerate","zip","dict_itemiterator","dict_reverseitemiterator","odict_iterator","itertools.zip_longest","itertools.pairwise"].contains n && vs[0]? == some (rawInt _)) = true then _ else _) Q E s
           rw [if_neg (by intro h; rw [hn,Bool.false_and] at h; cases h)]
           exact wpAny_pure hQ))
noncomputable def Itl (K:PySem.W.Frag) (a:Addr):It :=
  ⟨fun i H => ∃ xs x,SqL K H a xs ∧ xs[i]? = some x,fun i H x H' => H' = H ∧ ∀ xs,SqL K H a xs → xs[i]? = some x,fun i H => ∃ xs,SqL K H a xs ∧ xs.length ≤ i⟩
noncomputable def Itt (K:PySem.W.Frag) (a:Addr):It :=
  ⟨fun i H => ∃ xs x,SqT K H a xs ∧ xs[i]? = some x,fun i H x H' => H' = H ∧ ∀ xs,SqT K H a xs → xs[i]? = some x,fun i H => ∃ xs,SqT K H a xs ∧ xs.length ≤ i⟩
noncomputable def Itr (lo:Int) (n:Nat):It:=⟨fun i _ => i < n,fun i H x H' => H' = H ∧ x = .int (lo + i),fun i _ => n ≤ i⟩
theorem turn_list {P:Program} {w:World} {K:PySem.W.Frag} {tg:Expr} (a it:Addr):Turn P w K tg (Itl K a) [it] it (fun i h => h.IsListIter it a i) where
  mem:=by simp
  obj:=fun i h st b hb => by
    have e:b = it:=by simpa using hb
    subst e
    obtain ⟨o,e,c,d⟩:=st
    exact ⟨o,e,fun v z => by rw [d] at z; cases z⟩
  keep:=fun i h h' st k => st.at fun o e => k it (by simp) o e
  item:=by
    intro X hP hw hK hc i pins s σ H E I hf st hg
    subst hP hw hK
    obtain ⟨xs,x,hq,hx⟩:=hg
    obtain ⟨its,rv,p,hz⟩:=I.list hq
    obtain ⟨u,hu,ru⟩:=rv.get hx
    obtain ⟨f0,f1,f2,f3,f4,f5⟩:=hf it (by simp)
    refine wpAny_pyNext_list_item st p.isList (x:=u) (by simpa using hu) fun h' st' sb => ?_
    have I1:Inv X pins σ H { s with heap:=h' }:=I.turned (t':=s.toks) (fun b o hb e => (sb.2 b hb).trans e) f0 f1 f3 f4 f5
    obtain ⟨o,e,c,d⟩:=id st'
    exact ⟨u,rfl,go_of (s:={ s with heap:=h' }) e c d (by decide) ⟨x,H,I1,ru,⟨rfl,fun ys hy => by rw [I.list_inj hy hq]; exact hx⟩,st',fun b hb => (hf b hb).1⟩⟩
  done:=by
    intro X hP hw hK hc i pins s σ H E I hf st hg
    subst hP hw hK
    obtain ⟨xs,hq,hx⟩:=hg
    obtain ⟨its,rv,p,hz⟩:=I.list hq
    obtain ⟨f0,f1,f2,f3,f4,f5⟩:=hf it (by simp)
    have hl:=rv.length
    exact wpAny_pyNext_list_end (I.ok.hd hc) st p.isList (by simp; omega) fun h' eb => ⟨rfl,I.turned (t':=s.toks) (fun b o hb e => eb b o hb e) f0 f1 f3 f4 f5⟩
  self:=fun _ _ _ _ _ st h => wpAny_pyIter_listiter st h
theorem turn_tuple {P:Program} {w:World} {K:PySem.W.Frag} {tg:Expr} (a it:Addr):Turn P w K tg (Itt K a) [it] it (fun i h => h.IsTupleIter it a i) where
  mem:=by simp
  obj:=fun i h st b hb => by
    have e:b = it:=by simpa using hb
    subst e
    obtain ⟨o,e,c,d⟩:=st
    exact ⟨o,e,fun v z => by rw [d] at z; cases z⟩
  keep:=fun i h h' st k => st.at fun o e => k it (by simp) o e
  item:=by
    intro X hP hw hK hc i pins s σ H E I hf st hg
    subst hP hw hK
    obtain ⟨xs,x,hq,hx⟩:=hg
    obtain ⟨its,rv,p,hz⟩:=I.tuple hq
    obtain ⟨u,hu,ru⟩:=rv.get hx
    obtain ⟨f0,f1,f2,f3,f4,f5⟩:=hf it (by simp)
    refine wpAny_pyNext_tuple_item st (show s.heap.IsTuple a its.toArray from p) (x:=u) (by simpa using hu) fun h' st' sb => ?_
    have I1:Inv X pins σ H { s with heap:=h' }:=I.turned (t':=s.toks) (fun b o hb e => (sb.2 b hb).trans e) f0 f1 f3 f4 f5
    obtain ⟨o,e,c,d⟩:=id st'
    exact ⟨u,rfl,go_of (s:={ s with heap:=h' }) e c d (by decide) ⟨x,H,I1,ru,⟨rfl,fun ys hy => by rw [I.tuple_inj hy hq]; exact hx⟩,st',fun b hb => (hf b hb).1⟩⟩
  done:=by
    intro X hP hw hK hc i pins s σ H E I hf st hg
    subst hP hw hK
    obtain ⟨xs,hq,hx⟩:=hg
    obtain ⟨its,rv,p,hz⟩:=I.tuple hq
    obtain ⟨f0,f1,f2,f3,f4,f5⟩:=hf it (by simp)
    have hl:=rv.length
    exact wpAny_pyNext_tuple_end (I.ok.hd hc) st (show s.heap.IsTuple a its.toArray from p) (by simp; omega) fun h' eb => ⟨rfl,I.turned (t':=s.toks) (fun b o hb e => eb b o hb e) f0 f1 f3 f4 f5⟩
  self:=fun _ _ _ _ _ st h => wpAny_pyIter_tupleiter st h
theorem turn_range {P:Program} {w:World} {K:PySem.W.Frag} {tg:Expr} (it:Addr) (lo:Int) (n:Nat):Turn P w K tg (Itr lo n) [it] it (fun i h => IsRangeIter h it (lo + (i:Nat) * 1) ((n:Int) - (i:Nat)) 1) where
  mem:=by simp
  obj:=fun i h st b hb => by
    have e:b = it:=by simpa using hb
    subst e
    exact ⟨_,st,fun v z => by
      have z':Data.fields _ = Data.cell v:=z
      cases z'⟩
  keep:=fun i h h' st k => k it (by simp) _ st
  item:=by
    intro X hP hw hK hc i pins s σ H E I hf st hg
    subst hP hw hK
    obtain ⟨f0,f1,f2,f3,f4,f5⟩:=hf it (by simp)
    have W:=Walks.range (prog:=X.prog) (w:=X.w) (I.ok.hd hc) it lo 1 n
    refine W.item i s _ _ hg st fun v h' tk hv st' kk => ?_
    obtain ⟨t,rfl⟩:=hv
    have I1:Inv X pins σ H { s with heap:=h',toks:=tk }:=I.turned (fun b o hb e => kk b o (by simpa using hb) e) f0 f1 f3 f4 f5
    refine ⟨_,rfl,go_of (s:={ s with heap:=h',toks:=tk }) (n:="range_iterator") st' rfl rfl (by decide) ⟨.int (lo + i),H,I1,⟨t,?_⟩,⟨rfl,rfl⟩,st',fun b hb => (hf b hb).1⟩⟩
    rw [Int.mul_one]
  done:=by
    intro X hP hw hK hc i pins s σ H E I hf st hg
    subst hP hw hK
    obtain ⟨f0,f1,f2,f3,f4,f5⟩:=hf it (by simp)
    exact wpAny_pyNext_range_end (I.ok.hd hc) st (by have:n ≤ i:=hg; omega) fun h' eb => ⟨rfl,I.turned (t':=s.toks) (fun b o hb e => eb b o hb e) f0 f1 f3 f4 f5⟩
  self:=fun _ _ _ _ _ st h => wpAny_pyIter_rangeiter st h
end L2
namespace L2
open PySem PySem.Spec PyProof.Rows
section
variable {X:Cx} {tg:Expr}
noncomputable def iList (K:PySem.W.Frag) (tl:TE):TI:=fun σ H R => tl σ H fun x H1 => ∃ a,x = .ref a ∧ (∃ xs,SqL K H1 a xs) ∧ R (Itl K a) H1
noncomputable def iTup (K:PySem.W.Frag) (tl:TE):TI:=fun σ H R => tl σ H fun x H1 => ∃ a,x = .ref a ∧ (∃ xs,SqT K H1 a xs) ∧ R (Itt K a) H1
theorem pi_list {l:Expr} {tl:TE} (hl:PE X l tl):PI X tg l (iList X.K tl):=by
  intro pins s σ H R I h
  refine thn (hl pins s σ H _ I h) fun v s1 ⟨x,H1,I1,r1,q1⟩ => ?_
  obtain ⟨a,e,⟨xs,hq⟩,q⟩:=q1
  subst e
  cases r1
  obtain ⟨its,rv,p,hz⟩:=I1.list hq
  refine wpAny_pyIter_list p.isList ?_
  refine ⟨s1.heap.objs.size,[s1.heap.objs.size],_,_,H1,rfl,I1.kept (t':=s1.toks) fun b o e => Heap.get?_push_of_some _ e,turn_list a _,⟨_,Heap.get?_push_size _ rfl,rfl,rfl⟩,fun b hb => ?_,q⟩
  have e:b = s1.heap.objs.size:=by simpa using hb
  subst e
  exact I1.fpOk (Nat.le_refl _) (I1.hok.fresh (Nat.le_refl _))
theorem pi_tup {l:Expr} {tl:TE} (hl:PE X l tl):PI X tg l (iTup X.K tl):=by
  intro pins s σ H R I h
  refine thn (hl pins s σ H _ I h) fun v s1 ⟨x,H1,I1,r1,q1⟩ => ?_
  obtain ⟨a,e,⟨xs,hq⟩,q⟩:=q1
  subst e
  cases r1
  obtain ⟨its,rv,p,hz⟩:=I1.tuple hq
  refine wpAny_pyIter_tuple (show s1.heap.IsTuple a its.toArray from p) ?_
  refine ⟨s1.heap.objs.size,[s1.heap.objs.size],_,_,H1,rfl,I1.kept (t':=s1.toks) fun b o e => Heap.get?_push_of_some _ e,turn_tuple a _,⟨_,Heap.get?_push_size _ rfl,rfl,rfl⟩,fun b hb => ?_,q⟩
  have e:b = s1.heap.objs.size:=by simpa using hb
  subst e
  exact I1.fpOk (Nat.le_refl _) (I1.hok.fresh (Nat.le_refl _))
theorem range_it {pins:List (Addr × Obj)} {σ:St} {H:Hp} {s:Shared} {R:It → Hp → Prop} {E:Value → Shared → Prop} {lo hi:Int} {t u v:Tok} {tk:Nat} (I:Inv X pins σ H s) (h1:-(2 ^ 62) ≤ lo) (h2:lo < 2 ^ 62) (h3:-(2 ^ 62) ≤ hi) (h4:hi < 2 ^ 62)
    (q:R (Itr lo (hi - lo).toNat) H):wpAny (model X.prog X.w) X.A (pyIter (.ref s.heap.objs.size)) (PIE X pins σ tg R) E { s with heap:=s.heap.push { cls:=.type "range",data:=.fields #[.int lo t,.int hi u,.int 1 v] },toks:=tk }:=by
  refine wpAny_pyIter_range (IsRange.new ..) (small_one h1 h2 h3 h4) ?_
  have I1:Inv X pins σ H { s with heap:=s.heap.push { cls:=.type "range",data:=.fields #[.int lo t,.int hi u,.int 1 v] },toks:=tk }:=I.kept fun b o e => Heap.get?_push_of_some _ e
  refine ⟨(s.heap.push { cls:=.type "range",data:=.fields #[.int lo t,.int hi u,.int 1 v] }).objs.size,[(s.heap.push { cls:=.type "range",data:=.fields #[.int lo t,.int hi u,.int 1 v] }).objs.size],_,_,H,rfl,
    I1.kept (t':=tk) fun b o e => Heap.get?_push_of_some _ e,turn_range _ lo (hi - lo).toNat,?_,fun b hb => ?_,q⟩
  · have e1:lo + ((0:Nat):Int) * 1 = lo:=by simp
    have e2:(((hi - lo).toNat:Nat):Int) - ((0:Nat):Int) = Builtin.Range.rangeSize lo hi 1:=by rw [rangeSize_one]; split <;> omega
    show IsRangeIter _ _ (lo + ((0:Nat):Int) * 1) ((((hi - lo).toNat:Nat):Int) - ((0:Nat):Int)) 1
    rw [e1,e2]
    exact Heap.get?_push_size _ rfl
  · have e:b = (s.heap.push { cls:=.type "range",data:=.fields #[.int lo t,.int hi u,.int 1 v] }).objs.size:=by simpa using hb
    subst e
    exact I1.fpOk (Nat.le_refl _) (I1.hok.fresh (Nat.le_refl _))
noncomputable def iRng1 (ta:TA):TI:=fun σ H R => ta σ H fun vs H1 => ∃ j:Int,vs = [.int j] ∧ -(2 ^ 62) ≤ j ∧ j < 2 ^ 62 ∧ R (Itr 0 j.toNat) H1
noncomputable def iRng2 (ta:TA):TI:=fun σ H R => ta σ H fun vs H1 => ∃ i j:Int,vs = [.int i,.int j] ∧ (-(2 ^ 62) ≤ i ∧ i < 2 ^ 62 ∧ -(2 ^ 62) ≤ j ∧ j < 2 ^ 62) ∧ R (Itr i (j - i).toNat) H1
theorem pi_range1 {a:Expr} {ta:TA} {p pos:Pos} (hg:Gl X "range") (hm:X.mg "range" = none) (ha:PA X [a] ta) (hs:starEach [a] X.env = [(false,eval a X.env)]:=by rfl):PI X tg (.Call (.Name "range" p) [a] [] pos) (iRng1 ta):=by
  intro pins s σ H R I h
  refine Call_ (ld_blt I hg hm boot_range (PyProof.Rows.callWith_type1 (thn (ha pos pins s σ H _ I h) fun us s1 ⟨vs,H1,I1,r1,q1⟩ => ?_) hs rfl))
  obtain ⟨j,e,q1,q2,q⟩:=q1
  subst e
  cases r1 with
  | cons r rr =>
    cases rr
    obtain ⟨t,rfl⟩:=r
    exact call_range_1 (range_it I1 (by omega) (by omega) q1 q2 (by simpa using q))
theorem pi_range2 {a b:Expr} {ta:TA} {p pos:Pos} (hg:Gl X "range") (hm:X.mg "range" = none) (ha:PA X [a,b] ta) (hs:starEach [a,b] X.env = [(false,eval a X.env),(false,eval b X.env)]:=by rfl) (hs2:starEach [b] X.env = [(false,eval b X.env)]:=by rfl) :
    PI X tg (.Call (.Name "range" p) [a,b] [] pos) (iRng2 ta):=by
  intro pins s σ H R I h
  refine Call_ (ld_blt I hg hm boot_range (PyProof.Rows.callWith_type1 (thn (ha pos pins s σ H _ I h) fun us s1 ⟨vs,H1,I1,r1,q1⟩ => ?_) (by rw [hs,hs2]) (by rw [hs2]; rfl)))
  obtain ⟨i,j,e,⟨q1,q2,q3,q4⟩,q⟩:=q1
  subst e
  cases r1 with
  | cons r rr =>
    cases rr with
    | cons r' rr =>
      cases rr
      obtain ⟨t,rfl⟩:=r
      obtain ⟨t',rfl⟩:=r'
      exact call_range_2 (range_it I1 q1 q2 q3 q4 q)
noncomputable def tFor (wi:TI) (g:TG) (tb:TS):TS:=fun D σ H => wi σ H fun J H1 => ∃ W:Nat → Nat → St → Hp → Prop,(∃ m,W 0 m σ H1) ∧ ∀ i m σ H,W i m σ H →
  (J.stop i H ∧ D.nx σ H) ∨ (J.go i H ∧ ∃ N:St → Hp → Prop,(∀ σ' H',N σ' H' → ∃ m',m' < m ∧ W (i + 1) m' σ' H') ∧ ∀ x H',J.yld i H x H' → g x σ H' fun σ2 H2 => tb { D with nx:=N,ct:=N,bk:=D.nx } σ2 H2)
noncomputable def pinsAt (fp:List Addr) (h:Heap):List (Addr × Obj):=fp.filterMap fun b => (h.get? b).map fun o => (b,o)
theorem mem_pinsAt {fp:List Addr} {h:Heap} {b:Addr} {o:Obj} (hb:b ∈ fp) (e:h.get? b = some o):(b,o) ∈ pinsAt fp h:=List.mem_filterMap.mpr ⟨b,hb,by rw [e]; rfl⟩
theorem of_pinsAt {fp:List Addr} {h:Heap} {p:Addr × Obj} (hp:p ∈ pinsAt fp h):p.1 ∈ fp ∧ h.get? p.1 = some p.2:=by
  obtain ⟨b,hb,e⟩:=List.mem_filterMap.mp hp
  cases q:h.get? b with
  | none => rw [q] at e; cases e
  | some o =>
    rw [q] at e
    have e':(b,o) = p:=Option.some.inj e
    subst e'
    exact ⟨hb,q⟩
theorem Inv.pinned {pins:List (Addr × Obj)} {σ:St} {H:Hp} {s:Shared} {fp:List Addr} (I:Inv X pins σ H s) (hf:∀ b ∈ fp,FpOk X pins H b) (ho:∀ b ∈ fp,∃ o,s.heap.get? b = some o ∧ ∀ v,o.data ≠ .cell v):Inv X (pins ++ pinsAt fp s.heap) σ H s :=
  I.pins_of fun p hp => (List.mem_append.mp hp).elim (fun z => I.pin p (List.mem_append_right _ z)) fun z => by
    obtain ⟨hb,e⟩:=of_pinsAt z
    obtain ⟨f0,f1,f2,_⟩:=hf p.1 hb
    obtain ⟨o,e',d⟩:=ho p.1 hb
    rw [e] at e'; cases e'
    exact ⟨e,f0,f1,f2,d⟩
theorem Inv.unpinned {pins pl:List (Addr × Obj)} {σ:St} {H:Hp} {s:Shared} (I:Inv X (pins ++ pl) σ H s):Inv X pins σ H s:=I.pins_of fun p hp => I.pin p (List.mem_append_right _ (List.mem_append_left _ hp))
theorem ps_for {iter:Expr} {body:List Stmt} {wi:TI} {g:TG} {tb:TS} {pos:Pos} (hp:PassesOwn (model X.prog X.w) X.A X.env X.xe) (hc:X.calm = true) (hi:PI X tg iter wi) (hg:PG X tg g) (hb:PSs X body tb)
    (hs:∀ x,foldedSetIterable iter X.env x = pure x:=by intro _; rfl):PS X (.For tg iter body [] pos) (tFor wi g tb):=by
  intro pins s σ H D I h
  refine wpAny_For (thn (hi pins s σ H _ I h) fun v s1 h1 => thn h1 fun itv s2 h2 => ?_) hs
  obtain ⟨it,fp,tn,J,H2,e,I2,T,st2,f2,W,⟨m0,w0⟩,turn⟩:=h2
  subst e
  have stat:∀ {H':Hp},(∀ b ∈ fp,H' b = none) → ∀ b ∈ fp,FpOk X pins H' b:=fun hn b hb => ⟨hn b hb,(f2 b hb).2⟩
  refine codeAny_forLoop_any (fun n s' => ∃ i σ' H',Inv X pins σ' H' s' ∧ tn i s'.heap ∧ (∀ b ∈ fp,H' b = none) ∧ W i n σ' H') ?_ m0 ⟨0,σ,H2,I2,st2,fun b hb => (f2 b hb).1,w0⟩
  rintro n s3 ⟨i,σ3,H3,I3,st3,fr3,w3⟩
  rcases turn i n σ3 H3 w3 with ⟨stop,qn⟩ | ⟨go,N,hN,step⟩
  · refine wpAny_passesOwn hp (thn (T.done X rfl rfl rfl hc i pins s3 σ3 H3 X.xe I3 (stat fr3) st3 stop) fun r s4 ⟨hr,I4⟩ => ?_)
    subst hr
    exact wpAny_execs_nil ⟨σ3,H3,I4,qn⟩
  · refine wpAny_passesOwn hp (thn (T.item X rfl rfl rfl hc i pins s3 σ3 H3 X.xe I3 (stat fr3) st3 go) fun r s4 ⟨u,hr,h4⟩ => ?_)
    subst hr
    refine wpAny_passesOwn hp (thn h4 fun _ s5 ⟨x,H5,I5,r5,y5,st5,fr5⟩ => ?_)
    have I5':=I5.pinned (stat fr5) (T.obj _ _ st5)
    refine wpAny_passesOwn hp (thn (hg _ s5 σ3 H5 x u _ I5' r5 (step x H5 y5)) fun _ s6 ⟨σ6,H6,I6,q6⟩ => ?_)
    refine wpAny_passesOwn hp (thn (hb _ s6 σ6 H6 _ I6 q6) fun f s7 q7 => ?_)
    have again:∀ {σ7:St} {H7:Hp},Inv X (pins ++ pinsAt fp s5.heap) σ7 H7 s7 → N σ7 H7 → ∃ m,m < n ∧ ∃ i σ' H',Inv X pins σ' H' s7 ∧ tn i s7.heap ∧ (∀ b ∈ fp,H' b = none) ∧ W i m σ' H':=fun {σ7 H7} I7 n7 => by
      obtain ⟨m',hm,w7⟩:=hN σ7 H7 n7
      refine ⟨m',hm,i + 1,σ7,H7,I7.unpinned,T.keep _ _ _ st5 fun b hb o e => (I7.pin (b,o) (List.mem_append_right _ (List.mem_append_right _ (mem_pinsAt hb e)))).1,fun b hb => ?_,w7⟩
      obtain ⟨o,e,d⟩:=T.obj _ _ st5 b hb
      exact (I7.pin (b,o) (List.mem_append_right _ (List.mem_append_right _ (mem_pinsAt hb e)))).2.1
    cases f with
    | next => obtain ⟨σ7,H7,I7,n7⟩:=q7; exact again I7 n7
    | cont => obtain ⟨σ7,H7,I7,n7⟩:=q7; exact again I7 n7
    | brk => obtain ⟨σ7,H7,I7,q7⟩:=q7; exact ⟨σ7,H7,I7.unpinned,q7⟩
    | ret v => obtain ⟨x7,σ7,H7,I7,r7,q7⟩:=q7; exact ⟨x7,σ7,H7,I7.unpinned,r7,q7⟩
end
theorem for_list {K:PySem.W.Frag} {a:Addr} {xs:List V} {g:TG} {tb:TS} {D:Ends} {σ:St} {H:Hp} (Pv:Nat → St → Hp → Prop) (h0:Pv 0 σ H) (hl:∀ i σ H,i ≤ xs.length → Pv i σ H → SqL K H a xs)
    (hs:∀ i x σ H,xs[i]? = some x → Pv i σ H → g x σ H fun σ2 H2 => tb { D with nx:=Pv (i + 1),ct:=Pv (i + 1),bk:=D.nx } σ2 H2) (hd:∀ σ H,Pv xs.length σ H → D.nx σ H) :
    ∃ W:Nat → Nat → St → Hp → Prop,(∃ m,W 0 m σ H) ∧ ∀ i m σ H,W i m σ H →
      ((Itl K a).stop i H ∧ D.nx σ H) ∨ ((Itl K a).go i H ∧ ∃ N:St → Hp → Prop,(∀ σ' H',N σ' H' → ∃ m',m' < m ∧ W (i + 1) m' σ' H') ∧ ∀ x H',(Itl K a).yld i H x H' → g x σ H' fun σ2 H2 => tb { D with nx:=N,ct:=N,bk:=D.nx } σ2 H2):=by
  refine ⟨fun i m σ H => m = xs.length - i ∧ i ≤ xs.length ∧ Pv i σ H,⟨xs.length,by simp,Nat.zero_le _,h0⟩,?_⟩
  rintro i m σ H ⟨rfl,hi,p⟩
  have q:=hl i σ H hi p
  by_cases hlt:i < xs.length
  · refine .inr ⟨⟨xs,xs[i],q,by simp [hlt]⟩,Pv (i + 1),fun σ' H' p' => ⟨xs.length - (i + 1),by omega,rfl,hlt,p'⟩,fun x H' y => ?_⟩
    obtain ⟨e,y⟩:=y
    subst e
    exact hs i x σ _ (y xs q) p
  · have e:i = xs.length:=by omega
    subst e
    exact .inl ⟨⟨xs,q,Nat.le_refl _⟩,hd σ H p⟩
theorem for_tup {K:PySem.W.Frag} {a:Addr} {xs:List V} {g:TG} {tb:TS} {D:Ends} {σ:St} {H:Hp} (Pv:Nat → St → Hp → Prop) (h0:Pv 0 σ H) (hl:∀ i σ H,i ≤ xs.length → Pv i σ H → SqT K H a xs)
    (hs:∀ i x σ H,xs[i]? = some x → Pv i σ H → g x σ H fun σ2 H2 => tb { D with nx:=Pv (i + 1),ct:=Pv (i + 1),bk:=D.nx } σ2 H2) (hd:∀ σ H,Pv xs.length σ H → D.nx σ H) :
    ∃ W:Nat → Nat → St → Hp → Prop,(∃ m,W 0 m σ H) ∧ ∀ i m σ H,W i m σ H →
      ((Itt K a).stop i H ∧ D.nx σ H) ∨ ((Itt K a).go i H ∧ ∃ N:St → Hp → Prop,(∀ σ' H',N σ' H' → ∃ m',m' < m ∧ W (i + 1) m' σ' H') ∧ ∀ x H',(Itt K a).yld i H x H' → g x σ H' fun σ2 H2 => tb { D with nx:=N,ct:=N,bk:=D.nx } σ2 H2):=by
  refine ⟨fun i m σ H => m = xs.length - i ∧ i ≤ xs.length ∧ Pv i σ H,⟨xs.length,by simp,Nat.zero_le _,h0⟩,?_⟩
  rintro i m σ H ⟨rfl,hi,p⟩
  have q:=hl i σ H hi p
  by_cases hlt:i < xs.length
  · refine .inr ⟨⟨xs,xs[i],q,by simp [hlt]⟩,Pv (i + 1),fun σ' H' p' => ⟨xs.length - (i + 1),by omega,rfl,hlt,p'⟩,fun x H' y => ?_⟩
    obtain ⟨e,y⟩:=y
    subst e
    exact hs i x σ _ (y xs q) p
  · have e:i = xs.length:=by omega
    subst e
    exact .inl ⟨⟨xs,q,Nat.le_refl _⟩,hd σ H p⟩
theorem for_range {lo:Int} {n:Nat} {g:TG} {tb:TS} {D:Ends} {σ:St} {H:Hp} (Pv:Nat → St → Hp → Prop) (h0:Pv 0 σ H)
    (hs:∀ i σ H,i < n → Pv i σ H → g (.int (lo + i)) σ H fun σ2 H2 => tb { D with nx:=Pv (i + 1),ct:=Pv (i + 1),bk:=D.nx } σ2 H2) (hd:∀ σ H,Pv n σ H → D.nx σ H) :
    ∃ W:Nat → Nat → St → Hp → Prop,(∃ m,W 0 m σ H) ∧ ∀ i m σ H,W i m σ H →
      ((Itr lo n).stop i H ∧ D.nx σ H) ∨ ((Itr lo n).go i H ∧ ∃ N:St → Hp → Prop,(∀ σ' H',N σ' H' → ∃ m',m' < m ∧ W (i + 1) m' σ' H') ∧ ∀ x H',(Itr lo n).yld i H x H' → g x σ H' fun σ2 H2 => tb { D with nx:=N,ct:=N,bk:=D.nx } σ2 H2):=by
  refine ⟨fun i m σ H => m = n - i ∧ i ≤ n ∧ Pv i σ H,⟨n,by simp,Nat.zero_le _,h0⟩,?_⟩
  rintro i m σ H ⟨rfl,hi,p⟩
  by_cases hlt:i < n
  · refine .inr ⟨hlt,Pv (i + 1),fun σ' H' p' => ⟨n - (i + 1),by omega,rfl,hlt,p'⟩,fun x H' y => ?_⟩
    obtain ⟨e,y⟩:=y
    subst e y
    exact hs i σ _ hlt p
  · have e:i = n:=by omega
    subst e
    exact .inl ⟨Nat.le_refl _,hd σ H p⟩
theorem while_by {c:TT} {tb:TS} {D:Ends} {σ:St} {H:Hp} (Pv:St → Hp → Prop) (μ:St → Hp → Nat) (h0:Pv σ H)
    (hs:∀ σ H,Pv σ H → c σ H fun b H1 => if b = true then tb { D with nx:=fun σ' H' => Pv σ' H' ∧ μ σ' H' < μ σ H,ct:=fun σ' H' => Pv σ' H' ∧ μ σ' H' < μ σ H,bk:=D.nx } σ H1 else D.nx σ H1)
    (mono:∀ σ H Q Q',(∀ b H1,Q b H1 → Q' b H1) → c σ H Q → c σ H Q'):tWhile c tb D σ H:=by
  refine ⟨fun m σ H => m = μ σ H ∧ Pv σ H,⟨_,rfl,h0⟩,?_⟩
  rintro m σ H ⟨rfl,p⟩
  refine mono σ H _ _ (fun b H1 q => ?_) (hs σ H p)
  cases b with
  | true => exact ⟨_,fun σ' H' ⟨p',l⟩ => ⟨_,l,rfl,p'⟩,q⟩
  | false => exact q
end L2
namespace L2
open PySem PySem.Spec PyProof.Rows
noncomputable abbrev R2:=V → V → Hp → VK → Prop
noncomputable def OpR (X:Cx) (f:Value → Value → Sem Value) (r:R2):Prop :=
  ∀ (pins:List (Addr × Obj)) (s:Shared) (σ:St) (H:Hp) (x y:V) (v u:Value) (Q:VK),Inv X pins σ H s → RelV x v → RelV y u → r x y H Q →
    wpAny (model X.prog X.w) X.A (f v u) (EP X pins σ Q) X.xe s
noncomputable def CallR (X:Cx) (f:Value) (r:List V → Hp → VK → Prop):Prop :=
  ∀ (pins:List (Addr × Obj)) (s:Shared) (σ:St) (H:Hp) (xs:List V) (us:List Value) (Q:VK),Inv X pins σ H s → Vals xs us → r xs H Q →
    wpAny (model X.prog X.w) X.A (call f us) (EP X pins σ Q) X.xe s
noncomputable def tOp (r:R2) (ta tb:TE):TE:=fun σ H Q => ta σ H fun x H1 => tb σ H1 fun y H2 => r x y H2 Q
noncomputable def rI (C:Int → Int → Prop) (g:Int → Int → V):R2:=fun x y H Q => ∃ i j,x = .int i ∧ y = .int j ∧ C i j ∧ Q (g i j) H
noncomputable def rI0 (g:Int → Int → V):R2:=fun x y H Q => ∃ i j,x = .int i ∧ y = .int j ∧ Q (g i j) H
section
variable {X:Cx} {a b c:Expr} {ta tb tc:TE} {pos:Pos}
theorem binT (ha:PE X a ta) (hb:PE X b tb) {pins:List (Addr × Obj)} {s:Shared} {σ:St} {H:Hp} {R:V → V → Hp → Prop} (I:Inv X pins σ H s)
    (h:ta σ H fun x H1 => tb σ H1 fun y H2 => R x y H2) {Q:Value → Shared → Prop} {f:Value → Value → Sem Value}
    (hf:∀ v u s2 x y H2,Inv X pins σ H2 s2 → RelV x v → RelV y u → R x y H2 → wpAny (model X.prog X.w) X.A (f v u) Q X.xe s2) :
    wpAny (model X.prog X.w) X.A (eval a X.env) (fun v s₁ => wpAny (model X.prog X.w) X.A (eval b X.env) (fun u s₂ => wpAny (model X.prog X.w) X.A (f v u) Q X.xe s₂) X.xe s₁) X.xe s:=by
  refine thn (ha pins s σ H _ I h) fun v s1 ⟨x,H1,I1,r1,q1⟩ => ?_
  refine thn (hb pins s1 σ H1 _ I1 q1) fun u s2 ⟨y,H2,I2,r2,q2⟩ => ?_
  exact hf v u s2 x y H2 I2 r1 r2 q2
theorem pe_op {op:Operator} {r:R2} (ho:OpR X (binaryOp op) r) (ha:PE X a ta) (hb:PE X b tb):PE X (.BinOp a op b pos) (tOp r ta tb):=by
  intro pins s σ H Q I h
  exact wpAny_BinOp (binT ha hb I h fun v u s2 x y H2 I2 rx ry q => ho pins s2 σ H2 x y v u Q I2 rx ry q)
theorem opI {f:Value → Value → Sem Value} {C:Int → Int → Prop} {g:Int → Int → Int}
    (rule:∀ (i j:Int) (t u:Tok) (s:Shared) (Q:Value → Shared → Prop) (E:Value → Shared → Prop),C i j → Q (.int (g i j) s.toks) { s with toks:=s.toks + 1 } → wpAny (model X.prog X.w) X.A (f (.int i t) (.int j u)) Q E s) :
    OpR X f (rI C fun i j => .int (g i j)):=by
  intro pins s σ H x y v u Q I rx ry h
  obtain ⟨i,j,rfl,rfl,hc,q⟩:=h
  obtain ⟨t,rfl⟩:=rx
  obtain ⟨t',rfl⟩:=ry
  exact rule i j t t' s _ _ hc ⟨.int (g i j),H,I.tok _,⟨_,rfl⟩,q⟩
theorem opI0 {f:Value → Value → Sem Value} {g:Int → Int → Int}
    (rule:∀ (i j:Int) (t u:Tok) (s:Shared) (Q:Value → Shared → Prop) (E:Value → Shared → Prop),Q (.int (g i j) s.toks) { s with toks:=s.toks + 1 } → wpAny (model X.prog X.w) X.A (f (.int i t) (.int j u)) Q E s) :
    OpR X f (rI0 fun i j => .int (g i j)):=by
  intro pins s σ H x y v u Q I rx ry h
  obtain ⟨i,j,rfl,rfl,q⟩:=h
  obtain ⟨t,rfl⟩:=rx
  obtain ⟨t',rfl⟩:=ry
  exact rule i j t t' s _ _ ⟨.int (g i j),H,I.tok _,⟨_,rfl⟩,q⟩
theorem opB0 {f:Value → Value → Sem Value} {g:Int → Int → Bool}
    (rule:∀ (i j:Int) (t u:Tok) (s:Shared) (Q:Value → Shared → Prop) (E:Value → Shared → Prop),Q (.bool (g i j)) s → wpAny (model X.prog X.w) X.A (f (.int i t) (.int j u)) Q E s) :
    OpR X f (rI0 fun i j => .bl (g i j)):=by
  intro pins s σ H x y v u Q I rx ry h
  obtain ⟨i,j,rfl,rfl,q⟩:=h
  obtain ⟨t,rfl⟩:=rx
  obtain ⟨t',rfl⟩:=ry
  exact rule i j t t' s _ _ ⟨.bl (g i j),H,I,rfl,q⟩
noncomputable def CDiv (i j:Int):Prop:=0 < j ∧ j < 1073741824
noncomputable def CPow (i j:Int):Prop:=0 ≤ j ∧ j ≤ 1000000 ∧ i.natAbs < 2 ^ 64
noncomputable def CMul (i j:Int):Prop:=(-(2 ^ 64) < i ∧ i < 2 ^ 64) ∨ (-(2 ^ 64) < j ∧ j < 2 ^ 64)
theorem CMul.ok {i j:Int} (h:CMul i j):IntMulOk i j:=by
  rcases h with ⟨h1,h2⟩ | ⟨h1,h2⟩
  · exact .of_left (intBits_le_64 h1 h2)
  · exact .of_right (intBits_le_64 h1 h2)
theorem op_add:OpR X (binaryOp .Add) (rI0 fun i j => .int (i + j)):=opI0 fun _ _ _ _ _ _ _ q => add_int q
theorem op_mul:OpR X (binaryOp .Mult) (rI CMul fun i j => .int (i * j)):=opI fun _ _ _ _ _ _ _ hc q => mul_int q hc.ok
theorem op_fdiv:OpR X (binaryOp .FloorDiv) (rI CDiv fun i j => .int (i / j)):=opI fun i j _ _ _ _ _ hc q => by
  have h1:(0:Int) < j:=hc.1
  have h2:j < 1073741824:=hc.2
  exact floordiv_int (by omega) (by rw [Int.fdiv_eq_ediv_of_nonneg i (by omega)]; exact q) (.inl (PyProof.noPylong_small (by omega)))
theorem op_mod:OpR X (binaryOp .Mod) (rI (fun _ j => 0 < j) fun i j => .int (i % j)):=opI fun i j _ _ _ _ _ hc q => by
  have h1:(0:Int) < j:=hc
  exact mod_int' (by omega) (by rw [Int.fmod_eq_emod_of_nonneg i (by omega)]; exact q)
theorem op_pow:OpR X (binaryOp .Pow) (rI CPow fun i j => .int (i ^ j.toNat)):=opI fun _ _ _ _ _ _ _ hc q => pow_int_small hc.1 hc.2.1 hc.2.2 q
end
noncomputable def scal:V → V → Bool
  | .non,.non => true | .non,.int _ => true | .int _,.non => true | .non,.bl _ => true | .bl _,.non => true | .non,.str _ => true | .str _,.non => true
  | .int _,.int _ => true | .bl _,.bl _ => true | .str _,.str _ => true | .byt _,.byt _ => true
  | .int _,.str _ => true | .str _,.int _ => true | .bl _,.str _ => true | .str _,.bl _ => true
  | _,_ => false
noncomputable def rEq:R2:=fun x y H Q => scal x y = true ∧ Q (.bl (decide (x = y))) H
theorem dec_int {i j:Int}:decide (V.int i = V.int j) = (i == j):=by
  rw [Bool.eq_iff_iff]
  simp
theorem dec_bl {i j:Bool}:decide (V.bl i = V.bl j) = (i == j):=by
  rw [Bool.eq_iff_iff]
  simp
theorem dec_str {i j:Str}:decide (V.str i = V.str j) = (i == j):=by
  rw [Bool.eq_iff_iff]
  simp
theorem dec_byt {i j:Array UInt8}:decide (V.byt i = V.byt j) = (i.toList == j.toList):=by
  rw [Bool.eq_iff_iff]
  cases i
  cases j
  simp
section
variable {X:Cx} {a b c:Expr} {ta tb tc:TE} {pos:Pos}
theorem fin_bl {pins:List (Addr × Obj)} {σ:St} {H:Hp} {s:Shared} {Q:VK} {k k':Bool} (I:Inv X pins σ H s) (q:Q (.bl k) H) (e:k = k'):EP X pins σ Q (.bool k') s:=by
  subst e
  exact ⟨.bl k,H,I,rfl,q⟩
theorem op_eq:OpR X (compareOp .Eq) rEq:=by
  intro pins s σ H x y v u Q I rx ry h
  obtain ⟨hs,q⟩:=h
  cases x with
  | non =>
    cases rx
    cases y with
    | non => cases ry; exact PySem.EqNone.eq_none_none (fin_bl I q (by simp))
    | bl j => cases ry; exact PySem.EqNone.eq_none_bool (fin_bl I q (by simp))
    | int j => obtain ⟨t',rfl⟩:=ry; exact PySem.EqNone.eq_none_int (fin_bl I q (by simp))
    | str j => obtain ⟨t',rfl⟩:=ry; exact PySem.EqNone.eq_none_str (fin_bl I q (by simp))
    | _ => exact absurd (show false = true from hs) Bool.false_ne_true
  | bl i =>
    cases rx
    cases y with
    | non => cases ry; exact PySem.EqNone.eq_bool_none (fin_bl I q (by simp))
    | bl j => cases ry; exact eq_bool (fin_bl I q dec_bl)
    | str j => obtain ⟨t',rfl⟩:=ry; exact PySem.EqMixed.eq_bool_str (fin_bl I q (by simp))
    | _ => exact absurd (show false = true from hs) Bool.false_ne_true
  | int i =>
    obtain ⟨t,rfl⟩:=rx
    cases y with
    | non => cases ry; exact PySem.EqNone.eq_int_none (fin_bl I q (by simp))
    | int j => obtain ⟨t',rfl⟩:=ry; exact eq_int (fin_bl I q dec_int)
    | str j => obtain ⟨t',rfl⟩:=ry; exact PySem.EqMixed.eq_int_str (fin_bl I q (by simp))
    | _ => exact absurd (show false = true from hs) Bool.false_ne_true
  | str i =>
    obtain ⟨t,rfl⟩:=rx
    cases y with
    | non => cases ry; exact PySem.EqNone.eq_str_none (fin_bl I q (by simp))
    | bl j => cases ry; exact PySem.EqMixed.eq_str_bool (fin_bl I q (by simp))
    | int j => obtain ⟨t',rfl⟩:=ry; exact PySem.EqMixed.eq_str_int (fin_bl I q (by simp))
    | str j => obtain ⟨t',rfl⟩:=ry; exact eq_str (fin_bl I q dec_str)
    | _ => exact absurd (show false = true from hs) Bool.false_ne_true
  | byt i =>
    obtain ⟨t,rfl⟩:=rx
    cases y with
    | byt j => obtain ⟨t',rfl⟩:=ry; exact PySem.W.eq_bytes (fin_bl I q dec_byt)
    | _ => exact absurd (show false = true from hs) Bool.false_ne_true
  | _ => cases y <;> exact absurd (show false = true from hs) Bool.false_ne_true
theorem op_lt:OpR X (compareOp .Lt) (rI0 fun i j => .bl (decide (i < j))):=opB0 fun _ _ _ _ _ _ _ q => lt_int q
theorem op_gt:OpR X (compareOp .Gt) (rI0 fun i j => .bl (decide (j < i))):=opB0 fun _ _ _ _ _ _ _ q => gt_int q
theorem nomark (b:Expr) {op:CmpOp} (h:op ≠ .In:=by decide) (h2:op ≠ .NotIn:=by decide):behindInMarks op b = false:=by
  have e1:(op == CmpOp.In) = false:=by cases op <;> first | rfl | exact absurd rfl h
  have e2:(op == CmpOp.NotIn) = false:=by cases op <;> first | rfl | exact absurd rfl h2
  cases b <;> simp [behindInMarks,e1,e2]
theorem pe_cmpR {op:CmpOp} {r:R2} (ho:OpR X (compareOp op) r) (ha:PE X a ta) (hb:PE X b tb) (hm:behindInMarks op b = false):PE X (.Compare a [op] [b] pos) (tOp r ta tb):=by
  intro pins s σ H Q I h
  exact wpAny_Compare1 (binT ha hb I h fun v u s2 x y H2 I2 rx ry q => ho pins s2 σ H2 x y v u Q I2 rx ry q) hm
noncomputable def tTest (t:TE):TT:=fun σ H Q => t σ H fun x H' => ∃ k,x = .bl k ∧ Q k H'
theorem pt_cmpR {op:CmpOp} {r:R2} (ho:OpR X (compareOp op) r) (ha:PE X a ta) (hb:PE X b tb) (hm:behindInMarks op b = false):PT X (.Compare a [op] [b] pos) (tTest (tOp r ta tb)):=by
  intro pins s σ H Q I h
  refine wpAny_isTrue_Compare1 (thn (ha pins s σ H _ I h) fun v s1 ⟨x,H1,I1,r1,q1⟩ => thn (hb pins s1 σ H1 _ I1 q1) fun u s2 ⟨y,H2,I2,r2,q2⟩ =>
    thn (ho pins s2 σ H2 x y v u _ I2 r1 r2 q2) fun c s3 ⟨z,H3,I3,r3,k,e,q3⟩ => ?_) hm
  subst e
  cases r3
  exact wpAny_truthy_bool ⟨H3,I3,q3⟩
theorem line63:(sizeLine:Nat) < 2 ^ 63:=by rw [sizeLine_eq]; decide
theorem op_add_str:OpR X (binaryOp .Add) (fun x y H Q => ∃ i j,x = .str i ∧ y = .str j ∧ i.length + j.length ≤ sizeLine ∧ Q (.str (i ++ j)) H):=by
  intro pins s σ H x y v u Q I rx ry h
  obtain ⟨i,j,rfl,rfl,hz,q⟩:=h
  obtain ⟨t,rfl⟩:=rx
  obtain ⟨t',rfl⟩:=ry
  exact add_str (fun t' tk => ⟨.str (i ++ j),H,I.tok _,⟨_,rfl⟩,q⟩) hz
theorem vals1 {x:V} {us:List Value} (r:Vals [x] us):∃ u,us = [u] ∧ RelV x u:=by
  cases r with
  | cons r1 r2 => cases r2; exact ⟨_,rfl,r1⟩
theorem vals2 {x y:V} {us:List Value} (r:Vals [x,y] us):∃ u w',us = [u,w'] ∧ RelV x u ∧ RelV y w':=by
  cases r with
  | cons r1 r2 =>
    cases r2 with
    | cons r3 r4 => cases r4; exact ⟨_,_,rfl,r1,r3⟩
end
end L2
namespace L2
open PySem PySem.Spec PyProof.Rows
structure ObjM (h:Heap) (x dx C:Addr) (mA:Str → Option Value):Prop where
  obj:h.get? x = some (PySem.W.instObj C dx)
  ns:h.Ns1 dx mA
  ne:dx ≠ x
theorem lookIn_ns {h:Heap} {dx:Addr} {mA:Str → Option Value} (n:h.Ns1 dx mA):∃ od,h.get? dx = some od ∧ ∀ name,PySem.W.lookIn name od = some (mA name):=by
  obtain ⟨o,es,ep,ho,hd,hk,_,hm⟩:=n
  refine ⟨o,ho,fun name => ?_⟩
  have e:=hm name
  unfold nsFind findBy at e
  rw [← Array.find?_toList] at e
  unfold PySem.W.lookIn
  rw [hd]
  dsimp only
  split
  · rename_i y q
    rw [q] at e
    exact congrArg some e
  · rename_i q
    rw [q] at e
    have a:es.toList.any (·.refKey) = false:=by
      rw [List.any_eq_false]
      intro y hy
      obtain ⟨z,t,hkey⟩:=hk y (Array.mem_toList_iff.mp hy)
      simp [DictEntry.refKey,hkey]
    have a':¬ es.toList.any (·.refKey) = true:=by rw [a]; exact Bool.false_ne_true
    rw [if_neg a']
    exact congrArg some e
theorem ObjM.look {h:Heap} {x dx C:Addr} {mA:Str → Option Value} (I:ObjM h x dx C mA):∃ od,PySem.W.InstAt h x (PySem.W.instObj C dx) C (some od) ∧ ∀ name,PySem.W.lookIn name od = some (mA name) :=
  let ⟨od,ho,hl⟩:=lookIn_ns I.ns
  ⟨od,⟨I.obj,rfl,rfl,ho⟩,hl⟩
section
variable {prog:Program} {w:World} {A:Around} {E:Value → Shared → Prop} {s:Shared} {K:PySem.W.Frag} {x dx C f:Addr} {mA:Str → Option Value} {name:Str} {v:Value}
theorem get_map {expr:Bool} {Q:Value → Shared → Prop} (X:K.In s.heap) (I:ObjM s.heap x dx C mA) (hg:PySem.W.plainGet K C name = true) (hh:PySem.W.hasDictIn K C = true)
    (ha:PySem.W.findIn K (.ref C) name = some none) (hv:mA name = some v) (hv':PySem.W.handedIn v = true) (h:Q v { s with toks:=s.toks + 1 }) :
    wpAny (model prog w) A (getAttr (.ref x) name expr) Q E s:=by
  obtain ⟨od,J,hl⟩:=I.look
  exact PySem.W.get_value X J (PySem.W.plainGet_of hg).1 (PySem.W.findObj_own hh ha rfl (by rw [hl,hv])) hv' h
theorem get_meth {pl:Sem Bool} {Q:Value × List Value → Shared → Prop} (X:K.In s.heap) (I:ObjM s.heap x dx C mA) (hg:PySem.W.plainGet K C name = true)
    (hf:PySem.W.findIn K (.ref C) name = some (some (.ref f))) (ht:PySem.W.isFn K (.ref f) = true) (hv:mA name = none) (h:Q (.ref f,[.ref x]) s) :
    wpAny (model prog w) A (getMethod (.ref x) name pl) Q E s:=by
  obtain ⟨od,J,hl⟩:=I.look
  exact PySem.W.method_fn X J (PySem.W.plainGet_of hg).1 (PySem.W.plainGet_of hg).2 hf (beq_iff_eq.mp ht) (by show (PySem.W.lookIn name od).map (·.isSome) = some false; rw [hl,hv]; rfl) h
theorem set_map {ns:List Str} {Q:Unit → Shared → Prop} (X:K.In s.heap) (I:ObjM s.heap x dx C mA)
    (hs:PySem.W.findIn K (.ref C) "__setattr__" = some (some (.builtin "object.__setattr__"))) (hp:PySem.W.plainOver K C = true) (ht:PySem.W.takerIn K C name = some none) (hh:PySem.W.hasDictIn K C = true)
    (hw:PySem.Within mA ns) (hsz:ns.length ≤ sizeLine)
    (h:∀ h',ObjM h' x dx C (fun y => if y = name then some v else mA y) → Heap.SameBut dx s.heap h' → Q () { s with heap:=h',toks:=s.toks + 2 }) :
    wpAny (model prog w) A (setAttr (.ref x) name v) Q E s:=by
  obtain ⟨od,J,hl⟩:=I.look
  refine PySem.W.set_plain X J hs (PySem.W.osa_open (s:={ s with toks:=s.toks + 1 }) (r:=none) X J hp ht fun b => ?_)
  obtain ⟨cd,hc,hd'⟩:=PySem.W.any_some hh
  have hx:s.heap.get? x = some ⟨.ref C,some dx,.plain,#[]⟩:=I.obj
  refine wpAny_bind (wpAny_pure (wpAny_bind (wpAny_bind (wpAny_loadPart hx (wpAny_bind (PySem.W.Looks.here (s:={ s with toks:=s.toks + 1 }) (PySem.W.looks_clsIn X hc) ?_))))))
  rw [hd']
  refine wpAny_pure (a:=some dx) (wpAny_bind (wpAny_pure (wpAny_bind ?_)))
  refine wpAny_nsSet1 (s:={ s with toks:=s.toks + 1 }) I.ns fun h' hn2 hs2 => ?_
  obtain ⟨oD,esD,epD,hoD,hdD,hcD⟩:=hn2.count (PySem.Within.cons name v hw)
  refine wpAny_bind (wpAny_lookBehind hoD (by rw [hdD]; exact pastItsLine_dict (Nat.le_trans hcD (by rw [List.length_cons]; omega))) ?_)
  exact wpAny_pure (h _ ⟨(hs2.2 _ (Ne.symm I.ne)).trans I.obj,hn2,I.ne⟩ hs2)
theorem make_map {R:Result → Shared → Prop} {vs:List Value} {kw:List (Str × Value)} (X:K.In s.heap) (hm:PySem.W.makesIn K C = true)
    (hi:PySem.W.findIn K (.ref C) "__init__" = some (some (.ref f))) (hf:PySem.W.typeIn K (.ref f) = some (.type "function"))
    (h:codeAny (model prog w) (A.under (.builtin "type.__call__" ⟨.ref C :: vs,kw⟩)) (.call (.ref f) ⟨.ref (s.heap.objs.size + 1) :: vs,kw⟩) (PySem.W.InitBack (s.heap.objs.size + 1) R)
      { s with heap:=(s.heap.push PySem.W.emptyDict).push (PySem.W.instObj C s.heap.objs.size) }) :
    codeAny (model prog w) A (.call (.ref C) ⟨vs,kw⟩) R s:=by
  obtain ⟨hh,g,d,t,os⟩:=s
  exact PySem.W.make_core (PySem.W.makes_of X hm) (PySem.W.looks_findIn X hi) (fun self => PySem.W.bind_fn X self hf) (.inl rfl) h
end
noncomputable def putF (f:Str) (v:V):List (Str × V) → List (Str × V)
  | [] => [(f,v)]
  | (g,x) :: r => if g = f then (g,v) :: r else (g,x) :: putF f v r
theorem lookup_putF (f g:Str) (v:V):∀ fs:List (Str × V),(putF f v fs).lookup g = if g = f then some v else fs.lookup g
  | [] => by
    show List.lookup g [(f,v)] = _
    by_cases h:g = f
    · have hb:(g == f) = true:=beq_iff_eq.mpr h
      simp only [List.lookup,hb,if_pos h]
    · have hb:(g == f) = false:=beq_eq_false_iff_ne.mpr h
      simp only [List.lookup,hb,if_neg h]
  | (k,x) :: r => by
    have ih:=lookup_putF f g v r
    rw [show putF f v ((k,x) :: r) = (if k = f then (k,v) :: r else (k,x) :: putF f v r) from rfl]
    by_cases hk:k = f
    · rw [if_pos hk]
      by_cases h:g = k
      · have hb:(g == k) = true:=beq_iff_eq.mpr h
        simp only [List.lookup,hb,if_pos (h.trans hk)]
      · have hb:(g == k) = false:=beq_eq_false_iff_ne.mpr h
        simp only [List.lookup,hb,if_neg (fun e:g = f => h (e.trans hk.symm))]
    · rw [if_neg hk]
      by_cases h:g = k
      · have hb:(g == k) = true:=beq_iff_eq.mpr h
        simp only [List.lookup,hb,if_neg (fun e:g = f => hk (h.symm.trans e))]
      · have hb:(g == k) = false:=beq_eq_false_iff_ne.mpr h
        simp only [List.lookup,hb]
        exact ih
theorem keys_putF (f:Str) (v:V):∀ fs:List (Str × V),f ∈ (putF f v fs).map (·.1) ∧ ∀ g,g ∈ fs.map (·.1) → g ∈ (putF f v fs).map (·.1)
  | [] => ⟨by simp [putF],fun g h => by simp at h⟩
  | (k,x) :: r => by
    obtain ⟨i1,i2⟩:=keys_putF f v r
    rw [show putF f v ((k,x) :: r) = (if k = f then (k,v) :: r else (k,x) :: putF f v r) from rfl]
    by_cases hk:k = f
    · rw [if_pos hk]
      subst hk
      exact ⟨by simp,fun g h => by simpa using h⟩
    · rw [if_neg hk]
      refine ⟨?_,fun g h => ?_⟩
      · rw [List.map_cons]
        exact List.mem_cons_of_mem _ i1
      · rw [List.map_cons] at h ⊢
        rcases List.mem_cons.mp h with e | e
        · exact List.mem_cons.mpr (.inl e)
        · exact List.mem_cons_of_mem _ (i2 g e)
theorem length_putF (f:Str) (v:V):∀ fs:List (Str × V),(putF f v fs).length ≤ fs.length + 1
  | [] => by simp [putF]
  | (k,x) :: r => by
    have ih:=length_putF f v r
    rw [show putF f v ((k,x) :: r) = (if k = f then (k,v) :: r else (k,x) :: putF f v r) from rfl]
    by_cases hk:k = f
    · rw [if_pos hk,List.length_cons,List.length_cons]; omega
    · rw [if_neg hk,List.length_cons,List.length_cons]; omega
theorem RelO.some_of {v:V} {o:Option Value} (r:RelO (some v) o):∃ u,o = some u ∧ RelV v u:=by
  cases o with
  | none => exact (show False from r).elim
  | some u => exact ⟨u,rfl,r⟩
theorem RelO.none_of {o:Option Value} (r:RelO none o):o = none:=by
  cases o with
  | none => rfl
  | some u => exact (show False from r).elim
theorem handed_of {v:V} {u:Value} (r:RelV v u):PySem.W.handedIn u = true:=by
  cases v with
  | non => cases (show u = Value.none from r); rfl
  | bl b => cases (show u = Value.bool b from r); rfl
  | int i => obtain ⟨t,e⟩:=(show ∃ t,u = Value.int i t from r); cases e; rfl
  | str x => obtain ⟨t,e⟩:=(show ∃ t,u = Value.str x t from r); cases e; rfl
  | byt b => obtain ⟨t,e⟩:=(show ∃ t,u = Value.bytes b t from r); cases e; rfl
  | flt b => obtain ⟨t,e⟩:=(show ∃ t,u = Value.float b t from r); cases e; rfl
  | ref a => cases (show u = Value.ref a from r); rfl
  | ty n => cases (show u = Value.type n from r); rfl
section
variable {P:Program} {w:World} {H H':Hp} {h h':Heap} {a C dx:Addr} {fs fs':List (Str × V)}
theorem ins_get (hok:HOk P w H h) (e:H a = some (.ins C dx fs)):∃ mA,ObjM h a dx C mA ∧ (∀ f,RelO (fs.lookup f) (mA f)) ∧ PySem.Within mA (fs.map (·.1)) ∧ fs.length ≤ 1000 ∧ H dx = some (.own a):=by
  obtain ⟨d,z,ne,ob,mA,n,r,q⟩:=(show ObjOk P w H h a (.ins C dx fs) from hok a _ e)
  exact ⟨mA,⟨ob,n,ne⟩,r,q,z,d⟩
end
structure Cls (K:PySem.W.Frag) (C:Addr):Prop where
  pg:PySem.W.plainGet K C Str.empty = true
  hd:PySem.W.hasDictIn K C = true
  po:PySem.W.plainOver K C = true
  sa:PySem.W.findIn K (.ref C) "__setattr__" = some (some (.builtin "object.__setattr__"))
theorem Cls.get {K:PySem.W.Frag} {C:Addr} (c:Cls K C) (f:Str):PySem.W.plainGet K C f = true:=c.pg
noncomputable def NoAttr (K:PySem.W.Frag) (C:Addr) (f:Str):Prop:=PySem.W.findIn K (.ref C) f = some none
theorem NoAttr.taker {K:PySem.W.Frag} {C:Addr} {f:Str} (n:NoAttr K C f):PySem.W.takerIn K C f = some none:=by
  unfold PySem.W.takerIn
  rw [show PySem.W.findIn K (.ref C) f = some none from n]
  rfl
structure Con (K:PySem.W.Frag) (C:Addr) (f:Str) (v:V) (u:Value):Prop where
  at_:PySem.W.findIn K (.ref C) f = some (some u)
  rel:RelV v u
  get:PySem.W.specialIn K u "__get__" = some none
  cp:PySem.W.copiedNames.contains f = false
structure Meth (K:PySem.W.Frag) (C:Addr) (m:Str) (f:Addr):Prop where
  at_:PySem.W.findIn K (.ref C) m = some (some (.ref f))
  fn:PySem.W.isFn K (.ref f) = true
  kp:PySem.W.keepIn K (.ref f) = true
section
variable {X:Cx} {pins:List (Addr × Obj)} {σ:St} {H:Hp} {s:Shared} {a C dx:Addr} {fs:List (Str × V)} {f:Str} {v:V} {A:Around} {E:Value → Shared → Prop}
theorem getattr_ok {b:Bool} {Q:Value → Shared → Prop} (I:Inv X pins σ H s) (e:H a = some (.ins C dx fs)) (c:Cls X.K C) (n:NoAttr X.K C f) (l:fs.lookup f = some v)
    (h:∀ u s',Inv X pins σ H s' → RelV v u → Q u s'):wpAny (model X.prog X.w) A (getAttr (.ref a) f b) Q E s:=by
  obtain ⟨mA,O,r,_,_,_⟩:=ins_get I.hok e
  obtain ⟨u,hu,ru⟩:=RelO.some_of (v:=v) (o:=mA f) (by rw [← l]; exact r f)
  exact get_map I.kIn O (c.get f) c.hd n hu (handed_of ru) (h u _ (I.tok _) ru)
theorem getmeth_ok {m:Str} {g:Addr} {pl:Sem Bool} {Q:Value × List Value → Shared → Prop} (I:Inv X pins σ H s) (e:H a = some (.ins C dx fs)) (c:Cls X.K C) (k:Meth X.K C m g) (l:fs.lookup m = none)
    (h:Q (.ref g,[.ref a]) s):wpAny (model X.prog X.w) A (getMethod (.ref a) m pl) Q E s:=by
  obtain ⟨mA,O,r,_,_,_⟩:=ins_get I.hok e
  have hn:mA m = none:=RelO.none_of (by rw [← l]; exact r m)
  exact get_meth I.kIn O (c.get m) k.at_ k.fn hn h
theorem setattr_ok {y:V} {u:Value} {Q:Unit → Shared → Prop} (I:Inv X pins σ H s) (e:H a = some (.ins C dx fs)) (c:Cls X.K C) (n:NoAttr X.K C f) (hl:fs.length < 1000) (ry:RelV y u)
    (h:∀ s',Inv X pins σ (upd H a (.ins C dx (putF f y fs))) s' → Q () s'):wpAny (model X.prog X.w) A (setAttr (.ref a) f u) Q E s:=by
  obtain ⟨mA,O,r,wi,_,ho⟩:=ins_get I.hok e
  have hz:(fs.map (·.1)).length ≤ sizeLine:=by rw [List.length_map,sizeLine_eq]; omega
  refine set_map I.kIn O c.sa c.po n.taker c.hd wi hz fun h' O' sb => h _ ?_
  have hd:∃ o,h'.get? dx = some o:=let ⟨o,_,_,e',_⟩:=O'.ns; ⟨o,e'⟩
  refine I.write (x:=a) (e:=dx) (by rw [e]; exact True.intro) (.inr ho) (fun b q hb z => (sb.2 b hb).trans z) hd ?_
  refine ⟨by rw [upd_ne O.ne]; exact ho,?_,O.ne,O'.obj,_,O'.ns,fun g => ?_,fun g hg => ?_⟩
  · have:=length_putF f y fs; omega
  · show RelO ((putF f y fs).lookup g) (if g = f then some u else mA g)
    rw [lookup_putF]
    by_cases q:g = f
    · rw [if_pos q,if_pos q]; exact ry
    · rw [if_neg q,if_neg q]; exact r g
  · by_cases q:g = f
    · rw [q]; exact (keys_putF f y fs).1
    · refine (keys_putF f y fs).2 g (wi g fun z => hg ?_)
      show (if g = f then some u else mA g) = none
      rw [if_neg q]; exact z
theorem Inv.made (I:Inv X pins σ H s):Inv X pins σ (upd (upd H s.heap.objs.size (.own (s.heap.objs.size + 1))) (s.heap.objs.size + 1) (.ins C s.heap.objs.size []))
    { s with heap:=(s.heap.push PySem.W.emptyDict).push (PySem.W.instObj C s.heap.objs.size) }:=by
  have e1:(s.heap.push PySem.W.emptyDict).get? s.heap.objs.size = some PySem.W.emptyDict:=Heap.get?_push_size s.heap rfl
  have e2:((s.heap.push PySem.W.emptyDict).push (PySem.W.instObj C s.heap.objs.size)).get? (s.heap.objs.size + 1) = some (PySem.W.instObj C s.heap.objs.size):=by
    have:=Heap.get?_push_size (s.heap.push PySem.W.emptyDict) (o:=PySem.W.instObj C s.heap.objs.size) rfl
    rwa [Heap.size_push] at this
  have e3:(s.heap.push PySem.W.emptyDict).Ns s.heap.objs.size (fun _ => none):=⟨PySem.W.emptyDict,#[],_,e1,rfl,(fun e he => absurd he (by simp)),fun _ => rfl⟩
  have I1:=I.laid (a:=s.heap.objs.size) (o:=.own (s.heap.objs.size + 1)) (h':=s.heap.push PySem.W.emptyDict) (t':=s.toks) (fun b u q => Heap.get?_push_of_some _ q) (Nat.le_refl _) ⟨_,e1⟩
  refine I1.laid (a:=s.heap.objs.size + 1) (o:=.ins C s.heap.objs.size []) (t':=s.toks) (fun b u q => Heap.get?_push_of_some _ q) (Nat.le_of_eq (Heap.size_push _ _)) ?_
  have ne:s.heap.objs.size ≠ s.heap.objs.size + 1:=Nat.ne_of_lt (Nat.lt_succ_self _)
  refine ⟨by rw [upd_ne ne,upd_same],Nat.zero_le _,ne,e2,fun _ => none,(Heap.Ns1.of_empty e3).at fun o q => Heap.get?_push_of_some _ q,fun _ => True.intro,fun y hy => absurd rfl hy⟩
theorem attr_of {prog:Program} {w:World} {env:Env} {e:Expr} {f:Str} {pos:Pos} {s:Shared} {Q:Value → Shared → Prop} (hb:attributeBase e f env (eval e env) = eval e env)
    (h:wpAny (model prog w) A (eval e env) (fun o s₁ => wpAny (model prog w) A (getAttr o f true) Q E s₁) E s):wpAny (model prog w) A (eval (.Attribute e f pos) env) Q E s :=
  Attribute_any_ h (by rw [arm_eval_Attribute,hb])
end
noncomputable def tFld (K:PySem.W.Frag) (ta:TE) (f:Str):TE:=fun σ H Q => ta σ H fun x H1 => ∃ a C dx fs v,x = .ref a ∧ H1 a = some (.ins C dx fs) ∧ Cls K C ∧ NoAttr K C f ∧ fs.lookup f = some v ∧ Q v H1
noncomputable def sFld (K:PySem.W.Frag) (ta tv:TE) (f:Str):TS:=fun D σ H => tv σ H fun y H1 => ta σ H1 fun x H2 => ∃ a C dx fs,x = .ref a ∧ H2 a = some (.ins C dx fs) ∧ Cls K C ∧ NoAttr K C f ∧ fs.length < 1000 ∧
  D.nx σ (upd H2 a (.ins C dx (putF f y fs)))
section
variable {X:Cx} {o e value:Expr} {f:Str} {pos pos' tpos:Pos} {ta tv:TE}
theorem pe_fld (he:PE X e ta) (hb:attributeBase e f X.env (eval e X.env) = eval e X.env):PE X (.Attribute e f pos) (tFld X.K ta f):=by
  intro pins s σ H Q I h
  refine attr_of hb (thn (he pins s σ H _ I h) fun u s1 ⟨x,H1,I1,rx,a,C,dx,fs,v,ex,ea,c,n,l,q⟩ => ?_)
  subst ex
  obtain rfl:u = Value.ref a:=rx
  exact getattr_ok I1 ea c n l fun u' s2 I2 ru => ⟨v,H1,I2,ru,q⟩
theorem ps_fld (ha:PE X o ta) (hv:PE X value tv) (hs:swapsWith value (some (.Attribute o f pos')) pos.line X.env = pure false):PS X (.Assign [.Attribute o f pos'] value pos) (sFld X.K ta tv f):=by
  intro pins s σ H D I h
  refine plainObj_wpAny_Assign_Attribute (thn (hv pins s σ H _ I h) fun u s1 ⟨y,H1,I1,ry,q⟩ => thn (ha pins s1 σ H1 _ I1 q) fun ov s2 ⟨x,H2,I2,rx,a,C,dx,fs,ex,ea,c,n,l,q2⟩ => ?_) hs
  subst ex
  obtain rfl:ov = Value.ref a:=rx
  exact setattr_ok I2 ea c n l ry fun s3 I3 => ⟨σ,_,I3,q2⟩
end
section
variable {X:Cx} {pins:List (Addr × Obj)} {σ:St} {H:Hp} {s:Shared} {A:Around} {E:Value → Shared → Prop} {Q:Value → Shared → Prop} {c:Value} {b:Bool}
inductive TyOf (K:PySem.W.Frag) (H:Hp):V → Value → Prop where
  | non:TyOf K H .non (.type "NoneType")
  | bl (x:Bool):TyOf K H (.bl x) (.type "bool")
  | int (i:Int):TyOf K H (.int i) (.type "int")
  | str (x:Str):TyOf K H (.str x) (.type "str")
  | flt (x:UInt64):TyOf K H (.flt x) (.type "float")
  | lst {a:Addr} {xs:List V} (e:H a = some (.lst xs)):TyOf K H (.ref a) (.type "list")
  | frz {a:Addr} {o:Obj} {xs:List V} (e:H a = some (.frz o (.lst xs))):TyOf K H (.ref a) (.type "list")
  | tup {a:Addr} {xs:List V} (e:H a = some (.tup xs)):TyOf K H (.ref a) (.type "tuple")
  | dK {a:Addr} {kvs:List (Key × V)} (e:H a = some (.dK kvs)):TyOf K H (.ref a) (.type "dict")
  | dT {a:Addr} {kvs:List (List Key × V)} (e:H a = some (.dT kvs)):TyOf K H (.ref a) (.type "dict")
  | ins {a C dx:Addr} {fs:List (Str × V)} (e:H a = some (.ins C dx fs)) (cl:Cls K C) (ha:PySem.W.findIn K (.ref C) "__class__" = some (some (.builtin "object.__class__")))
      (hn:PySem.W.specialIn K (.builtin "object.__class__") "__get__" = some (some (.builtin "getset_descriptor.__get__"))) (htk:PySem.W.takesIn K (.builtin "object.__class__") = some true)
      (hm:PySem.W.mroIn K C (.type "object") = some true):TyOf K H (.ref a) (.ref C)
end
end L2
namespace L2
open PySem PySem.Spec PyProof.Rows
structure Room (k:Nat) (A:Around):Prop where
  hd:A.handled = none
  dp:A.depth + 3 * k + 5 < recursionLimit
  un:A.units + 16 * k + 200 < cLine
  gd:A.guards = some []
theorem Room.mono {j k:Nat} {A:Around} (r:Room k A) (h:j ≤ k):Room j A:=⟨r.hd,by have:=r.dp; omega,by have:=r.un; omega,r.gd⟩
theorem Room.deeper {k:Nat} {A:Around} (r:Room (k + 1) A) (env:Env):Room k (A.deeper env) :=
  ⟨r.hd,by have:=r.dp; show A.depth + 1 + 3 * k + 5 < _; omega,by have:=r.un; show A.units + 3 + 16 * k + 200 < _; omega,r.gd⟩
theorem make_depth {A:Around} {C:Addr} {us:List Value} {kw:List (Str × Value)}:(A.under (.builtin "type.__call__" ⟨.ref C :: us,kw⟩)).depth = A.depth + 1:=by
  first | rfl | simp [Around.under,Code.weight,Code.isCreation,Code.isGuard,Code.isCaller,Code.frames,Code.isFrame,guardIds]
theorem make_units {A:Around} {C:Addr} {us:List Value} {kw:List (Str × Value)}:(A.under (.builtin "type.__call__" ⟨.ref C :: us,kw⟩)).units = A.units + 1:=by
  first | rfl | simp [Around.under,Code.cUnits,Code.frames,Code.isFrame]
theorem make_guards {A:Around} {C:Addr} {us:List Value} {kw:List (Str × Value)}:(A.under (.builtin "type.__call__" ⟨.ref C :: us,kw⟩)).guards = A.guards:=by
  first | rfl | simp [Around.under,Code.guards,Code.isGuard,guardIds,pushGuards]
theorem Room.make {k:Nat} {A:Around} (r:Room (k + 1) A) (C:Addr) (us:List Value) (kw:List (Str × Value)):Room k (A.under (.builtin "type.__call__" ⟨.ref C :: us,kw⟩)) :=
  ⟨r.hd,by have:=r.dp; rw [make_depth]; omega,by have:=r.un; rw [make_units]; omega,make_guards.trans r.gd⟩
theorem Room.depth {k:Nat} {A:Around} (r:Room k A):A.depth < recursionLimit:=by have:=r.dp; omega
theorem Room.units {k:Nat} {A:Around} (r:Room k A):A.units + 64 < cLine:=by have:=r.un; omega
noncomputable def tNil:TA:=fun _ H Q => Q [] H
noncomputable def tCons (ta:TE) (tr:TA):TA:=fun σ H Q => ta σ H fun x H1 => tr σ H1 fun xs H2 => Q (x :: xs) H2
section
variable {X:Cx} {e:Expr} {es:List Expr} {te:TE} {t:TA} {pos:Pos}
theorem pa_nil:PA X [] tNil:=fun _ _ _ _ H Q I h => Calls.spliced_nil ⟨[],H,I,.nil,h⟩
theorem pa_cons (ha:PE X e te) (hr:PA X es t) (hs:starEach (e :: es) X.env = (false,eval e X.env) :: starEach es X.env:=by rfl):PA X (e :: es) (tCons te t):=by
  intro pos pins s σ H Q I h
  rw [hs]
  show wpAny _ _ (spliced ((false,eval e X.env) :: backTo pos (starEach es X.env))) _ _ s
  refine Calls.spliced_cons (thn (ha pins s σ H _ I h) fun u s1 ⟨x,H1,I1,r1,q1⟩ => ?_)
  exact thn (hr pos pins s1 σ H1 _ I1 q1) fun us s2 ⟨xs,H2,I2,r2,q2⟩ => ⟨x :: xs,H2,I2,.cons r1 r2,q2⟩
noncomputable def tTup (t:TA):TE:=fun σ H Q => t σ H fun xs H1 => xs.length ≤ sizeLine ∧ ∀ p,H1 p = none → Q (.ref p) (upd H1 p (.tup xs))
noncomputable def tLst (t:TA):TE:=fun σ H Q => t σ H fun xs H1 => xs.length ≤ sizeLine ∧ ∀ p,H1 p = none → Q (.ref p) (upd H1 p (.lst xs))
theorem pe_tup {x1} (h:PA X es t):PE X (.Tuple es x1 pos) (tTup t):=by
  intro pins s σ H Q I hq
  refine wpAny_Tuple_spliced (thn (h pos pins s σ H _ I hq) fun us s1 ⟨xs,H1,I1,r,z,q⟩ => ⟨by rw [← r.length]; exact z,?_⟩)
  have hf:H1 s1.heap.objs.size = none:=I1.hok.fresh (Nat.le_refl _)
  refine ⟨.ref s1.heap.objs.size,upd H1 s1.heap.objs.size (.tup xs),I1.laid (t':=s1.toks) (fun b u e => Heap.get?_push_of_some _ e) (Nat.le_refl _) ?_,rfl,q _ hf⟩
  exact ⟨z,us,r,⟨_,Heap.get?_push_size _ rfl,rfl,_,rfl⟩⟩
theorem pe_lst (h:PA X es t):PE X (.List es pos) (tLst t):=by
  intro pins s σ H Q I hq
  refine wpAny_List_spliced (thn (h pos pins s σ H _ I hq) fun us s1 ⟨xs,H1,I1,r,z,q⟩ => ⟨by rw [← r.length]; exact z,?_⟩)
  have hf:H1 s1.heap.objs.size = none:=I1.hok.fresh (Nat.le_refl _)
  refine ⟨.ref s1.heap.objs.size,upd H1 s1.heap.objs.size (.lst xs),I1.laid (t':=s1.toks) (fun b u e => Heap.get?_push_of_some _ e) (Nat.le_refl _) ?_,rfl,q _ hf⟩
  exact ⟨z,us,0,r,Heap.get?_push_size _ rfl⟩
end
noncomputable abbrev Sp:=List V → Hp → VK → XK → Prop
noncomputable abbrev CXT:=List Env → Hp → Shared → XK → Value → Shared → Prop
structure Env0 (P:Program) (w:World) (K:PySem.W.Frag) (mg:Str → Option Value) (base:Heap) (A:Around) (outer:List Env) (s:Shared) (H:Hp):Prop where
  frames:A.frames = some outer
  mod:Mod K mg base
  bs:∀ b o,base.get? b = some o → s.heap.get? b = some o ∧ H b = none
  bsz:base.objs.size ≤ s.heap.objs.size
  funs:s.heap.FunFrames base outer
  frf:∀ b ∈ frs outer,H b = none
  hok:HOk P w H s.heap
  bare:AllBare s.gens
noncomputable def CE (outer:List Env) (P:Program) (w:World) (H:Hp) (s:Shared) (Q:VK) (u:Value) (s':Shared):Prop :=
  ∃ v H',s'.os = s.os ∧ AllBare s'.gens ∧ Un (frs outer) [] H H' s.heap s'.heap ∧ HOk P w H' s'.heap ∧ RelV v u ∧ Q v H'
noncomputable def CR (CX:CXT) (outer:List Env) (P:Program) (w:World) (H:Hp) (s:Shared) (Q:VK) (E:XK) (r:Result) (s':Shared):Prop :=
  match r with
  | .ok (.ret u) => CE outer P w H s Q u s'
  | .ok _ => False
  | .error e => CX outer H s E e s'
structure FnOk (P:Program) (w:World) (K:PySem.W.Frag) (mg:Str → Option Value) (base:Heap) (CX:CXT) (k:Nat) (f:Addr) (fd:FuncData) (ps:List Str) (sp:Sp):Prop where
  len:∀ vs H Q E,sp vs H Q E → vs.length = ps.length
  run:∀ (A:Around) (outer:List Env) (s:Shared) (H:Hp) (args:Args) (us:List Value) (vs:List V) (Q:VK) (E:XK),Room k A → Env0 P w K mg base A outer s H → BindsTo s fd args (ps.zip us) → Vals vs us → sp vs H Q E →
    codeAny (model P w) A (.call (.ref f) args) (CR CX outer P w H s Q E) s
theorem Env0.make {P:Program} {w:World} {K:PySem.W.Frag} {mg:Str → Option Value} {base:Heap} {A:Around} {outer:List Env} {s:Shared} {H:Hp} (e:Env0 P w K mg base A outer s H) (C:Addr) (us:List Value) (kw:List (Str × Value)) :
    Env0 P w K mg base (A.under (.builtin "type.__call__" ⟨.ref C :: us,kw⟩)) outer s H:=⟨by first | exact e.frames | (simpa [Around.under,Code.envs,Code.isFrame,pushEnvs] using e.frames),e.mod,e.bs,e.bsz,e.funs,e.frf,e.hok,e.bare⟩
section
variable {X:Cx} {pins:List (Addr × Obj)} {σ:St} {H:Hp} {s s':Shared}
theorem Inv.env0 (I:Inv X pins σ H s):Env0 X.prog X.w X.K X.mg X.base X.A X.stack s H :=
  ⟨I.ok.frames,I.ok.mod,I.bs,Nat.le_trans I.ok.bsz I.sz,I.stack,I.stkFree,I.hok,I.bare⟩
theorem Inv.after {Q:VK} {u:Value} (I:Inv X pins σ H s) (h:CE X.stack X.prog X.w H s Q u s'):EP X pins σ Q u s':=by
  obtain ⟨v,H',os,bare,un,hok,r,q⟩:=h
  obtain ⟨hh,g,d,t,os'⟩:=s'
  obtain rfl:os' = s.os:=os
  exact ⟨v,H',I.call (h':=hh) (g':=g) (d':=d) (t':=t) (ch:=[]) un hok bare (fun b z => absurd z (by simp)),r,q⟩
end
noncomputable def tCall (sp:Sp) (dvs:List V) (E:XK) (t:TA):TE:=fun σ H Q => t σ H fun vs H1 => sp (vs ++ dvs) H1 Q E
noncomputable def tMeth (C:Addr) (m:Str) (sp:Sp) (dvs:List V) (E:XK) (ta:TE) (t:TA):TE:=fun σ H Q => ta σ H fun x H1 => ∃ a dx fs,x = .ref a ∧ H1 a = some (.ins C dx fs) ∧ fs.lookup m = none ∧
  t σ H1 fun vs H2 => sp (x :: (vs ++ dvs)) H2 Q E
noncomputable def tMake (C:Addr) (sp:Sp) (dvs:List V) (E:XK) (t:TA):TE:=fun σ H Q => t σ H fun vs H1 => ∀ x dx,H1 x = none → H1 dx = none → dx ≠ x →
  sp (.ref x :: (vs ++ dvs)) (upd (upd H1 dx (.own x)) x (.ins C dx [])) (fun v H2 => v = .non ∧ Q (.ref x) H2) E
noncomputable def Binds (K:PySem.W.Frag) (fd:FuncData) (ps:List Str) (ds:List Value):Prop :=
  ∀ (s:Shared) (us:List Value),K.In s.heap → (us ++ ds).length = ps.length → BindsTo s fd ⟨us,[]⟩ (ps.zip (us ++ ds))
theorem Binds.all {K:PySem.W.Frag} {fd:FuncData} {ps:List Str} (h:∀ us:List Value,us.length = ps.length → bindArgs fd ⟨us,[]⟩ = pure (ps.zip us)):Binds K fd ps []:=fun s us _ hl => by
  rw [List.append_nil] at hl ⊢
  exact .of_eq (h us hl)
noncomputable def Passes (CX:CXT) (X:Cx) (E:XK):Prop:=∀ (pins:List (Addr × Obj)) (σ:St) (H:Hp) (s:Shared) (e:Value) (s':Shared),Inv X pins σ H s → CX X.stack H s E e s' → X.xe e s'
section
variable {X:Cx} {CX:CXT} {k:Nat} {f C:Addr} {fd:FuncData} {ps:List Str} {sp:Sp} {dvs:List V} {ds:List Value} {E:XK} {x m:Str} {p pos apos:Pos} {e o:Expr} {es:List Expr} {ta:TE} {t:TA}
theorem run_fn {pins:List (Addr × Obj)} {σ:St} {H:Hp} {s:Shared} {Q:VK} {us:List Value} {vs:List V} (F:FnOk X.prog X.w X.K X.mg X.base CX k f fd ps sp) (hr:Room k X.A) (hb:Binds X.K fd ps ds) (hd:Vals dvs ds) (hx:Passes CX X E)
    (I:Inv X pins σ H s) (r:Vals vs us) (h:sp (vs ++ dvs) H Q E):wpAny (model X.prog X.w) X.A (call (.ref f) us) (EP X pins σ Q) X.xe s:=by
  have r2:Vals (vs ++ dvs) (us ++ ds):=r.append hd
  have hl:(us ++ ds).length = ps.length:=by rw [← r2.length]; exact F.len _ _ _ _ h
  refine wpAny_call (codeAny_mono (F.run X.A X.stack s H ⟨us,[]⟩ (us ++ ds) (vs ++ dvs) Q E hr I.env0 (hb s us I.kIn hl) r2 h) fun r s' hq => ?_)
  cases r with
  | error e => exact hx pins σ H s e s' I hq
  | ok fl =>
    cases fl with
    | ret u => exact I.after hq
    | next => exact False.elim hq
    | brk => exact False.elim hq
    | cont => exact False.elim hq
theorem pe_call (F:FnOk X.prog X.w X.K X.mg X.base CX k f fd ps sp) (hr:Room k X.A) (hg:Gl X x) (hm:X.mg x = some (.ref f)) (hk:PySem.W.keepIn X.K (.ref f) = true) (hb:Binds X.K fd ps ds) (hd:Vals dvs ds) (hx:Passes CX X E)
    (ha:PA X (e :: es) t) (hdb:(x == ("__debug__":Str)) = false:=by decide) (he:starEach (e :: es) X.env = (false,eval e X.env) :: starEach es X.env:=by rfl) (hpl:(backTo pos (starEach es X.env)).any (·.1) = false:=by rfl) :
    PE X (.Call (.Name x p) (e :: es) [] pos) (tCall sp dvs E t):=by
  intro pins s σ H Q I h
  refine wpAny_Call_Name_kw (ld_glob I hg hm ?_ hdb)
  refine PySem.W.callWith_K (h₀:=X.base) I.ok.mod.kin hk (thn (ha pos pins s σ H _ I h) fun us s1 ⟨vs,H1,I1,r,q⟩ => ⟨I1.kIn,?_⟩) he hpl
  exact run_fn F hr hb hd hx I1 r q
theorem pe_meth {pl:Sem Bool} (he:PE X o ta) (c:Cls X.K C) (hm:Meth X.K C m f) (F:FnOk X.prog X.w X.K X.mg X.base CX k f fd ps sp) (hr:Room k X.A) (hb:Binds X.K fd ps ds) (hd:Vals dvs ds) (hx:Passes CX X E) (ha:PA X (e :: es) t)
    (hst:starEach (e :: es) X.env = (false,eval e X.env) :: starEach es X.env:=by rfl) (hpl:(backTo pos (starEach es X.env)).any (·.1) = false:=by rfl)
    (ht:eval (.Call (.Attribute o m apos) (e :: es) [] pos) X.env = (do
      let ov ← eval o X.env
      standAt apos.atName
      let (f,first) ← holding [ov] (getMethod ov m pl)
      callWith pos f first (backTo pos (starEach (e :: es) X.env)) (backToKw pos (keywordEach [] X.env))):=by rfl) :
    PE X (.Call (.Attribute o m apos) (e :: es) [] pos) (tMeth C m sp dvs E ta t):=by
  intro pins s σ H Q I h
  refine PySem.W.methodCall_KW (pl:=pl) (thn (he pins s σ H _ I h) fun u s1 ⟨x,H1,I1,rx,a,dx,fs,ex,ea,l,q⟩ => ?_) ht
  subst ex
  obtain rfl:u = Value.ref a:=rx
  refine getmeth_ok I1 ea c hm l ?_
  refine PySem.W.callWith_K (first:=[.ref a]) (h₀:=X.base) I.ok.mod.kin hm.kp (thn (ha pos pins s1 σ H1 _ I1 q) fun us s2 ⟨vs,H2,I2,r,q2⟩ => ⟨I2.kIn,?_⟩) hst hpl
  exact run_fn (us:=.ref a :: us) (vs:=.ref a :: vs) F hr hb hd hx I2 (.cons rfl r) q2
theorem pe_meth0 {pl:Sem Bool} (he:PE X o ta) (c:Cls X.K C) (hm:Meth X.K C m f) (F:FnOk X.prog X.w X.K X.mg X.base CX k f fd ps sp) (hr:Room k X.A) (hb:Binds X.K fd ps ds) (hd:Vals dvs ds) (hx:Passes CX X E)
    (ht:eval (.Call (.Attribute o m apos) [] [] pos) X.env = (do
      let ov ← eval o X.env
      standAt apos.atName
      let (f,first) ← holding [ov] (getMethod ov m pl)
      callWith pos f first (backTo pos (starEach [] X.env)) (backToKw pos (keywordEach [] X.env))):=by rfl) :
    PE X (.Call (.Attribute o m apos) [] [] pos) (tMeth C m sp dvs E ta tNil):=by
  intro pins s σ H Q I h
  refine PySem.W.methodCall_KW (pl:=pl) (thn (he pins s σ H _ I h) fun u s1 ⟨x,H1,I1,rx,a,dx,fs,ex,ea,l,q⟩ => ?_) ht
  subst ex
  obtain rfl:u = Value.ref a:=rx
  refine getmeth_ok I1 ea c hm l ?_
  exact PySem.W.callWith_K0 (first:=[.ref a]) I1.kIn hm.kp (run_fn (us:=[.ref a]) (vs:=[.ref a]) F hr hb hd hx I1 (.cons rfl .nil) q)
structure Mk (K:PySem.W.Frag) (C f:Addr):Prop where
  makes:PySem.W.makesIn K C = true
  init:PySem.W.findIn K (.ref C) "__init__" = some (some (.ref f))
  fn:PySem.W.isFn K (.ref f) = true
  kp:PySem.W.keepIn K (.ref C) = true
theorem run_make {pins:List (Addr × Obj)} {σ:St} {H:Hp} {s:Shared} {Q:VK} {us:List Value} {vs:List V} (M:Mk X.K C f) (F:FnOk X.prog X.w X.K X.mg X.base CX k f fd ps sp) (hr:Room (k + 1) X.A) (hb:Binds X.K fd ps ds) (hd:Vals dvs ds)
    (hx:Passes CX X E) (I:Inv X pins σ H s) (r:Vals vs us)
    (h:∀ x dx,H x = none → H dx = none → dx ≠ x → sp (.ref x :: (vs ++ dvs)) (upd (upd H dx (.own x)) x (.ins C dx [])) (fun v H2 => v = .non ∧ Q (.ref x) H2) E) :
    wpAny (model X.prog X.w) X.A (call (.ref C) us) (EP X pins σ Q) X.xe s:=by
  have hq:=h (s.heap.objs.size + 1) s.heap.objs.size (I.hok.fresh (Nat.le_succ _)) (I.hok.fresh (Nat.le_refl _)) (Nat.ne_of_lt (Nat.lt_succ_self _))
  have I2:=Inv.made (C:=C) I
  have r2:Vals (V.ref (s.heap.objs.size + 1) :: (vs ++ dvs)) (Value.ref (s.heap.objs.size + 1) :: (us ++ ds)):=.cons rfl (r.append hd)
  have hl:(Value.ref (s.heap.objs.size + 1) :: us ++ ds).length = ps.length:=by
    have e:=r2.length
    rw [F.len _ _ _ _ hq] at e
    exact e.symm
  refine wpAny_call (make_map (f:=f) I.kIn M.makes M.init (beq_iff_eq.mp M.fn) (codeAny_mono (F.run _ X.stack _ _ ⟨Value.ref (s.heap.objs.size + 1) :: us,[]⟩ (Value.ref (s.heap.objs.size + 1) :: (us ++ ds)) _ _ E (hr.make C us [])
    (I2.env0.make C us []) (hb _ (Value.ref (s.heap.objs.size + 1) :: us) I2.kIn hl) r2 hq) fun r s' hq' => ?_))
  cases r with
  | error e => exact hx pins σ _ _ e s' I2 hq'
  | ok fl =>
    cases fl with
    | ret u =>
      obtain ⟨v,H',I3,rv,ev,q3⟩:=I2.after hq'
      subst ev
      exact ⟨rv,⟨V.ref (s.heap.objs.size + 1),H',I3,rfl,q3⟩⟩
    | next => exact False.elim hq'
    | brk => exact False.elim hq'
    | cont => exact False.elim hq'
theorem pe_make (M:Mk X.K C f) (F:FnOk X.prog X.w X.K X.mg X.base CX k f fd ps sp) (hr:Room (k + 1) X.A) (hg:Gl X x) (hm:X.mg x = some (.ref C)) (hb:Binds X.K fd ps ds) (hd:Vals dvs ds) (hx:Passes CX X E)
    (ha:PA X (e :: es) t) (hdb:(x == ("__debug__":Str)) = false:=by decide) (he:starEach (e :: es) X.env = (false,eval e X.env) :: starEach es X.env:=by rfl) (hpl:(backTo pos (starEach es X.env)).any (·.1) = false:=by rfl) :
    PE X (.Call (.Name x p) (e :: es) [] pos) (tMake C sp dvs E t):=by
  intro pins s σ H Q I h
  refine wpAny_Call_Name_kw (ld_glob I hg hm ?_ hdb)
  refine PySem.W.callWith_K (h₀:=X.base) I.ok.mod.kin M.kp (thn (ha pos pins s σ H _ I h) fun us s1 ⟨vs,H1,I1,r,q⟩ => ⟨I1.kIn,?_⟩) he hpl
  exact run_make M F hr hb hd hx I1 r q
end
section
variable {X:Cx} {CX:CXT} {k:Nat} {f C:Addr} {fd:FuncData} {ps ks:List Str} {sp:Sp} {E:XK} {x m:Str} {p pos apos kpos:Pos} {e o:Expr} {es:List Expr} {kws:List Keyword} {te ta:TE} {t tk:TA} {nm:Option Str}
structure KBinds (K:PySem.W.Frag) (fd:FuncData) (ps ks:List Str) (g:List Value → List Value → List Value) (gV:List V → List V → List V):Prop where
  to:∀ (s:Shared) (us ws:List Value),K.In s.heap → (g us ws).length = ps.length → BindsTo s fd ⟨us,ks.zip ws⟩ (ps.zip (g us ws))
  rel:∀ {vs:List V} {us:List Value} {zs:List V} {ws:List Value},Vals vs us → Vals zs ws → Vals (gV vs zs) (g us ws)
variable {g:List Value → List Value → List Value} {gV:List V → List V → List V}
end
structure FnScope (N P:List Str) (sc:Scope):Prop where
  kind:sc.kind = .function
  co:sc.isCoroutine = false
  gen:sc.isGenerator = false
  nd:N.Nodup
  pre:N.take P.length = P
  par:∀ x ∈ P,sc.names.lookup x = some .local ∨ sc.names.lookup x = some .cell
  nofree:∀ y ∈ sc.names,y.2 ≠ .free
theorem bindL_out {kindOf:Str → Option NameKind} {x:Str}:∀ {binds:List (Str × Value)} {m:Str → Option Value},(∀ v,(x,v) ∉ binds) → bindL kindOf binds m x = m x
  | [],_,_ => rfl
  | (n,v) :: r,m,h => by
    unfold bindL
    rw [bindL_out fun w hw => h w (List.mem_cons_of_mem _ hw)]
    split
    · have:x ≠ n:=by rintro rfl; exact h v List.mem_cons_self
      simp [this]
    · rfl
theorem bindC_out {kindOf:Str → Option NameKind} {x:Str}:∀ {binds:List (Str × Value)} {m:Str → Option Value},(∀ v,(x,v) ∉ binds) → bindC kindOf binds m x = m x
  | [],_,_ => rfl
  | (n,v) :: r,m,h => by
    unfold bindC
    rw [bindC_out fun w hw => h w (List.mem_cons_of_mem _ hw)]
    split
    · rfl
    · have:x ≠ n:=by rintro rfl; exact h v List.mem_cons_self
      simp [this]
theorem bindL_get {kindOf:Str → Option NameKind} {x:Str} {v:Value}:∀ {P:List Str} {vs:List Value} {i:Nat} {m:Str → Option Value},P.Nodup → P[i]? = some x → vs[i]? = some v → kindOf x = some .local →
    bindL kindOf (P.zip vs) m x = some v
  | [],_,_,_,_,h,_,_ => by simp at h
  | _ :: _,[],_,_,_,_,h,_ => by simp at h
  | p :: P,w :: vs,0,m,nd,h1,h2,hk => by
    simp at h1 h2; subst h1; subst h2
    show bindL kindOf ((p,w) :: P.zip vs) m p = _
    unfold bindL
    rw [bindL_out fun v hv => (List.nodup_cons.mp nd).1 (List.of_mem_zip hv).1,if_pos hk]
    simp
  | p :: P,w :: vs,i + 1,m,nd,h1,h2,hk => by
    show bindL kindOf ((p,w) :: P.zip vs) m x = _
    unfold bindL
    exact bindL_get (i:=i) (List.nodup_cons.mp nd).2 (by simpa using h1) (by simpa using h2) hk
theorem bindC_get {kindOf:Str → Option NameKind} {x:Str} {v:Value}:∀ {P:List Str} {vs:List Value} {i:Nat} {m:Str → Option Value},P.Nodup → P[i]? = some x → vs[i]? = some v → kindOf x ≠ some .local →
    bindC kindOf (P.zip vs) m x = some v
  | [],_,_,_,_,h,_,_ => by simp at h
  | _ :: _,[],_,_,_,_,h,_ => by simp at h
  | p :: P,w :: vs,0,m,nd,h1,h2,hk => by
    simp at h1 h2; subst h1; subst h2
    show bindC kindOf ((p,w) :: P.zip vs) m p = _
    unfold bindC
    rw [bindC_out fun v hv => (List.nodup_cons.mp nd).1 (List.of_mem_zip hv).1,if_neg hk]
    simp
  | p :: P,w :: vs,i + 1,m,nd,h1,h2,hk => by
    show bindC kindOf ((p,w) :: P.zip vs) m x = _
    unfold bindC
    exact bindC_get (i:=i) (List.nodup_cons.mp nd).2 (by simpa using h1) (by simpa using h2) hk
noncomputable def start (N:List Str) (vs:List V):St:=vs.map some ++ List.replicate (N.length - vs.length) none
noncomputable def cxOf (CX:CXT) (P:Program) (w:World) (K:PySem.W.Frag) (mg:Str → Option Value) (base:Heap) (N:List Str) (qual:Str) (scope:Scope) (f:Addr) (cd:Value) (A:Around) (outer:List Env) (s:Shared) (H:Hp) (E:XK):Cx where
  prog:=P
  w:=w
  K:=K
  mg:=mg
  base:=base
  A:=A.deeper (envOfC qual scope s.heap.objs.size f cd)
  N:=N
  s₀:=s
  H₀:=H
  env:=envOfC qual scope s.heap.objs.size f cd
  outer:=outer
  stack:=envOfC qual scope s.heap.objs.size f cd :: outer
  ex:=[]
  calm:=true
  fn:=fun _ => true
  pn:=[]
  xe:=fun e s' => wpAny (model P w) (A.deeper (envOfC qual scope s.heap.objs.size f cd)) (leaving (envOfC qual scope s.heap.objs.size f cd) e) (fun _ s'' => CX outer H s E e s'') (fun e' s'' => CX outer H s E e' s'') s'
theorem cell_has {sc:Scope} {n:Nat} {x:Str} (h:sc.names.lookup x = some .cell):∃ c,(cellsFrom n sc.names []).lookup x = some c:=by
  have q:=PySem.W.cellsFrom_some sc.names n [] (.inl h)
  exact Option.isSome_iff_exists.mp q
theorem inv_start {CX:CXT} {P:Program} {w:World} {K:PySem.W.Frag} {mg:Str → Option Value} {base:Heap} {N ps:List Str} {qual:Str} {scope:Scope} {f:Addr} {cd:Value} {A:Around} {outer:List Env} {s s1:Shared} {H:Hp} {E:XK} {us:List Value} {vs:List V}
    (S:FnScope N ps scope) (hd:A.handled = none) (e0:Env0 P w K mg base A outer s H) (hl:vs.length = ps.length) (r:Vals vs us)
    (x:InCallC s s.heap.objs.size (bindL (envOfC qual scope s.heap.objs.size f cd).kindOf (ps.zip us) fun _ => none) (cellsFrom (s.heap.objs.size + 1) scope.names []) (bindC (envOfC qual scope s.heap.objs.size f cd).kindOf (ps.zip us) fun _ => none) s1) :
    Inv (cxOf CX P w K mg base N qual scope f cd A outer s H E) [] (start N vs) H s1:=by
  have hpl:ps.length ≤ N.length:=by have:=congrArg List.length S.pre; rw [List.length_take] at this; omega
  obtain ⟨h1,tk,rfl,hk⟩:=x.done
  have noA:∀ b:Addr,b ∉ (cxOf CX P w K mg base N qual scope f cd A outer s H E).ex:=fun b z => absurd (show b ∈ ([]:List Addr) from z) (by simp)
  refine ⟨⟨e0.mod,S.kind,rfl,rfl,Nat.le_refl _,fun y z c h1 h2 => ?_,fun y hy => ?_,fun y c _ h => ?_,fun _ => hd,Around.frames_deeper e0.frames,.inr ⟨rfl,rfl⟩,fun b z => absurd z (noA b),e0.bs,e0.bsz,fun b _ _ => noA b,fun b z => absurd z (noA b),e0.funs,e0.frf⟩,
    rfl,e0.bare,Un.kept hk,⟨_,x.toInCall.ns,fun i y v h1 h2 h3 => ?_⟩,fun y c h => ⟨_,x.cell y c h⟩,e0.hok.fresh (Nat.le_refl _),fun y c h => ?_,fun p hp => absurd (show p ∈ ([]:List (Addr × Obj)) from hp) (by simp),e0.hok.kept hk,?_⟩
  · exact name_of_addr x.apart (PySem.mem_of_lookup h1) (PySem.mem_of_lookup h2)
  · have hy:scope.names.lookup y = some .cell ∨ scope.names.lookup y = some .free:=hy
    rcases hy with hy | hy
    · exact cell_has hy
    · exact absurd rfl (S.nofree _ (PySem.mem_of_lookup hy))
  · exact Nat.le_of_lt (x.above y c (PySem.mem_of_lookup h))
  · have hi:i < vs.length:=by
      unfold start at h2
      by_cases hi:i < vs.length
      · exact hi
      · rw [List.getElem?_append_right (by simpa using hi)] at h2
        rw [List.getElem?_replicate] at h2
        split at h2 <;> cases h2
    have ha:vs[i]? = some v:=by
      unfold start at h2
      rw [List.getElem?_append_left (by simpa using hi),List.getElem?_map] at h2
      cases e:vs[i]? with
      | none => rw [e] at h2; cases h2
      | some a => rw [e] at h2; cases h2; rfl
    obtain ⟨u,hu,rv⟩:=r.get ha
    have hp:ps[i]? = some y:=by
      rw [← S.pre,List.getElem?_take_of_lt (by omega)]; exact h1
    have ndP:ps.Nodup:=by rw [← S.pre]; exact S.nd.sublist (List.take_sublist _ _)
    refine ⟨u,rv,?_⟩
    rcases S.par y (List.mem_of_getElem? hp) with k | k
    · exact .inl ⟨k,bindL_get ndP hp hu k⟩
    · obtain ⟨c,e⟩:=cell_has (n:=s.heap.objs.size + 1) k
      refine .inr ⟨.inl k,c,e,?_⟩
      have q:=x.cell y c e
      rw [bindC_get ndP hp hu (by show scope.names.lookup y ≠ _; rw [k]; decide)] at q
      exact q
  · exact e0.hok.fresh (Nat.le_of_lt (x.above y c (PySem.mem_of_lookup h)))
  · unfold start
    show _ = N.length
    rw [List.length_append,List.length_map,List.length_replicate]
    omega
theorem fn_of {CX:CXT} {P:Program} {w:World} {K:PySem.W.Frag} {mg:Str → Option Value} {base:Heap} {k:Nat} {f:Addr} {name qual:Str} {params:Arguments} {body:List Stmt} {scope:Scope} {dV kV doc pm cdv ct oc:Value} {an od:Option Addr}
    {osl:Array (Option Value)} {N ps:List Str} {sp:Sp} (lk:K.lookup f = some ⟨oc,od,.func (PySem.W.fnOf name qual params body scope dV kV doc pm an cdv ct),osl⟩) (hcd:PySem.W.codeIn K cdv qual = true) (S:FnScope N ps scope)
    (len:∀ vs H Q E,sp vs H Q E → vs.length = ps.length)
    (hbody:∀ (A:Around) (outer:List Env) (s:Shared) (H:Hp) (vs:List V) (Q:VK) (E:XK),Room k (A.deeper (envOfC qual scope s.heap.objs.size f cdv)) → sp vs H Q E →
      ∃ t,PSs (cxOf CX P w K mg base N qual scope f cdv A outer s H E) body t ∧ t { nx:=fun _ H' => Q .non H',rt:=Q } (start N vs) H) :
    FnOk P w K mg base CX (k + 1) f (PySem.W.fnOf name qual params body scope dV kV doc pm an cdv ct) ps sp:=by
  refine ⟨len,fun A outer s H args us vs Q E hr e0 hb r hsp => ?_⟩
  have hl:=len _ _ _ _ hsp
  have KX:K.In s.heap:=e0.mod.kin.keeps fun b o e => (e0.bs b o e).1
  have lim:s.heap.NoLimit:=e0.mod.nolimit.keeps fun b o e => (e0.bs b o e).1
  have hkind:∀ y ∈ ps.zip us,scope.names.lookup y.1 = some .local ∨ (scope.names.lookup y.1 = some .cell ∧ ((cellsFrom (s.heap.objs.size + 1) scope.names []).lookup y.1).isSome = true):=fun ⟨n,v⟩ hy => by
    rcases S.par n (List.of_mem_zip hy).1 with q | q
    · exact .inl q
    · exact .inr ⟨q,PySem.W.cellsFrom_some _ _ _ (.inl q)⟩
  refine codeAny_call_function hr.depth (KX _ _ lk) rfl S.co S.gen rfl (PySem.W.codeRec_of KX hcd) (hb _ _ _ _ ?_)
  refine wpAny_newFunctionEnv_cells S.kind hkind fun env he s1 x => ?_
  subst he
  refine ⟨lim.keeps x.toInCall.keep,codeAny_func ?_⟩
  obtain ⟨t,ht,hq⟩:=hbody A outer s H vs Q E (hr.deeper _) hsp
  have I:Inv (cxOf CX P w K mg base N qual scope f cdv A outer s H E) [] (start N vs) H s1:=inv_start S hr.hd e0 hl r x
  refine wpAny_mono (ht [] s1 (start N vs) H _ I hq) (fun fl s' hs => ?_) fun e s' hs => hs
  have fin:∀ {σ':St} {H':Hp} {v:V} {u:Value},Inv (cxOf CX P w K mg base N qual scope f cdv A outer s H E) [] σ' H' s' → RelV v u → Q v H' → CE outer P w H s Q u s' :=
    fun {σ' H' v u} J rv q => ⟨v,H',J.os,J.bare,J.base,J.hok,rv,q⟩
  cases fl with
  | ret u =>
    obtain ⟨v,σ',H',J,rv,q⟩:=hs
    exact fin J rv q
  | next =>
    obtain ⟨σ',H',J,q⟩:=hs
    exact fin (v:=V.non) (u:=Value.none) J rfl q
  | brk =>
    obtain ⟨_,_,_,q⟩:=hs
    exact False.elim q
  | cont =>
    obtain ⟨_,_,_,q⟩:=hs
    exact False.elim q
end L2
namespace L2
open PySem PySem.Spec PyProof.Rows
section
variable {X:Cx} {x:Str} {p pos:Pos} {e:Expr} {es:List Expr} {t:TA} {id T:String} {r:List V → Hp → VK → Prop}
noncomputable def tCB (r:List V → Hp → VK → Prop) (t:TA):TE:=fun σ H Q => t σ H fun vs H1 => r vs H1 Q
theorem pe_callB (hc:CallR X (.builtin id) r) (hg:Gl X x) (hm:X.mg x = none) (hv:bootBuiltins x = some (.builtin id)) (ha:PA X (e :: es) t) (hn:x ≠ "__name__":=by decide) (hdb:(x == ("__debug__":Str)) = false:=by decide)
    (he:starEach (e :: es) X.env = (false,eval e X.env) :: starEach es X.env:=by rfl) (hpl:(backTo pos (starEach es X.env)).any (·.1) = false:=by rfl):PE X (.Call (.Name x p) (e :: es) [] pos) (tCB r t):=by
  intro pins s σ H Q I h
  refine wpAny_Call_Name_kw (ld_blt I hg hm hv ?_ hn hdb)
  exact PyProof.Rows.callWith_builtin1 (thn (ha pos pins s σ H _ I h) fun us s1 ⟨vs,H1,I1,r1,q1⟩ => hc pins s1 σ H1 vs us Q I1 r1 q1) he hpl
theorem pe_callTy (hc:CallR X (.type T) r) (hg:Gl X x) (hm:X.mg x = none) (hv:bootBuiltins x = some (.type T)) (ha:PA X (e :: es) t) (hn:x ≠ "__name__":=by decide) (hdb:(x == ("__debug__":Str)) = false:=by decide)
    (he:starEach (e :: es) X.env = (false,eval e X.env) :: starEach es X.env:=by rfl) (hpl:(backTo pos (starEach es X.env)).any (·.1) = false:=by rfl):PE X (.Call (.Name x p) (e :: es) [] pos) (tCB r t):=by
  intro pins s σ H Q I h
  refine wpAny_Call_Name_kw (ld_blt I hg hm hv ?_ hn hdb)
  exact PyProof.Rows.callWith_type1 (thn (ha pos pins s σ H _ I h) fun us s1 ⟨vs,H1,I1,r1,q1⟩ => hc pins s1 σ H1 vs us Q I1 r1 q1) he hpl
end
end L2
namespace HT
open PySem PyProof.Rows
section
open PySem.SeqAt
open PySem.AutoSeq1 (wpAny_loadPart')
open PySem.MeetsSeq PySem.MeetsSeq2 PySem.MeetsSeq3
end
section
variable {prog:Program} {w:World} {A:Around} {E:Value → Shared → Prop} {s:Shared}
theorem cat_tup {t b:Addr} {vs ws:List Value} {Q:Value → Shared → Prop} (ht:IsTup s.heap t vs.toArray) (hb:IsTup s.heap b ws.toArray) (hv:vs ≠ [])
    (h1:ws = [] → Q (.ref t) s) (h2:ws ≠ [] → Q (.ref s.heap.objs.size) { s with heap:=s.heap.push { cls:=.type "tuple",data:=.seq (vs ++ ws).toArray } })
    (hsz:vs.length + ws.length ≤ sizeLine):wpAny (model prog w) A (binaryOp .Add (.ref t) (.ref b)) Q E s:=by
  obtain ⟨⟨cls,dd,data,sl⟩,ho,hc,n,hd⟩:=id ht
  obtain ⟨⟨cls2,dd2,data2,sl2⟩,ho2,hc2,n2,hd2⟩:=id hb
  simp only at hc hd hc2 hd2
  subst hc hd hc2 hd2
  have e:vs.toArray ++ ws.toArray = (vs ++ ws).toArray:=by simp
  by_cases hw:ws = []
  · exact concat_meets ⟨_,ho,rfl⟩ ⟨_,ho2,rfl⟩ noFill_tuple_add seq_tuple_add PySem.F.slot_tuple_add PySem.F.entry_tuple_add (PySem.F.args_tuple_add_2 _ _)
      (tuple_addW1 t b vs.toArray ws.toArray n n2 dd dd2 sl sl2 (by simpa using hv) (by simp [hw])) ⟨ho,ho2,h1 hw⟩
  · refine concat_meets ⟨_,ho,rfl⟩ ⟨_,ho2,rfl⟩ noFill_tuple_add seq_tuple_add PySem.F.slot_tuple_add PySem.F.entry_tuple_add (PySem.F.args_tuple_add_2 _ _)
      (tuple_addW2 t b vs.toArray ws.toArray n n2 dd dd2 sl sl2 (by simpa using hv) (by simpa using hw) (by rw [List.size_toArray,List.size_toArray]; exact hsz)) ⟨ho,ho2,?_⟩
    rw [e]
    exact h2 hw
end
end HT
namespace L2
open PySem PySem.Spec PyProof.Rows
noncomputable abbrev TO:=St → Hp → (Option Int → Hp → Prop) → Prop
noncomputable def PO (X:Cx) (e:Option Expr) (t:TO):Prop :=
  ∀ (pins:List (Addr × Obj)) (s:Shared) (σ:St) (H:Hp) (Q:Option Int → Hp → Prop),Inv X pins σ H s → t σ H Q →
    wpAny (model X.prog X.w) X.A (evalPart e X.env) (fun u s' => ∃ o H',Inv X pins σ H' s' ∧ IsPart u o ∧ Q o H') X.xe s
noncomputable def tNoPart:TO:=fun _ H Q => Q none H
noncomputable def tPart (t:TE):TO:=fun σ H Q => t σ H fun x H1 => ∃ i,x = .int i ∧ Q (some i) H1
section
variable {X:Cx} {e:Expr} {te:TE} {lo hi:Option Expr} {tl th:TO} {pos p2:Pos}
theorem po_none:PO X none tNoPart:=by
  intro pins s σ H Q I h
  rw [evalPart_none]
  exact wpAny_pure ⟨none,H,I,.none,h⟩
theorem po_some (h:PE X e te):PO X (some e) (tPart te):=by
  intro pins s σ H Q I hw
  rw [evalPart_some]
  refine thn (h pins s σ H _ I hw) fun u s1 ⟨x,H1,I1,r1,q1⟩ => ?_
  obtain ⟨i,rfl,q⟩:=q1
  obtain ⟨t,rfl⟩:=r1
  exact ⟨some i,H1,I1,.int i t,q⟩
noncomputable def SlR (X:Cx) (r:V → Option Int → Option Int → Hp → VK → Prop):Prop :=
  ∀ (pins:List (Addr × Obj)) (s:Shared) (σ:St) (H:Hp) (x:V) (v vl vu:Value) (lo hi:Option Int) (sl:Addr) (Q:VK),Inv X pins σ H s → RelV x v → s.heap.IsSliceOf sl vl vu .none → IsPart vl lo → IsPart vu hi → r x lo hi H Q →
    ∃ T id,typeLookup (.type T) "__getitem__" = pure (some (.builtin id)) ∧ s.TypeIs v T ∧ wpAny (model X.prog X.w) X.A (getItem v (.ref sl)) (EP X pins σ Q) X.xe s
noncomputable def tSl (r:V → Option Int → Option Int → Hp → VK → Prop) (te:TE) (tl th:TO):TE:=fun σ H Q => te σ H fun x H1 => tl σ H1 fun l H2 => th σ H2 fun u H3 => r x l u H3 Q
theorem pe_slice {r:V → Option Int → Option Int → Hp → VK → Prop} (hr:SlR X r) (he:PE X e te) (hl:PO X lo tl) (hu:PO X hi th):PE X (.Subscript e (.Slice lo hi none p2) pos) (tSl r te tl th):=by
  intro pins s σ H Q I h
  refine Subscript_ (thn (he pins s σ H _ I h) fun v s1 ⟨x,H1,I1,r1,q1⟩ => ?_)
  refine wpAny_Slice (thn (hl pins s1 σ H1 _ I1 q1) fun vl s2 ⟨l,H2,I2,pl,q2⟩ => thn (hu pins s2 σ H2 _ I2 q2) fun vu s3 ⟨u,H3,I3,pu,q3⟩ => ?_)
  rw [evalPart_none]
  refine wpAny_pure ?_
  have I4:Inv X pins σ H3 { s3 with heap:=s3.heap.push { cls:=.type "slice",data:=.fields #[vl,vu,.none] } }:=I3.kept (t':=s3.toks) fun b ob q => Heap.get?_push_of_some _ q
  obtain ⟨T,id,hT,ht,hg⟩:=hr pins { s3 with heap:=s3.heap.push { cls:=.type "slice",data:=.fields #[vl,vu,.none] } } σ H3 x v vl vu l u s3.heap.objs.size Q I4 r1 (Heap.IsSliceOf.new ..) pl pu q3
  show wpAny (model X.prog X.w) X.A (subscriptTail e (.Slice lo hi none p2) v (.ref s3.heap.objs.size)) (EP X pins σ Q) X.xe { s3 with heap:=s3.heap.push { cls:=.type "slice",data:=.fields #[vl,vu,.none] } }
  exact tail_any (ops:=[.ref s3.heap.objs.size,v]) ht hT hg (by with_unfolding_all rfl)
noncomputable def rCatT (K:PySem.W.Frag):R2:=fun x y H Q => ∃ a b xs ys,x = .ref a ∧ y = .ref b ∧ SqT K H a xs ∧ SqT K H b ys ∧ xs ≠ [] ∧ xs.length + ys.length ≤ sizeLine ∧
  (ys = [] → Q (.ref a) H) ∧ (ys ≠ [] → ∀ p,H p = none → Q (.ref p) (upd H p (.tup (xs ++ ys))))
theorem Vals.nil_iff {xs:List V} {us:List Value} (r:Vals xs us):us = [] ↔ xs = []:=by
  cases r with
  | nil => simp
  | cons _ _ => simp
theorem op_catT:OpR X (binaryOp .Add) (rCatT X.K):=by
  intro pins s σ H x y v u Q I rx ry h
  obtain ⟨a,b,xs,ys,rfl,rfl,ha,hb,hx,hz,q1,q2⟩:=h
  cases rx
  cases ry
  obtain ⟨its,r1,p1,_⟩:=I.tuple ha
  obtain ⟨its2,r2,p2,_⟩:=I.tuple hb
  refine HT.cat_tup p1 p2 (fun z => hx (r1.nil_iff.mp z)) (fun z => ⟨.ref a,H,I,rfl,q1 (r2.nil_iff.mp z)⟩) (fun z => ?_) (by rw [← r1.length,← r2.length]; exact hz)
  refine ⟨.ref s.heap.objs.size,_,I.laid (t':=s.toks) (o:=.tup (xs ++ ys)) (fun b ob q => Heap.get?_push_of_some _ q) (Nat.le_refl _) ?_,rfl,q2 (fun w => z (r2.nil_iff.mpr w)) _ (I.hok.fresh (Nat.le_refl _))⟩
  exact ⟨by rw [List.length_append]; exact hz,_,r1.append r2,IsTup.new _ _⟩
end
end L2
namespace L2
open PySem PySem.Spec PyProof.Rows
noncomputable def ixN (n:Nat) (i:Int):Option Nat:=if 0 ≤ i then (if i < n then some i.toNat else none) else if -(n:Int) ≤ i then some (i + n).toNat else none
noncomputable def atI {α:Type} (xs:List α) (i:Int):Option α:=(ixN xs.length i).bind fun j => xs[j]?
theorem ixN_seq {n:Nat} {i:Int} {j:Nat} (h:ixN n i = some j):seqIndex? i n = some j ∧ j < n ∧ -(n:Int) ≤ i ∧ i < n:=by
  unfold ixN at h
  by_cases h0:0 ≤ i
  · rw [if_pos h0] at h
    by_cases h1:i < n
    · rw [if_pos h1] at h
      have e:i.toNat = j:=Option.some.inj h
      exact ⟨by rw [seqIndex_of h0 h1,e],by omega,by omega,h1⟩
    · rw [if_neg h1] at h; cases h
  · rw [if_neg h0] at h
    by_cases h1:-(n:Int) ≤ i
    · rw [if_pos h1] at h
      have e:(i + n).toNat = j:=Option.some.inj h
      exact ⟨by rw [seqIndex_neg (by omega) h1,e],by omega,h1,by omega⟩
    · rw [if_neg h1] at h; cases h
theorem atI_get {α:Type} {xs:List α} {i:Int} {v:α} (h:atI xs i = some v):∃ j,seqIndex? i xs.length = some j ∧ xs[j]? = some v ∧ j < xs.length ∧ -(xs.length:Int) ≤ i ∧ i < xs.length:=by
  unfold atI at h
  cases e:ixN xs.length i with
  | none => rw [e] at h; cases h
  | some j =>
    rw [e] at h
    obtain ⟨h1,h2,h3,h4⟩:=ixN_seq e
    exact ⟨j,h1,h,h2,h3,h4⟩
theorem atI_nat {α:Type} {xs:List α} {j:Nat} {v:α} (h:xs[j]? = some v):atI xs (j:Int) = some v:=by
  have hj:j < xs.length:=(List.getElem?_eq_some_iff.mp h).1
  have e:ixN xs.length (j:Int) = some j:=by
    unfold ixN
    rw [if_pos (by omega),if_pos (by omega)]; simp
  unfold atI; rw [e]; exact h
noncomputable def PlainIx (b:Expr):Prop:=∀ o i,subscripted b false o i = operate [o,i] (getItem o i)
noncomputable def IxR (X:Cx) (r:R2):Prop :=
  ∀ (value slice:Expr) (pins:List (Addr × Obj)) (s:Shared) (σ:St) (H:Hp) (x y:V) (v u:Value) (Q:VK),Inv X pins σ H s → RelV x v → RelV y u → r x y H Q →
    subscripted slice false v u = operate [v,u] (getItem v u) → wpAny (model X.prog X.w) X.A (subscriptTail value slice v u) (EP X pins σ Q) X.xe s
noncomputable def MtR (X:Cx) (id:String) (r:V → List V → Hp → VK → Prop):Prop :=
  ∀ (pins:List (Addr × Obj)) (s:Shared) (σ:St) (H:Hp) (x:V) (xs:List V) (v:Value) (us:List Value) (Q:VK),Inv X pins σ H s → RelV x v → Vals xs us → r x xs H Q →
    wpAny (model X.prog X.w) X.A (call (.builtin id) (v :: us)) (EP X pins σ Q) X.xe s
section
variable {X:Cx} {a b:Expr} {ta tb:TE} {pos:Pos}
theorem pe_ix {r:R2} (hr:IxR X r) (ha:PE X a ta) (hb:PE X b tb) (hs:PlainIx b):PE X (.Subscript a b pos) (tOp r ta tb):=by
  intro pins s σ H Q I h
  exact Subscript_ (binT ha hb I h fun v u s2 x y H2 I2 rx ry q => hr a b pins s2 σ H2 x y v u Q I2 rx ry q (hs _ _))
noncomputable def rIxL (K:PySem.W.Frag):R2:=fun x y H Q => ∃ p xs i v,x = .ref p ∧ y = .int i ∧ SqL K H p xs ∧ atI xs i = some v ∧ Q v H
noncomputable def rIxT (K:PySem.W.Frag):R2:=fun x y H Q => ∃ p xs i v,x = .ref p ∧ y = .int i ∧ SqT K H p xs ∧ atI xs i = some v ∧ Q v H
noncomputable def rIxS:R2:=fun x y H Q => ∃ z i c,x = .str z ∧ y = .int i ∧ z.length ≤ sizeLine ∧ atI z.cps.toList i = some c ∧ Q (.str ⟨#[c]⟩) H
theorem ix_list:IxR X (rIxL X.K):=by
  intro value slice pins s σ H x y v u Q I rx ry h hs
  obtain ⟨p,xs,i,z,rfl,rfl,hq,he,q⟩:=h
  cases rx
  obtain ⟨t,rfl⟩:=ry
  obtain ⟨its,r,pl,hz⟩:=I.list hq
  obtain ⟨j,h1,h2,h3,h4,h5⟩:=atI_get he
  obtain ⟨w,ew,rw'⟩:=r.get h2
  have hl:=r.length
  have hn:=line63
  have fin:EP X pins σ Q w s:=⟨z,H,I,rw',q⟩
  by_cases h0:0 ≤ i
  · have hj:i.toNat = j:=by
      rw [seqIndex_of h0 h5] at h1
      exact Option.some.inj h1
    exact item_listR pl.isList h0 (by omega) (by rw [hj]; simpa using ew) fin hs
  · have hj:(i + (its.toArray.size:Int)).toNat = j:=by
      rw [seqIndex_neg (by omega) h4] at h1
      rw [List.size_toArray,← hl]
      exact Option.some.inj h1
    exact subscriptTail_builtinR (x:=w) pl.isList.typeIs slot_list_getitem.lookup
      (wpAny_getItem_list_neg (Q:=fun r s' => r = w ∧ EP X pins σ Q r s') pl.isList (by omega) (by rw [List.size_toArray] <;> omega) (by omega) (by rw [hj]; simpa using ew) ⟨rfl,fin⟩) hs
theorem ix_tup:IxR X (rIxT X.K):=by
  intro value slice pins s σ H x y v u Q I rx ry h hs
  obtain ⟨p,xs,i,z,rfl,rfl,hq,he,q⟩:=h
  cases rx
  obtain ⟨t,rfl⟩:=ry
  obtain ⟨its,r,pl,hz⟩:=I.tuple hq
  obtain ⟨j,h1,h2,h3,h4,h5⟩:=atI_get he
  obtain ⟨w,ew,rw'⟩:=r.get h2
  have hl:=r.length
  have hn:=line63
  have fin:EP X pins σ Q w s:=⟨z,H,I,rw',q⟩
  exact subscriptTail_builtinR (x:=w) pl.typeIs slot_tuple_getitem.lookup
    (getItem_tuple (j:=j) (Q:=fun r s' => r = w ∧ EP X pins σ Q r s') pl (by omega) (by omega) (by rw [List.size_toArray,← hl]; exact h1) (by simpa using ew) ⟨rfl,fin⟩) hs
theorem ix_str:IxR X rIxS:=by
  intro value slice pins s σ H x y v u Q I rx ry h hs
  obtain ⟨z,i,c,rfl,rfl,hz,he,q⟩:=h
  obtain ⟨t,rfl⟩:=rx
  obtain ⟨t',rfl⟩:=ry
  obtain ⟨j,h1,h2,h3,h4,h5⟩:=atI_get he
  have hl:z.cps.toList.length = z.length:=by simp [Str.length]
  rw [hl] at h1 h4 h5
  have hn:=line63
  exact tail_any (typeIs_str s z t) slot_str_getitem.lookup (getItem_str (c:=c) (by
    have e1:decide (i < -(2 ^ 63:Int)) = false:=decide_eq_false (by omega)
    have e2:decide (i ≥ 2 ^ 63) = false:=decide_eq_false (by omega)
    rw [e1,e2,Bool.or_false]) (by rw [h1]; simpa using h2) ⟨.str ⟨#[c]⟩,H,I.tok _,⟨_,rfl⟩,q⟩) hs
noncomputable def flatV:V → Bool
  | .non => true
  | .bl _ => true
  | .int _ => true
  | .str _ => true
  | _ => false
noncomputable def eqV:V → V → Bool
  | .non,.non => true
  | .bl a,.bl b => a == b
  | .bl a,.int b => (if a then 1 else 0) == b
  | .int a,.bl b => a == (if b then 1 else 0)
  | .int a,.int b => a == b
  | .str a,.str b => a == b
  | _,_ => false
theorem eqAt_V {A:Around} {s:Shared} {y x:V} {u v:Value} (ry:RelV y u) (rx:RelV x v) (fy:flatV y = true) (fx:flatV x = true):SeqAt.EqAt A s u v (eqV y x):=by
  cases y with
  | non =>
    cases ry
    cases x with
    | non => cases rx; exact SeqAt.EqAt.same _
    | bl b => cases rx; exact SeqAt.EqAt.none_bool b
    | int b => obtain ⟨t,rfl⟩:=rx; exact SeqAt.EqAt.none_int b t
    | str b => obtain ⟨t,rfl⟩:=rx; exact SeqAt.EqAt.none_str b t
    | _ => exact absurd (show false = true from fx) Bool.false_ne_true
  | bl a =>
    cases ry
    cases x with
    | non => cases rx; exact SeqAt.EqAt.bool_none a
    | bl b => cases rx; exact SeqAt.EqAt.bool_bool a b
    | int b => obtain ⟨t,rfl⟩:=rx; exact SeqAt.EqAt.bool_int a b t
    | str b => obtain ⟨t,rfl⟩:=rx; exact SeqAt.EqAt.bool_str a b t
    | _ => exact absurd (show false = true from fx) Bool.false_ne_true
  | int a =>
    obtain ⟨t',rfl⟩:=ry
    cases x with
    | non => cases rx; exact SeqAt.EqAt.int_none a t'
    | bl b => cases rx; exact SeqAt.EqAt.int_bool a t' b
    | int b => obtain ⟨t,rfl⟩:=rx; exact SeqAt.EqAt.int_int a t' b t
    | str b => obtain ⟨t,rfl⟩:=rx; exact SeqAt.EqAt.int_str a t' b t
    | _ => exact absurd (show false = true from fx) Bool.false_ne_true
  | str a =>
    obtain ⟨t',rfl⟩:=ry
    cases x with
    | non => cases rx; exact SeqAt.EqAt.str_none a t'
    | bl b => cases rx; exact SeqAt.EqAt.str_bool a t' b
    | int b => obtain ⟨t,rfl⟩:=rx; exact SeqAt.EqAt.str_int a t' b t
    | str b => obtain ⟨t,rfl⟩:=rx; exact SeqAt.EqAt.str_str a t' b t
    | _ => exact absurd (show false = true from fx) Bool.false_ne_true
  | _ => exact absurd (show false = true from fy) Bool.false_ne_true
noncomputable def eqU (x:V) (u:Value):Bool:=match u with
  | .none => eqV .non x
  | .bool b => eqV (.bl b) x
  | .int i _ => eqV (.int i) x
  | .str z _ => eqV (.str z) x
  | _ => false
theorem eqU_of {x y:V} {u:Value} (r:RelV y u) (f:flatV y = true):eqU x u = eqV y x:=by
  cases y with
  | non => cases r; rfl
  | bl b => cases r; rfl
  | int i => obtain ⟨t,rfl⟩:=r; rfl
  | str z => obtain ⟨t,rfl⟩:=r; rfl
  | _ => exact absurd (show false = true from f) Bool.false_ne_true
theorem any_eqU {x:V}:∀ {xs:List V} {us:List Value},Vals xs us → xs.all flatV = true → us.any (eqU x) = xs.any fun y => eqV y x
  | _,_,.nil,_ => rfl
  | y :: xs,u :: us,.cons r t,f => by
    rw [List.all_cons,Bool.and_eq_true] at f
    rw [List.any_cons,List.any_cons,eqU_of r f.1,any_eqU t f.2]
theorem mem_eqAt {A:Around} {s:Shared} {x:V} {v:Value} (rx:RelV x v) (fx:flatV x = true):∀ {xs:List V} {us:List Value},Vals xs us → xs.all flatV = true → ∀ u ∈ us,SeqAt.EqAt A s u v (eqU x u)
  | _,_,.nil,_ => fun u hu => by cases hu
  | y :: xs,u :: us,.cons r t,f => fun u' hu => by
    rw [List.all_cons,Bool.and_eq_true] at f
    rcases List.mem_cons.mp hu with rfl | hu
    · rw [eqU_of r f.1]; exact eqAt_V r rx f.1 fx
    · exact mem_eqAt rx fx t f.2 u' hu
noncomputable def inV (x:V) (xs:List V):Bool:=xs.any fun y => eqV y x
noncomputable def rIn (K:PySem.W.Frag) (neg:Bool):R2:=fun x y H Q => ∃ p xs,y = .ref p ∧ (SqL K H p xs ∨ SqT K H p xs) ∧ flatV x = true ∧ xs.all flatV = true ∧ Q (.bl (if neg then !inV x xs else inV x xs)) H
theorem op_in_seq:OpR X (compareOp .In) (rIn X.K false):=by
  intro pins s σ H x y v u Q I rx ry h
  obtain ⟨p,xs,rfl,hq,fx,fs,q⟩:=h
  cases ry
  rcases hq with hq | hq
  · obtain ⟨its,r,pl,hz⟩:=I.list hq
    refine SeqAt.in_listAt (eqU x) pl.isList (fun w hw => mem_eqAt rx fx r fs w (by simpa using hw)) ⟨.bl _,H,I,rfl,?_⟩
    rw [show its.toArray.any (eqU x) = its.any (eqU x) by simp,any_eqU r fs]
    exact q
  · obtain ⟨its,r,pl,hz⟩:=I.tuple hq
    refine SeqAt.in_tupleAt (eqU x) pl (fun w hw => mem_eqAt rx fx r fs w (by simpa using hw)) ⟨.bl _,H,I,rfl,?_⟩
    rw [show its.toArray.any (eqU x) = its.any (eqU x) by simp,any_eqU r fs]
    exact q
theorem call_len_seq:CallR X (.builtin "len") (fun xs H Q => ∃ p ys,xs = [.ref p] ∧ (SqL X.K H p ys ∨ SqT X.K H p ys) ∧ Q (.int ys.length) H):=by
  intro pins s σ H xs us Q I r h
  obtain ⟨p,ys,rfl,hq,q⟩:=h
  obtain ⟨u,rfl,rx⟩:=vals1 r
  cases rx
  have hn:=line63
  rcases hq with hq | hq
  · obtain ⟨its,r',pl,hz⟩:=I.list hq
    have hlen:=r'.length
    exact Calls.call_len_list pl.isList (by simp only [List.size_toArray] <;> omega) ⟨.int ys.length,H,I.tok _,⟨s.toks + 1,by rw [List.size_toArray,hlen]⟩,q⟩
  · obtain ⟨its,r',pl,hz⟩:=I.tuple hq
    have hlen:=r'.length
    exact len_tuple pl (by simp only [List.size_toArray] <;> omega) ⟨.int ys.length,H,I.tok _,⟨s.toks + 1,by rw [List.size_toArray,hlen]⟩,q⟩
theorem call_tuple_of:CallR X (.type "tuple") (fun xs H Q => ∃ p ys,xs = [.ref p] ∧ ((SqL X.K H p ys ∧ ∀ l,H l = none → Q (.ref l) (upd H l (.tup ys))) ∨ (SqT X.K H p ys ∧ Q (.ref p) H))):=by
  intro pins s σ H xs us Q I r h
  obtain ⟨p,ys,rfl,h⟩:=h
  obtain ⟨u,rfl,rx⟩:=vals1 r
  cases rx
  rcases h with ⟨hq,q⟩ | ⟨hq,q⟩
  · obtain ⟨its,r',pl,hz⟩:=I.list hq
    have hlen:=r'.length
    refine call_tuple_list pl.isList (fun h' kp => ?_) (by simp only [List.size_toArray] <;> omega)
    have I1:Inv X pins σ H { s with heap:=h' }:=I.kept (t':=s.toks) kp
    have I2:Inv X pins σ (upd H h'.objs.size (.tup ys)) { s with heap:=h'.push { cls:=.type "tuple",data:=.seq its.toArray } } :=
      I1.laid (t':=s.toks) (fun b o e => Heap.get?_push_of_some _ e) (Nat.le_refl _) (show ObjOk X.prog X.w _ _ _ (.tup ys) from ⟨hz,its,r',IsTup.new _ _⟩)
    exact ⟨.ref h'.objs.size,_,I2,rfl,q _ (I1.hok.fresh (Nat.le_refl _))⟩
  · obtain ⟨its,r',pl,hz⟩:=I.tuple hq
    exact call_tuple_same pl ⟨.ref p,H,I,rfl,q⟩
noncomputable def tyV (K:PySem.W.Frag) (T:String) (x:V) (H:Hp):Prop:=match x with
  | .str _ => T = "str"
  | .int _ => T = "int"
  | .ref p => (T = "list" ∧ ∃ xs,SqL K H p xs) ∨ (T = "tuple" ∧ ∃ o,K.lookup p = some o ∧ o.cls = .type "tuple" ∧ o.dict = none) ∨
      (T = "dict" ∧ ((∃ kvs,H p = some (.dK kvs)) ∨ ∃ kvs,H p = some (.dT kvs))) ∨ (T = "set" ∧ ∃ S n,H p = some (.set S n))
  | _ => False
theorem tyV_is {pins:List (Addr × Obj)} {σ:St} {H:Hp} {s:Shared} {T:String} {x:V} {v:Value} (I:Inv X pins σ H s) (r:RelV x v) (ty:tyV X.K T x H) :
    s.TypeIs v T ∧ ∀ a,v = .ref a → ∃ ob,s.heap.get? a = some ob ∧ ob.dict = none:=by
  cases x with
  | str z =>
    obtain ⟨t,rfl⟩:=r
    cases (show T = "str" from ty)
    exact ⟨typeIs_str s z t,fun _ e => nomatch e⟩
  | int i =>
    obtain ⟨t,rfl⟩:=r
    cases (show T = "int" from ty)
    exact ⟨typeIs_int s i t,fun _ e => nomatch e⟩
  | ref p =>
    cases r
    rcases ty with ⟨rfl,xs,hq⟩ | ⟨rfl,o,hk,hc,hd⟩ | ⟨rfl,hk⟩ | ⟨rfl,S,n,hk⟩
    · obtain ⟨its,_,pl,_⟩:=I.list hq
      refine ⟨pl.isList.typeIs,fun a e => ?_⟩
      cases e
      obtain ⟨o,n,e,c,hd,_⟩:=pl
      exact ⟨o,e,hd⟩
    · refine ⟨⟨o,I.kIn p o hk,hc⟩,fun a e => ?_⟩
      cases e
      exact ⟨o,I.kIn _ o hk,hd⟩
    · have z:∃ o,s.heap.get? p = some o ∧ o.ExactDict:=by
        rcases hk with ⟨kvs,hk⟩ | ⟨kvs,hk⟩
        · obtain ⟨_,_,_,_,o,_,_,e,ex,_⟩:=I.hok p _ hk
          exact ⟨o,e,ex⟩
        · obtain ⟨_,_,_,_,o,_,_,e,ex,_⟩:=I.hok p _ hk
          exact ⟨o,e,ex⟩
      obtain ⟨o,e,ex⟩:=z
      refine ⟨⟨o,e,ex.1⟩,fun a e2 => ?_⟩
      cases e2
      exact ⟨o,e,ex.2.1⟩
    · obtain ⟨o,_,_,_,e,ex,_⟩:=I.hok p _ hk
      refine ⟨⟨o,e,ex.1⟩,fun a e2 => ?_⟩
      cases e2
      exact ⟨o,e,ex.2.1⟩
  | _ => exact False.elim ty
noncomputable def tBM0 (K:PySem.W.Frag) (T:String) (r:V → List V → Hp → VK → Prop) (to:TE):TE:=fun σ H Q => to σ H fun x H1 => tyV K T x H1 ∧ r x [] H1 Q
noncomputable def tBM (K:PySem.W.Frag) (T:String) (r:V → List V → Hp → VK → Prop) (to:TE) (t:TA):TE:=fun σ H Q => to σ H fun x H1 => tyV K T x H1 ∧ t σ H1 fun xs H2 => r x xs H2 Q
variable {o e:Expr} {es:List Expr} {to:TE} {t:TA} {name:Str} {apos cpos:Pos} {T id:String} {r:V → List V → Hp → VK → Prop}
theorem pe_bm0 (pa:PlainAttrs T) (slot:Slot T name id) (hty:typeOf (.builtin id) = pure (.type "method_descriptor")) (hm:MtR X id r) (ho:PE X o to)
    (hbase:attributeBase o name X.env (eval o X.env) = eval o X.env:=by rfl) (hline:(apos.endLine == cpos.line) = true:=by rfl):PE X (.Call (.Attribute o name apos) [] [] cpos) (tBM0 X.K T r to):=by
  intro pins s σ H Q I h
  refine wpAny_Call_method0_late hbase hline (thn (ho pins s σ H _ I h) fun v s1 ⟨x,H1,I1,r1,ty,q1⟩ => ?_)
  obtain ⟨h1,h2⟩:=tyV_is I1 r1 ty
  exact ⟨T,id,pa,slot,hty,h1,h2,Calls.callWith_builtin rfl (PySem.evalArgs_none (hm pins s1 σ H1 x [] v [] Q I1 r1 .nil q1))⟩
theorem pe_bm (pa:PlainAttrs T) (slot:Slot T name id) (hty:typeOf (.builtin id) = pure (.type "method_descriptor")) (hm:MtR X id r) (ho:PE X o to) (ha:PA X (e :: es) t)
    (hbase:attributeBase o name X.env (eval o X.env) = eval o X.env:=by rfl)
    (hfew:((backTo cpos (starEach (e :: es) X.env)).all (fun x => !x.1) && (backToKw cpos (keywordEach [] X.env)).all (fun x => x.1.isSome)
      && decide ((e :: es).length + ([]:List Keyword).length + (if ([]:List Keyword).isEmpty then 0 else 1) < 30)) = true:=by rfl)
    (hline:(apos.endLine == cpos.line) = true:=by rfl) (hs:starEach (e :: es) X.env = (false,eval e X.env) :: starEach es X.env:=by rfl) (hplain:(backTo cpos (starEach es X.env)).any (·.1) = false:=by rfl) :
    PE X (.Call (.Attribute o name apos) (e :: es) [] cpos) (tBM X.K T r to t):=by
  intro pins s σ H Q I h
  refine wpAny_Call_method_late hbase hfew hline rfl (thn (ho pins s σ H _ I h) fun v s1 ⟨x,H1,I1,r1,ty,q1⟩ => ?_)
  obtain ⟨h1,h2⟩:=tyV_is I1 r1 ty
  refine ⟨T,id,pa,slot,hty,h1,h2,?_⟩
  have hA:=ha cpos pins s1 σ H1 _ I1 q1
  rw [hs] at hA ⊢
  refine Calls.callWith_builtin (by show (false || (backTo cpos (starEach es X.env)).any (·.1)) = false; rw [hplain] <;> rfl) (Calls.evalArgs_plain ?_)
  exact thn hA fun us s2 ⟨vs,H2,I2,r2,q2⟩ => hm pins s2 σ H2 x vs v us Q I2 r1 r2 q2
/- xs.append(e),list.index on a module's tuple .. are MtR facts of 06m -/
end
end L2
namespace L2
open PySem PySem.Spec PyProof.Rows
noncomputable def MtM (X:Cx) (id:String) (r:V → List V → Hp → VK → Prop):Prop :=
  ∀ (pins:List (Addr × Obj)) (s:Shared) (σ:St) (H:Hp) (x:V) (xs:List V) (v:Value) (us:List Value) (Q:VK),Inv X pins σ H s → RelV x v → Vals xs us → r x xs H Q →
    wpAny (model X.prog X.w) X.A (call (.builtin id) (v :: us)) (EP X pins σ Q) X.xe s
theorem Vals.one:∀ {x:V} {us:List Value},Vals [x] us → ∃ u,us = [u] ∧ RelV x u
  | _,_,.cons r .nil => ⟨_,rfl,r⟩
theorem Vals.zero:∀ {us:List Value},Vals [] us → us = []
  | _,.nil => rfl
theorem Vals.dropLast {xs:List V} {us:List Value} (h:Vals xs us):Vals xs.dropLast us.dropLast:=by
  induction h with
  | nil => exact .nil
  | cons r t ih =>
    cases t with
    | nil => exact .nil
    | cons q t' => exact .cons r ih
theorem erase_last {α:Type} (l:List α):l.eraseIdx (l.length - 1) = l.dropLast:=by
  induction l with
  | nil => rfl
  | cons a r ih =>
    cases r with
    | nil => rfl
    | cons b r =>
      have e:(a :: b :: r).length - 1 = ((b :: r).length - 1) + 1:=by
        have h1:(a :: b :: r).length = r.length + 2:=rfl
        have h2:(b :: r).length = r.length + 1:=rfl
        omega
      rw [e,List.eraseIdx_cons_succ,ih]
      all_goals rfl
section
variable {X:Cx} {pins:List (Addr × Obj)} {σ:St} {H:Hp} {s:Shared} {l b:Addr} {xs ys zs:List V}
theorem Inv.lset {its its':List Value} {n:Nat} {f:Array Value → Array Value} {t':Nat} (I:Inv X pins σ H s) (hH:H l = some (.lst xs))
    (e:s.heap.get? l = some { cls:=.type "list",data:=.seq its.toArray n }) (hf:f its.toArray = its'.toArray) (hv:Vals ys its') (hz:ys.length ≤ sizeLine) :
    Inv X pins σ (upd H l (.lst ys)) { s with heap:=s.heap.update l (Obj.mapSeq f),toks:=t' }:=by
  have q:=PySem.IsL.update e f
  rw [hf] at q
  refine I.write (x:=l) (e:=l) (by rw [hH]; exact trivial) (.inl rfl) (fun b' u hb hu => (Heap.get?_update_other s.heap (Obj.mapSeq f) (Ne.symm hb)).trans hu) ⟨_,q⟩ ?_
  exact ⟨hz,its',_,hv,q⟩
theorem Inv.lstM (I:Inv X pins σ H s) (hH:H l = some (.lst xs)):xs.length ≤ sizeLine ∧ ∃ (its:List Value) (n:Nat),Vals xs its ∧ xs.length = its.length ∧ s.heap.get? l = some { cls:=.type "list",data:=.seq its.toArray n }:=by
  obtain ⟨z,its,n,r,e⟩:=I.hok l _ hH
  exact ⟨z,its,n,r,r.length,e⟩
end
section
variable {X:Cx}
noncomputable def rAppend:V → List V → Hp → VK → Prop:=fun x vs H Q => ∃ l xs y,x = .ref l ∧ vs = [y] ∧ H l = some (.lst xs) ∧ xs.length < sizeLine ∧ Q .non (upd H l (.lst (xs ++ [y])))
theorem mt_append:MtM X "list.append" rAppend:=by
  intro pins s σ H x vs v us Q I rx rv h
  obtain ⟨l,xs,y,rfl,rfl,hH,hz,q⟩:=h
  cases rx
  obtain ⟨u,rfl,ru⟩:=rv.one
  obtain ⟨z,its,n,r,hl,e⟩:=I.lstM hH
  refine call_meets F.slot_list_append ⟨_,e,rfl⟩ F.entry_list_append (F.args_list_append_2 _ _) (PySem.list_append l its.toArray n u (by rw [List.size_toArray]; omega)) ⟨e,?_⟩
  refine ⟨.non,_,I.lset (its':=its ++ [u]) hH e (by simp) (r.append (.cons ru .nil)) ?_,rfl,q⟩
  rw [List.length_append,List.length_singleton]
  omega
noncomputable def rPop:V → List V → Hp → VK → Prop:=fun x vs H Q => ∃ l xs y,x = .ref l ∧ vs = [] ∧ H l = some (.lst xs) ∧ xs[xs.length - 1]? = some y ∧ Q y (upd H l (.lst xs.dropLast))
theorem mt_pop:MtM X "list.pop" rPop:=by
  intro pins s σ H x vs v us Q I rx rv h
  obtain ⟨l,xs,y,rfl,rfl,hH,hy,q⟩:=h
  cases rx
  have hus:=rv.zero
  subst hus
  obtain ⟨z,its,n,r,hl,e⟩:=I.lstM hH
  obtain ⟨u,hu,ru⟩:=r.get hy
  have hy':its.toArray[its.toArray.size - 1]? = some u:=by
    show its.toArray[its.length - 1]? = some u
    rw [← Array.getElem?_toList,← hl]
    exact hu
  refine call_meets F.slot_list_pop ⟨_,e,rfl⟩ F.entry_list_pop (F.args_list_pop_1 _) (MeetsSeq.list_pop_last l its.toArray n u hy' (by rw [List.size_toArray]; omega)) ⟨e,?_⟩
  refine ⟨y,_,I.lset (its':=its.dropLast) hH e ?_ r.dropLast ?_,ru,q⟩
  · show its.toArray.eraseIdxIfInBounds (its.toArray.size - 1) = its.dropLast.toArray
    rw [List.size_toArray,List.eraseIdxIfInBounds_toArray,erase_last]
  · rw [List.length_dropLast]
    omega
end
section
variable {prog:Program} {w:World} {A:Around} {E:Value → Shared → Prop} {s:Shared}
end
section
variable {X:Cx}
end
end L2
namespace L2
open PySem PySem.Spec PyProof.Rows
section
variable {κ:Type} [DecidableEq κ]
noncomputable def valV (kvs:List (κ × V)) (k:κ):Option V:=(kvs.find? fun kv => decide (kv.1 = k)).map (·.2)
noncomputable def putK (kvs:List (κ × V)) (k:κ) (v:V):List (κ × V) :=
  if (kvs.any fun kv => decide (kv.1 = k)) = true then kvs.map (fun kv => if kv.1 = k then (kv.1,v) else kv) else kvs ++ [(k,v)]
noncomputable def dropK (kvs:List (κ × V)) (k:κ):List (κ × V):=kvs.filter fun kv => decide (kv.1 ≠ k)
theorem valV_pos {p:κ × V} {r:List (κ × V)} {k:κ} (e:p.1 = k):valV (p :: r) k = some p.2:=by simp [valV,List.find?_cons,e]
theorem valV_neg {p:κ × V} {r:List (κ × V)} {k:κ} (e:¬ p.1 = k):valV (p :: r) k = valV r k:=by simp [valV,List.find?_cons,e]
theorem valV_any (k:κ):∀ kvs:List (κ × V),(kvs.any fun kv => decide (kv.1 = k)) = (valV kvs k).isSome
  | [] => rfl
  | p :: r => by
    rw [List.any_cons]
    by_cases e:p.1 = k
    · simp only [valV_pos e,decide_eq_true e,Bool.true_or,Option.isSome_some]
    · rw [valV_neg e,decide_eq_false e,Bool.false_or]; exact valV_any k r
theorem valV_map (k j:κ) (y:V):∀ kvs:List (κ × V),valV (kvs.map fun kv => if kv.1 = k then (kv.1,y) else kv) j = (valV kvs j).map fun x => if j = k then y else x
  | [] => rfl
  | p :: r => by
    have ih:=valV_map k j y r
    rw [List.map_cons]
    by_cases h:p.1 = k
    · rw [if_pos h]
      by_cases e:p.1 = j
      · rw [valV_pos (p:=(p.1,y)) e,valV_pos e,Option.map_some,if_pos (e.symm.trans h)]
      · rw [valV_neg (p:=(p.1,y)) e,valV_neg e,ih]
    · rw [if_neg h]
      by_cases e:p.1 = j
      · rw [valV_pos (p:=p) e,valV_pos e,Option.map_some,if_neg (fun z => h (e.trans z))]
      · rw [valV_neg (p:=p) e,valV_neg e,ih]
theorem valV_snoc (k j:κ) (y:V):∀ kvs:List (κ × V),valV kvs k = none → valV (kvs ++ [(k,y)]) j = if j = k then some y else valV kvs j
  | [],_ => by
    by_cases e:k = j
    · rw [if_pos e.symm]; exact valV_pos (p:=(k,y)) e
    · rw [if_neg (fun z => e z.symm)]; exact valV_neg (p:=(k,y)) e
  | p :: r,hn => by
    rw [List.cons_append]
    have hk:¬ p.1 = k:=fun z => by rw [valV_pos z] at hn; cases hn
    rw [valV_neg hk] at hn
    have ih:=valV_snoc k j y r hn
    by_cases e:p.1 = j
    · rw [valV_pos e,valV_pos e,if_neg (fun z => hk (e.trans z))]
    · rw [valV_neg e,valV_neg e,ih]
theorem valV_put (kvs:List (κ × V)) (k j:κ) (y:V):valV (putK kvs k y) j = if j = k then some y else valV kvs j:=by
  unfold putK
  by_cases a:(kvs.any fun kv => decide (kv.1 = k)) = true
  · rw [if_pos a,valV_map]
    rw [valV_any] at a
    by_cases e:j = k
    · obtain ⟨x,hx⟩:=Option.isSome_iff_exists.mp a
      rw [if_pos e,e,hx,Option.map_some,if_pos rfl]
    · rw [if_neg e]
      cases valV kvs j with
      | none => rfl
      | some x => rw [Option.map_some,if_neg e]
  · rw [if_neg a]
    refine valV_snoc k j y kvs ?_
    rw [valV_any] at a
    cases q:valV kvs k with
    | none => rfl
    | some x => rw [q] at a; exact (a rfl).elim
theorem length_putK (kvs:List (κ × V)) (k:κ) (v:V):(putK kvs k v).length ≤ kvs.length + 1:=by
  unfold putK
  split
  · rw [List.length_map]; omega
  · rw [List.length_append,List.length_cons,List.length_nil]; omega
theorem putK_new {kvs:List (κ × V)} {k:κ} (v:V) (h:valV kvs k = none):putK kvs k v = kvs ++ [(k,v)]:=by
  unfold putK
  rw [valV_any,h]
  exact if_neg (by decide)
theorem RelO.isSome_eq {o:Option V} {u:Option Value} (r:RelO o u):o.isSome = u.isSome:=by
  cases o with
  | none => cases u with
    | none => rfl
    | some _ => exact (show False from r).elim
  | some _ => cases u with
    | none => exact (show False from r).elim
    | some _ => rfl
theorem RelO.getD {o:Option V} {u:Option Value} {d:V} {d':Value} (r:RelO o u) (rd:RelV d d'):RelV (o.getD d) (u.getD d'):=by
  cases o with
  | none => cases u with
    | none => exact rd
    | some _ => exact (show False from r).elim
  | some _ => cases u with
    | none => exact (show False from r).elim
    | some _ => exact r
theorem KV.val {kvs:List (κ × V)} {vs:List (κ × Value)} (r:KV kvs vs) (k:κ):RelO (valV kvs k) (valueAt vs k):=by
  unfold KV at r
  induction r with
  | nil => exact True.intro
  | @cons p q ps qs h t ih =>
    obtain ⟨h1,h2⟩:=h
    by_cases e:p.1 = k
    · have e':q.1 = k:=h1.symm.trans e
      have b:valueAt (q :: qs) k = some q.2:=by simp [valueAt,List.find?_cons,e']
      rw [valV_pos e,b]; exact h2
    · have e':¬ q.1 = k:=fun z => e (h1.trans z)
      have b:valueAt (q :: qs) k = valueAt qs k:=by simp [valueAt,List.find?_cons,e']
      rw [valV_neg e,b]; exact ih
theorem KV.any {kvs:List (κ × V)} {vs:List (κ × Value)} (r:KV kvs vs) (k:κ):(kvs.any fun kv => decide (kv.1 = k)) = vs.any fun kv => decide (kv.1 = k):=by
  unfold KV at r
  induction r with
  | nil => rfl
  | cons h t ih => rw [List.any_cons,List.any_cons,ih,h.1]
theorem KV.repl {kvs:List (κ × V)} {vs:List (κ × Value)} (r:KV kvs vs) (k:κ) {y:V} {u:Value} (ry:RelV y u) :
    KV (kvs.map fun kv => if kv.1 = k then (kv.1,y) else kv) (vs.map fun kv => if kv.1 = k then (kv.1,u) else kv):=by
  unfold KV at r ⊢
  induction r with
  | nil => exact .nil
  | @cons p q ps qs h t ih =>
    rw [List.map_cons,List.map_cons]
    refine .cons ?_ ih
    obtain ⟨h1,h2⟩:=h
    by_cases e:p.1 = k
    · rw [if_pos e,if_pos (h1.symm.trans e)]; exact ⟨h1,ry⟩
    · rw [if_neg e,if_neg (fun z => e (h1.trans z))]; exact ⟨h1,h2⟩
theorem KV.put {kvs:List (κ × V)} {vs:List (κ × Value)} (r:KV kvs vs) (k:κ) {y:V} {u:Value} (ry:RelV y u):KV (putK kvs k y) (stored vs k u):=by
  unfold putK stored
  rw [r.any k]
  by_cases e:(vs.any fun kv => decide (kv.1 = k)) = true
  · rw [if_pos e,if_pos e]; exact r.repl k ry
  · rw [if_neg e,if_neg e]; exact Paired.snoc r ⟨rfl,ry⟩
theorem KV.drop {kvs:List (κ × V)} {vs:List (κ × Value)} (r:KV kvs vs) (k:κ):KV (dropK kvs k) (without vs k):=by
  unfold KV at r ⊢
  unfold dropK without
  induction r with
  | nil => exact .nil
  | @cons p q ps qs h t ih =>
    obtain ⟨h1,h2⟩:=h
    rw [List.filter_cons,List.filter_cons]
    by_cases e:p.1 = k
    · have a:¬ decide (p.1 ≠ k) = true:=by simp [e]
      have b:¬ decide (q.1 ≠ k) = true:=by simp [h1.symm.trans e]
      rw [if_neg a,if_neg b]; exact ih
    · have e':¬ q.1 = k:=fun z => e (h1.trans z)
      have a:decide (p.1 ≠ k) = true:=by simp [e]
      have b:decide (q.1 ≠ k) = true:=by simp [e']
      rw [if_pos a,if_pos b]; exact .cons ⟨h1,h2⟩ ih
theorem KV.length {kvs:List (κ × V)} {vs:List (κ × Value)} (r:KV kvs vs):kvs.length = vs.length:=Paired.length r
theorem dropK_le (kvs:List (κ × V)) (k:κ):(dropK kvs k).length ≤ kvs.length:=List.length_filter_le _ _
end
theorem kV_is {P:Program} {w:World} {k:Key} {u:Value} (r:RelV (kV k) u):(mixKind P w).is k u = true:=by
  cases k with
  | inl i => obtain ⟨t,e⟩:=(show ∃ t,u = Value.int i t from r); subst e; exact mixKind_int P w i t
  | inr x => obtain ⟨t,e⟩:=(show ∃ t,u = Value.str x t from r); subst e; exact mixKind_str P w x t
theorem items_are {P:Program} {w:World}:∀ {ks:List Key} {us:List Value},Vals (ks.map kV) us → ItemsAre (mixKind P w) ks us
  | [],_,r => by rw [List.map_nil] at r; cases r; exact .nil
  | k :: ks,_,r => by
    rw [List.map_cons] at r
    cases r with
    | cons h t => exact .cons (kV_is h) (items_are t)
noncomputable abbrev KT (H:Hp):List (List Key × V) → List (List Key × Addr × Value) → Prop:=Paired fun p q => p.1 = q.1 ∧ H q.2.1 = some (.tup (p.1.map kV)) ∧ RelV p.2 q.2.2
theorem KT.val {H:Hp} {kvs:List (List Key × V)} {xs:List (List Key × Addr × Value)} (r:KT H kvs xs) (k:List Key):RelO (valV kvs k) ((atKey xs k).map (·.2)):=by
  induction r with
  | nil => exact True.intro
  | @cons p q ps qs h t ih =>
    obtain ⟨h1,_,h2⟩:=h
    by_cases e:p.1 = k
    · have e':q.1 = k:=h1.symm.trans e
      have b:atKey (q :: qs) k = some q.2:=by simp [atKey,List.find?_cons,e']
      rw [valV_pos e,b]; exact h2
    · have e':¬ q.1 = k:=fun z => e (h1.trans z)
      have b:atKey (q :: qs) k = atKey qs k:=by simp [atKey,List.find?_cons,e']
      rw [valV_neg e,b]; exact ih
theorem KT.repl {H:Hp} {kvs:List (List Key × V)} {xs:List (List Key × Addr × Value)} (r:KT H kvs xs) (k:List Key) {y:V} {u:Value} (ry:RelV y u) :
    KT H (kvs.map fun kv => if kv.1 = k then (kv.1,y) else kv) (xs.map (putAt k u)):=by
  induction r with
  | nil => exact .nil
  | @cons p q ps qs h t ih =>
    rw [List.map_cons,List.map_cons]
    refine .cons ?_ ih
    obtain ⟨h1,h2,h3⟩:=h
    unfold putAt
    by_cases e:p.1 = k
    · rw [if_pos e,if_pos (h1.symm.trans e)]; exact ⟨h1,h2,ry⟩
    · rw [if_neg e,if_neg (fun z => e (h1.trans z))]; exact ⟨h1,h2,h3⟩
theorem KT.put {H:Hp} {kvs:List (List Key × V)} {xs:List (List Key × Addr × Value)} (r:KT H kvs xs) (k:List Key) {b:Addr} {y:V} {u:Value} (hb:H b = some (.tup (k.map kV))) (ry:RelV y u) :
    KT H (putK kvs k y) (storedH xs k b u):=by
  have e:(kvs.any fun kv => decide (kv.1 = k)) = (atKey xs k).isSome:=by
    rw [valV_any,(r.val k).isSome_eq,Option.isSome_map]
  unfold putK storedH
  rw [e]
  by_cases q:(atKey xs k).isSome = true
  · rw [if_pos q,if_pos q]; exact r.repl k ry
  · rw [if_neg q,if_neg q]; exact Paired.snoc r ⟨rfl,hb,ry⟩
theorem KT.keeps {H H':Hp} {kvs:List (List Key × V)} {xs:List (List Key × Addr × Value)} (r:KT H kvs xs) (ht:∀ b ys,H b = some (.tup ys) → H' b = some (.tup ys)):KT H' kvs xs :=
  Paired.mapP r fun _ _ z => ⟨z.1,ht _ _ z.2.1,z.2.2⟩
section
variable {P:Program} {w:World} {H:Hp} {h:Heap} {a:Addr}
theorem rd_of {u:HO} (ok:HOk P w H h) (e:Rd H a u):ObjOk P w H h a u:=e.ok ok
theorem dk_rd {kvs:List (Key × V)} (ok:HOk P w H h) (e:Rd H a (.dK kvs)):kvs.length ≤ sizeLine ∧ (a == sysModules) = false ∧ ∃ vs,KV kvs vs ∧ h.DictOf (mixKind P w) a vs :=
  show ObjOk P w H h a (.dK kvs) from rd_of ok e
theorem dk_of {kvs:List (Key × V)} (ok:HOk P w H h) (e:H a = some (.dK kvs)):kvs.length ≤ sizeLine ∧ (a == sysModules) = false ∧ ∃ vs,KV kvs vs ∧ h.DictOf (mixKind P w) a vs:=dk_rd ok (.inl e)
theorem key_of {ks:List Key} (ok:HOk P w H h) (e:H a = some (.tup (ks.map kV))):(tupleKind (mixKind P w)).is h ks a:=by
  obtain ⟨_,its,r,o,h1,h2,n,h3⟩:=(show ObjOk P w H h a (.tup (ks.map kV)) from ok a _ e)
  exact ⟨o,its.toArray,n,h1,h2,h3,by simpa using items_are r⟩
theorem dt_rd {kvs:List (List Key × V)} (ok:HOk P w H h) (e:Rd H a (.dT kvs)):kvs.length ≤ sizeLine ∧ (a == sysModules) = false ∧
    ∃ xs,KT H kvs xs ∧ h.DictOfH (tupleKind (mixKind P w)) a xs:=by
  obtain ⟨z,y,xs,r,o,es,ep,h1,h2,h3,h4,h5⟩:=(show ObjOk P w H h a (.dT kvs) from rd_of ok e)
  refine ⟨z,y,xs,r,o,es,ep,h1,h2,h3,h4,fun x hx => ?_,h5⟩
  have all:∀ {l:List (List Key × V)} {m:List (List Key × Addr × Value)},KT H l m → ∀ x ∈ m,(tupleKind (mixKind P w)).is h x.1 x.2.1:=by
    intro l m q
    induction q with
    | nil => intro x hx; exact nomatch hx
    | @cons p q ps qs hq t ih =>
      intro x hx
      rcases List.mem_cons.mp hx with e | hx
      · subst e
        exact key_of ok (by rw [← hq.1]; exact hq.2.1)
      · exact ih x hx
  exact all r x hx
theorem dt_of {kvs:List (List Key × V)} (ok:HOk P w H h) (e:H a = some (.dT kvs)):kvs.length ≤ sizeLine ∧ (a == sysModules) = false ∧
    ∃ xs,KT H kvs xs ∧ h.DictOfH (tupleKind (mixKind P w)) a xs:=dt_rd ok (.inl e)
end
noncomputable def DGet (H:Hp) (a:Addr) (y:V) (r:Option V):Prop :=
  (∃ kvs k,Rd H a (.dK kvs) ∧ y = kV k ∧ r = valV kvs k) ∨ ∃ kvs k b,Rd H a (.dT kvs) ∧ y = .ref b ∧ H b = some (.tup (k.map kV)) ∧ r = valV kvs k
noncomputable def DPut (H:Hp) (a:Addr) (y v:V) (H':Hp):Prop :=
  (∃ kvs k,H a = some (.dK kvs) ∧ y = kV k ∧ kvs.length < sizeLine ∧ H' = upd H a (.dK (putK kvs k v))) ∨
  ∃ kvs k b,H a = some (.dT kvs) ∧ y = .ref b ∧ H b = some (.tup (k.map kV)) ∧ kvs.length < sizeLine ∧ H' = upd H a (.dT (putK kvs k v))
theorem DGet.k {H:Hp} {a:Addr} {kvs:List (Key × V)} {k:Key} (e:H a = some (.dK kvs)):DGet H a (kV k) (valV kvs k):=.inl ⟨kvs,k,.inl e,rfl,rfl⟩
theorem DGet.t {H:Hp} {a b:Addr} {kvs:List (List Key × V)} {k:List Key} (e:H a = some (.dT kvs)) (eb:H b = some (.tup (k.map kV))):DGet H a (.ref b) (valV kvs k):=.inr ⟨kvs,k,b,.inl e,rfl,eb,rfl⟩
theorem DPut.k {H:Hp} {a:Addr} {kvs:List (Key × V)} {k:Key} {v:V} (e:H a = some (.dK kvs)) (hl:kvs.length < sizeLine):DPut H a (kV k) v (upd H a (.dK (putK kvs k v))):=.inl ⟨kvs,k,e,rfl,hl,rfl⟩
theorem DPut.t {H:Hp} {a b:Addr} {kvs:List (List Key × V)} {k:List Key} {v:V} (e:H a = some (.dT kvs)) (eb:H b = some (.tup (k.map kV))) (hl:kvs.length < sizeLine) :
    DPut H a (.ref b) v (upd H a (.dT (putK kvs k v))):=.inr ⟨kvs,k,b,e,rfl,eb,hl,rfl⟩
section
variable {X:Cx} {pins:List (Addr × Obj)} {σ:St} {H:Hp} {s:Shared} {a:Addr} {y v:V} {u r:Value} {o:Option V} {A:Around} {E:Value → Shared → Prop}
theorem Inv.big (I:Inv X pins σ H s):sysModules < s.heap.objs.size:=by
  have h:mainGlobals < s.heap.objs.size:=(I.mod.glob.keeps I.bk).lt
  exact Nat.lt_trans (by decide) h
theorem d_getItem {Q:Value → Shared → Prop} (hu:A.units + 1 < cLine) (I:Inv X pins σ H s) (g:DGet H a y (some v)) (ry:RelV y u) (h:∀ w' s',Inv X pins σ H s' → RelV v w' → Q w' s') :
    wpAny (model X.prog X.w) A (getItem (.ref a) u) Q E s:=by
  rcases g with ⟨kvs,k,e,ey,l⟩ | ⟨kvs,k,b,e,ey,eb,l⟩
  · subst ey
    obtain ⟨z,hd,vs,rel,dd⟩:=dk_rd I.hok e
    obtain ⟨w',hw,rw'⟩:=RelO.some_of (v:=v) (o:=valueAt vs k) (by rw [l]; exact rel.val k)
    exact wpAny_getItem_of (kV_is ry) dd.mapOf hw (h w' _ (I.tok _) rw')
  · subst ey
    cases (show u = Value.ref b from ry)
    obtain ⟨z,hd,xs,rel,dd⟩:=dt_rd I.hok e
    obtain ⟨w',hw,rw'⟩:=RelO.some_of (v:=v) (o:=(atKey xs k).map (·.2)) (by rw [l]; exact rel.val k)
    obtain ⟨p,hp,hp2⟩:=Option.map_eq_some_iff.mp hw
    refine wpAny_getItem_heap (tupleKind_room_in1 hu) (key_of I.hok eb) dd hp ?_
    rw [hp2]
    exact h w' _ (I.tok _) rw'
theorem d_in {Q:Value → Shared → Prop} (hu:A.units + 1 < cLine) (I:Inv X pins σ H s) (g:DGet H a y o) (ry:RelV y u) (h:∀ s',Inv X pins σ H s' → Q (.bool o.isSome) s') :
    wpAny (model X.prog X.w) A (compareOp .In u (.ref a)) Q E s:=by
  rcases g with ⟨kvs,k,e,ey,l⟩ | ⟨kvs,k,b,e,ey,eb,l⟩
  · subst ey
    obtain ⟨z,hd,vs,rel,dd⟩:=dk_rd I.hok e
    refine wpAny_in_of (kV_is ry) hd dd.mapOf ?_
    rw [← (rel.val k).isSome_eq,← l]
    exact h _ (I.tok _)
  · subst ey
    cases (show u = Value.ref b from ry)
    obtain ⟨z,hd,xs,rel,dd⟩:=dt_rd I.hok e
    refine wpAny_in_heap (tupleKind_room_in1 hu) (key_of I.hok eb) hd dd ?_
    have q:=(rel.val k).isSome_eq
    rw [Option.isSome_map] at q
    rw [← q,← l]
    exact h _ (I.tok _)
theorem d_notIn {Q:Value → Shared → Prop} (hu:A.units + 1 < cLine) (I:Inv X pins σ H s) (g:DGet H a y o) (ry:RelV y u) (h:∀ s',Inv X pins σ H s' → Q (.bool (!o.isSome)) s') :
    wpAny (model X.prog X.w) A (compareOp .NotIn u (.ref a)) Q E s:=by
  rcases g with ⟨kvs,k,e,ey,l⟩ | ⟨kvs,k,b,e,ey,eb,l⟩
  · subst ey
    obtain ⟨z,hd,vs,rel,dd⟩:=dk_rd I.hok e
    refine wpAny_notIn_of (kV_is ry) hd dd.mapOf ?_
    rw [← (rel.val k).isSome_eq,← l]
    exact h _ (I.tok _)
  · subst ey
    cases (show u = Value.ref b from ry)
    obtain ⟨z,hd,xs,rel,dd⟩:=dt_rd I.hok e
    refine wpAny_notIn_heap (tupleKind_room_in1 hu) (key_of I.hok eb) hd dd ?_
    have q:=(rel.val k).isSome_eq
    rw [Option.isSome_map] at q
    rw [← q,← l]
    exact h _ (I.tok _)
theorem d_write {h':Heap} {t':Nat} {ob:HO} (I:Inv X pins σ H s) (mu:Mut (H a)) (hs:Heap.SameBut a s.heap h') (he:∃ q,h'.get? a = some q) (new:ObjOk X.prog X.w (upd H a ob) h' a ob) :
    Inv X pins σ (upd H a ob) { s with heap:=h',toks:=t' } :=
  I.write (x:=a) (e:=a) mu (.inl rfl) (fun b q hb z => (hs.2 b hb).trans z) he new
theorem dk_new {P:Program} {w:World} {H':Hp} {h':Heap} {kvs:List (Key × V)} {vs:List (Key × Value)} (z:kvs.length ≤ sizeLine) (hd:(a == sysModules) = false) (rel:KV kvs vs) (dd:h'.DictOf (mixKind P w) a vs) :
    ObjOk P w H' h' a (.dK kvs):=⟨z,hd,vs,rel,dd⟩
theorem d_setItem {H':Hp} {Q:Unit → Shared → Prop} (hu:A.units + 1 < cLine) (I:Inv X pins σ H s) (g:DPut H a y v H') (ry:RelV y u) (rv:RelV v r) (h:∀ s',Inv X pins σ H' s' → Q () s') :
    wpAny (model X.prog X.w) A (setItem (.ref a) u r) Q E s:=by
  rcases g with ⟨kvs,k,e,ey,l,eH⟩ | ⟨kvs,k,b,e,ey,eb,l,eH⟩
  · subst ey eH
    obtain ⟨z,hd,vs,rel,dd⟩:=dk_of I.hok e
    have hz:vs.length ≤ sizeLine:=by rw [← rel.length]; exact z
    have hl:(putK kvs k v).length ≤ sizeLine:=by have:=length_putK kvs k v; omega
    refine wpAny_setItem_pairs (hsz:=hz) (kV_is ry) dd fun h' dd' hs => h _ ?_
    have he:∃ q,h'.get? a = some q:=let ⟨q,_,_,hq,_⟩:=dd'; ⟨q,hq⟩
    exact d_write I (by rw [e]; exact True.intro) hs he (dk_new hl hd (rel.put k rv) dd')
  · subst ey eH
    cases (show u = Value.ref b from ry)
    obtain ⟨z,hd,xs,rel,dd⟩:=dt_of I.hok e
    have hz:xs.length ≤ sizeLine:=by rw [← Paired.length rel]; exact z
    have hl:(putK kvs k v).length ≤ sizeLine:=by have:=length_putK kvs k v; omega
    refine wpAny_setItem_heap (hsz:=hz) (tupleKind_room_in1 hu) (key_of I.hok eb) dd fun h' dd' hs => h _ ?_
    obtain ⟨q,es,ep,hq,h2,h3,h4,_,h5⟩:=dd'
    refine d_write I (by rw [e]; exact True.intro) hs ⟨q,hq⟩ ⟨hl,hd,_,(rel.put k eb rv).keeps fun c ys ec => ?_,q,es,ep,hq,h2,h3,h4,h5⟩
    rw [upd_ne (ne_of ec e (fun z => nomatch z))]
    exact ec
end
section
variable {X:Cx} {pins:List (Addr × Obj)} {σ:St} {H:Hp} {s:Shared} {a:Addr} {kvs:List (Key × V)} {k:Key} {u:Value} {A:Around} {E:Value → Shared → Prop}
theorem d_pop {v:V} {more:List Value} {Q:Value → Shared → Prop} (I:Inv X pins σ H s) (e:H a = some (.dK kvs)) (ry:RelV (kV k) u) (l:valV kvs k = some v) (hm:more = [] ∨ ∃ x,more = [x])
    (h:∀ w' s',Inv X pins σ (upd H a (.dK (dropK kvs k))) s' → RelV v w' → Q w' s'):wpAny (model X.prog X.w) A (call (.builtin "dict.pop") (.ref a :: u :: more)) Q E s:=by
  obtain ⟨z,hd,vs,rel,dd⟩:=dk_of I.hok e
  obtain ⟨w',hw,rw'⟩:=RelO.some_of (v:=v) (o:=valueAt vs k) (by rw [← l]; exact rel.val k)
  have hp:(keyPart u).isSome = true:=by
    cases k with
    | inl i => obtain ⟨t,q⟩:=(show ∃ t,u = Value.int i t from ry); subst q; rfl
    | inr x => obtain ⟨t,q⟩:=(show ∃ t,u = Value.str x t from ry); subst q; rfl
  have ha:argsOk "dict.pop" ⟨.ref a :: u :: more,[]⟩:=by
    rcases hm with q | ⟨x,q⟩
    · subst q; exact PySem.F.args_dict_pop_2 _ _
    · subst q; exact PySem.F.args_dict_pop_3 _ _ _
  refine call_meetsIn PySem.F.slot_dict_pop dd.typeIs PySem.F.entry_dict_pop ha (meets_dict_pop_there (mixKind X.prog X.w) a (kV_is ry) more hm hp)
    ⟨vs,w',dd,by rw [← rel.length]; exact z,hw,fun h' dd' hs => h w' _ ?_ rw'⟩
  have he:∃ q,h'.get? a = some q:=let ⟨q,_,_,hq,_⟩:=dd'; ⟨q,hq⟩
  exact d_write I (by rw [e]; exact True.intro) hs he (dk_new (Nat.le_trans (dropK_le kvs k) z) hd (rel.drop k) dd')
end
noncomputable def NoSl (i:Expr):Prop:=∀ ov iv,subscripted i false ov iv = operate [ov,iv] (getItem ov iv)
theorem subD_of {prog:Program} {w:World} {A:Around} {E:Value → Shared → Prop} {s:Shared} {env:Env} {value slice:Expr} {pos:Pos} {T id:String} {Q:Value → Shared → Prop}
    (hl:typeLookup (.type T) "__getitem__" = pure (some (.builtin id))) (hs:NoSl slice)
    (h:wpAny (model prog w) A (eval value env) (fun o s₁ => wpAny (model prog w) A (eval slice env) (fun i s₂ => s₂.TypeIs o T ∧ wpAny (model prog w) A (getItem o i) Q E s₂) E s₁) E s) :
    wpAny (model prog w) A (eval (.Subscript value slice pos) env) Q E s:=by
  refine Subscript_ (wpAny_mono h (fun o s₁ h₁ => wpAny_mono h₁ (fun i s₂ h₂ => ?_) fun _ _ x => x) fun _ _ x => x)
  obtain ⟨hT,h₂⟩:=h₂
  unfold subscriptTail
  refine wpAny_bind ?_
  rw [getitemInPython_of_ne hT.not_modules]
  refine wpAny_bind (wpAny_specialOf hT hl ?_)
  have fin:wpAny (model prog w) A (subscripted slice false o i) (fun r s₃ => wpAny (model prog w) A (letTemporaryGo value o r >>= fun _ => pure r) Q E s₃) E s₂:=by
    rw [hs o i]
    exact wpAny_operating (wpAny_mono h₂ (fun r s₃ h₃ => wpAny_bind (wpAny_letTemporaryGo (wpAny_pure h₃))) fun _ _ x => x)
  first
    | exact wpAny_pure (wpAny_bind fin)
    | exact wpAny_bind (wpAny_pure (wpAny_bind fin))
    | exact wpAny_bind fin
theorem dict_typeIs {X:Cx} {pins:List (Addr × Obj)} {σ:St} {H:Hp} {s:Shared} {a:Addr} {y:V} {o:Option V} (I:Inv X pins σ H s) (g:DGet H a y o):s.TypeIs (.ref a) "dict":=by
  rcases g with ⟨kvs,k,e,_,_⟩ | ⟨kvs,k,b,e,_,_,_⟩
  · obtain ⟨_,_,vs,_,dd⟩:=dk_rd I.hok e
    exact dd.typeIs
  · obtain ⟨_,_,xs,_,dd⟩:=dt_rd I.hok e
    exact dd.typeIs
noncomputable def tDGet (td ty:TE):TE:=fun σ H Q => td σ H fun x H1 => ty σ H1 fun y H2 => ∃ a v,x = .ref a ∧ DGet H2 a y (some v) ∧ Q v H2
noncomputable def tDIn (ty td:TE):TE:=fun σ H Q => ty σ H fun y H1 => td σ H1 fun x H2 => ∃ a o,x = .ref a ∧ DGet H2 a y o ∧ Q (.bl o.isSome) H2
noncomputable def tDNotIn (ty td:TE):TE:=fun σ H Q => ty σ H fun y H1 => td σ H1 fun x H2 => ∃ a o,x = .ref a ∧ DGet H2 a y o ∧ Q (.bl (!o.isSome)) H2
noncomputable def sDPut (td ty tv:TE):TS:=fun D σ H => tv σ H fun v H1 => td σ H1 fun x H2 => ty σ H2 fun y H3 => ∃ a H4,x = .ref a ∧ DPut H3 a y v H4 ∧ D.nx σ H4
section
variable {X:Cx} {o i e value:Expr} {pos pos' tpos:Pos} {td ty tv:TE}
theorem pe_dget (hu:X.A.units + 1 < cLine) (ho:PE X o td) (hi:PE X i ty) (hs:NoSl i):PE X (.Subscript o i pos) (tDGet td ty):=by
  intro pins s σ H Q I h
  refine subD_of PySem.F.slot_dict_getitem.lookup hs (thn (ho pins s σ H _ I h) fun u s1 ⟨x,H1,I1,rx,q1⟩ => thn (hi pins s1 σ H1 _ I1 q1) fun iv s2 ⟨y,H2,I2,ry,a,v,ex,g,q2⟩ => ?_)
  subst ex
  obtain rfl:u = Value.ref a:=rx
  exact ⟨dict_typeIs I2 g,d_getItem hu I2 g ry fun w' s3 I3 rw' => ⟨v,H2,I3,rw',q2⟩⟩
theorem pc_din (hu:X.A.units + 1 < cLine) (hi:PE X i ty) (ho:PE X o td):PC X .In i o (tDIn ty td):=by
  intro pins s σ H Q I h
  refine thn (hi pins s σ H _ I h) fun iv s1 ⟨y,H1,I1,ry,q1⟩ => thn (ho pins s1 σ H1 _ I1 q1) fun u s2 ⟨x,H2,I2,rx,a,ov,ex,g,q2⟩ => ?_
  subst ex
  obtain rfl:u = Value.ref a:=rx
  exact d_in hu I2 g ry fun s3 I3 => ⟨.bl ov.isSome,H2,I3,rfl,q2⟩
theorem pc_dnotin (hu:X.A.units + 1 < cLine) (hi:PE X i ty) (ho:PE X o td):PC X .NotIn i o (tDNotIn ty td):=by
  intro pins s σ H Q I h
  refine thn (hi pins s σ H _ I h) fun iv s1 ⟨y,H1,I1,ry,q1⟩ => thn (ho pins s1 σ H1 _ I1 q1) fun u s2 ⟨x,H2,I2,rx,a,ov,ex,g,q2⟩ => ?_
  subst ex
  obtain rfl:u = Value.ref a:=rx
  exact d_notIn hu I2 g ry fun s3 I3 => ⟨.bl (!ov.isSome),H2,I3,rfl,q2⟩
theorem ps_dput (hu:X.A.units + 1 < cLine) (ho:PE X o td) (hi:PE X i ty) (hv:PE X value tv) (hs:swapsWith value (some (.Subscript o i pos')) pos.line X.env = pure false) :
    PS X (.Assign [.Subscript o i pos'] value pos) (sDPut td ty tv):=by
  intro pins s σ H D I h
  refine wpAny_Assign_Subscript (thn (hv pins s σ H _ I h) fun r s1 ⟨v,H1,I1,rv,q1⟩ => thn (ho pins s1 σ H1 _ I1 q1) fun u s2 ⟨x,H2,I2,rx,q2⟩ => thn (hi pins s2 σ H2 _ I2 q2) fun iv s3 ⟨y,H3,I3,ry,a,H4,ex,g,q3⟩ => ?_) hs
  subst ex
  obtain rfl:u = Value.ref a:=rx
  exact d_setItem hu I3 g ry rv fun s4 I4 => ⟨σ,H4,I4,q3⟩
end
theorem dk_empty {P:Program} {w:World} {H:Hp} (h:Heap) (hb:sysModules < h.objs.size):ObjOk P w H (h.push { cls:=.type "dict",data:=.dict #[] }) h.objs.size (.dK []) :=
  ⟨Nat.zero_le _,beq_eq_false_iff_ne.mpr (Ne.symm (Nat.ne_of_lt hb)),[],.nil,Heap.DictOf.new h⟩
theorem dt_empty {P:Program} {w:World} {H:Hp} (h:Heap) (hb:sysModules < h.objs.size):ObjOk P w H (h.push { cls:=.type "dict",data:=.dict #[] }) h.objs.size (.dT []) :=
  ⟨Nat.zero_le _,beq_eq_false_iff_ne.mpr (Ne.symm (Nat.ne_of_lt hb)),[],.nil,_,#[],0,Heap.get?_push_size _ rfl,⟨rfl,rfl,rfl⟩,rfl,rfl,List.nodup_nil⟩
noncomputable def tDNewK:TE:=fun _ H Q => ∀ p,H p = none → Q (.ref p) (upd H p (.dK []))
noncomputable def tDNewT:TE:=fun _ H Q => ∀ p,H p = none → Q (.ref p) (upd H p (.dT []))
section
variable {X:Cx} {pos:Pos}
theorem pe_dnewK:PE X (.Dict [] [] pos) tDNewK:=fun pins s σ H Q I h =>
  wpAny_Dict_empty ⟨.ref s.heap.objs.size,_,I.laid (a:=s.heap.objs.size) (o:=.dK []) (t':=s.toks) (fun _ _ q => Heap.get?_push_of_some _ q) (Nat.le_refl _) (dk_empty s.heap I.big),rfl,h _ (I.hok.fresh (Nat.le_refl _))⟩
theorem pe_dnewT:PE X (.Dict [] [] pos) tDNewT:=fun pins s σ H Q I h =>
  wpAny_Dict_empty ⟨.ref s.heap.objs.size,_,I.laid (a:=s.heap.objs.size) (o:=.dT []) (t':=s.toks) (fun _ _ q => Heap.get?_push_of_some _ q) (Nat.le_refl _) (dt_empty s.heap I.big),rfl,h _ (I.hok.fresh (Nat.le_refl _))⟩
end
structure M1 (X:Cx) (o:Expr) (m:Str) (apos:Pos) (e:Expr) (cpos:Pos):Prop where
  base:attributeBase o m X.env (eval o X.env) = eval o X.env
  few:((backTo cpos (starEach [e] X.env)).all (fun x => !x.1) && (backToKw cpos (keywordEach [] X.env)).all (fun x => x.1.isSome)
    && decide (([e]:List Expr).length + ([]:List Keyword).length + (if ([]:List Keyword).isEmpty then 0 else 1) < 30)) = true
  line:(apos.endLine == cpos.line) = true
  trees:backTo cpos (starEach [e] X.env) = [(false,eval e X.env)]
structure M2 (X:Cx) (o:Expr) (m:Str) (apos:Pos) (e f:Expr) (cpos:Pos):Prop where
  base:attributeBase o m X.env (eval o X.env) = eval o X.env
  few:((backTo cpos (starEach [e,f] X.env)).all (fun x => !x.1) && (backToKw cpos (keywordEach [] X.env)).all (fun x => x.1.isSome)
    && decide (([e,f]:List Expr).length + ([]:List Keyword).length + (if ([]:List Keyword).isEmpty then 0 else 1) < 30)) = true
  line:(apos.endLine == cpos.line) = true
  trees:backTo cpos (starEach [e,f] X.env) = [(false,eval e X.env),(false,eval f X.env)]
noncomputable def IsD (H:Hp) (a:Addr):Prop:=(∃ kvs,Rd H a (.dK kvs)) ∨ ∃ kvs,Rd H a (.dT kvs)
theorem isD_at {X:Cx} {pins:List (Addr × Obj)} {σ:St} {H:Hp} {s:Shared} {a:Addr} (I:Inv X pins σ H s) (d:IsD H a) :
    s.TypeIs (.ref a) "dict" ∧ (∀ b,Value.ref a = .ref b → ∃ ob,s.heap.get? b = some ob ∧ ob.dict = none) ∧ (a == sysModules) = false:=by
  rcases d with ⟨kvs,e⟩ | ⟨kvs,e⟩
  · obtain ⟨_,hd,vs,_,dd⟩:=dk_rd I.hok e
    refine ⟨dd.typeIs,fun b q => ?_,hd⟩
    cases q
    obtain ⟨ob,_,_,h1,h2,_⟩:=dd
    exact ⟨ob,h1,h2.2.1⟩
  · obtain ⟨_,hd,xs,_,dd⟩:=dt_rd I.hok e
    refine ⟨dd.typeIs,fun b q => ?_,hd⟩
    cases q
    obtain ⟨ob,_,_,h1,h2,_⟩:=dd
    exact ⟨ob,h1,h2.2.1⟩
section
variable {X:Cx} {pins:List (Addr × Obj)} {σ:St} {H:Hp} {s:Shared} {a:Addr} {y d:V} {u r:Value} {o:Option V} {A:Around} {E:Value → Shared → Prop}
theorem d_get1 {Q:Value → Shared → Prop} (hu:A.units + 1 < cLine) (I:Inv X pins σ H s) (g:DGet H a y o) (ry:RelV y u) (h:∀ w' s',Inv X pins σ H s' → RelV (o.getD .non) w' → Q w' s') :
    wpAny (model X.prog X.w) A (call (.builtin "dict.get") [.ref a,u]) Q E s:=by
  rcases g with ⟨kvs,k,e,ey,l⟩ | ⟨kvs,k,b,e,ey,eb,l⟩
  · subst ey
    obtain ⟨z,hd,vs,rel,dd⟩:=dk_rd I.hok e
    refine call_meetsIn PySem.F.slot_dict_get dd.typeIs PySem.F.entry_dict_get (PySem.F.args_dict_get_2 _ _) (meets_dict_get (mixKind X.prog X.w) a (kV_is ry) hd) ⟨_,dd.mapOf,h _ _ (I.tok _) ?_⟩
    rw [l]
    exact (rel.val k).getD rfl
  · subst ey
    cases (show u = Value.ref b from ry)
    obtain ⟨z,hd,xs,rel,dd⟩:=dt_rd I.hok e
    refine call_meetsIn PySem.F.slot_dict_get dd.typeIs PySem.F.entry_dict_get (PySem.F.args_dict_get_2 _ _) (meetsH_dict_get (tupleKind (mixKind X.prog X.w)) a b hd) ⟨tupleKind_room_in1 hu,k,xs,key_of I.hok eb,dd,h _ _ (I.tok _) ?_⟩
    rw [l]
    exact (rel.val k).getD rfl
theorem d_get2 {Q:Value → Shared → Prop} (hu:A.units + 1 < cLine) (I:Inv X pins σ H s) (g:DGet H a y o) (ry:RelV y u) (rd:RelV d r) (h:∀ w' s',Inv X pins σ H s' → RelV (o.getD d) w' → Q w' s') :
    wpAny (model X.prog X.w) A (call (.builtin "dict.get") [.ref a,u,r]) Q E s:=by
  rcases g with ⟨kvs,k,e,ey,l⟩ | ⟨kvs,k,b,e,ey,eb,l⟩
  · subst ey
    obtain ⟨z,hd,vs,rel,dd⟩:=dk_rd I.hok e
    refine call_meetsIn PySem.F.slot_dict_get dd.typeIs PySem.F.entry_dict_get (PySem.F.args_dict_get_3 _ _ _) (meets_dict_get_default (mixKind X.prog X.w) a (kV_is ry) hd r) ⟨_,dd.mapOf,h _ _ (I.tok _) ?_⟩
    rw [l]
    exact (rel.val k).getD rd
  · subst ey
    cases (show u = Value.ref b from ry)
    obtain ⟨z,hd,xs,rel,dd⟩:=dt_rd I.hok e
    refine call_meetsIn PySem.F.slot_dict_get dd.typeIs PySem.F.entry_dict_get (PySem.F.args_dict_get_3 _ _ _) (meetsH_dict_get_default (tupleKind (mixKind X.prog X.w)) a b hd r) ⟨tupleKind_room_in1 hu,k,xs,key_of I.hok eb,dd,h _ _ (I.tok _) ?_⟩
    rw [l]
    exact (rel.val k).getD rd
end
noncomputable def tDGet1 (td ty:TE):TE:=fun σ H Q => td σ H fun x H1 => ∃ a,x = .ref a ∧ IsD H1 a ∧ ty σ H1 fun y H2 => ∃ o,DGet H2 a y o ∧ Q (o.getD .non) H2
noncomputable def tDGet2 (td ty tx:TE):TE:=fun σ H Q => td σ H fun x H1 => ∃ a,x = .ref a ∧ IsD H1 a ∧ ty σ H1 fun y H2 => tx σ H2 fun z H3 => ∃ o,DGet H3 a y o ∧ Q (o.getD z) H3
noncomputable def tDPop1 (td ty:TE):TE:=fun σ H Q => td σ H fun x H1 => ∃ a,x = .ref a ∧ IsD H1 a ∧ ty σ H1 fun y H2 => ∃ kvs k v,H2 a = some (.dK kvs) ∧ y = kV k ∧ valV kvs k = some v ∧ Q v (upd H2 a (.dK (dropK kvs k)))
section
variable {X:Cx} {o e f:Expr} {apos cpos:Pos} {td ty tx:TE}
theorem pe_dget1 (hu:X.A.units + 1 < cLine) (ho:PE X o td) (he:PE X e ty) (m:M1 X o "get" apos e cpos):PE X (.Call (.Attribute o "get" apos) [e] [] cpos) (tDGet1 td ty):=by
  intro pins s σ H Q I h
  refine wpAny_Call_method m.base m.few m.line PySem.F.plainAttrs_dict PySem.F.slot_dict_get PySem.F.type_dict_get (thn (ho pins s σ H _ I h) fun u s1 ⟨x,H1,I1,rx,a,ex,d,q1⟩ => ?_)
  subst ex
  obtain rfl:u = Value.ref a:=rx
  obtain ⟨t1,t2,_⟩:=isD_at I1 d
  refine ⟨t1,t2,?_⟩
  rw [m.trees]
  refine Calls.callWith_builtin rfl (Calls.evalArgs_plain (Calls.spliced_cons (thn (he pins s1 σ H1 _ I1 q1) fun iv s2 ⟨y,H2,I2,ry,ov,g,q2⟩ => Calls.spliced_nil ?_)))
  exact d_get1 hu I2 g ry fun w' s3 I3 rw' => ⟨_,H2,I3,rw',q2⟩
theorem pe_dget2 (hu:X.A.units + 1 < cLine) (ho:PE X o td) (he:PE X e ty) (hf:PE X f tx) (m:M2 X o "get" apos e f cpos):PE X (.Call (.Attribute o "get" apos) [e,f] [] cpos) (tDGet2 td ty tx):=by
  intro pins s σ H Q I h
  refine wpAny_Call_method m.base m.few m.line PySem.F.plainAttrs_dict PySem.F.slot_dict_get PySem.F.type_dict_get (thn (ho pins s σ H _ I h) fun u s1 ⟨x,H1,I1,rx,a,ex,d,q1⟩ => ?_)
  subst ex
  obtain rfl:u = Value.ref a:=rx
  obtain ⟨t1,t2,_⟩:=isD_at I1 d
  refine ⟨t1,t2,?_⟩
  rw [m.trees]
  refine Calls.callWith_builtin rfl (Calls.evalArgs_plain (Calls.spliced_cons (thn (he pins s1 σ H1 _ I1 q1) fun iv s2 ⟨y,H2,I2,ry,q2⟩ =>
    Calls.spliced_cons (thn (hf pins s2 σ H2 _ I2 q2) fun fv s3 ⟨z,H3,I3,rz,ov,g,q3⟩ => Calls.spliced_nil ?_))))
  exact d_get2 hu I3 g ry rz fun w' s4 I4 rw' => ⟨_,H3,I4,rw',q3⟩
theorem pe_dpop1 (ho:PE X o td) (he:PE X e ty) (m:M1 X o "pop" apos e cpos):PE X (.Call (.Attribute o "pop" apos) [e] [] cpos) (tDPop1 td ty):=by
  intro pins s σ H Q I h
  refine wpAny_Call_method m.base m.few m.line PySem.F.plainAttrs_dict PySem.F.slot_dict_pop PySem.F.type_dict_pop (thn (ho pins s σ H _ I h) fun u s1 ⟨x,H1,I1,rx,a,ex,d,q1⟩ => ?_)
  subst ex
  obtain rfl:u = Value.ref a:=rx
  obtain ⟨t1,t2,_⟩:=isD_at I1 d
  refine ⟨t1,t2,?_⟩
  rw [m.trees]
  refine Calls.callWith_builtin rfl (Calls.evalArgs_plain (Calls.spliced_cons (thn (he pins s1 σ H1 _ I1 q1) fun iv s2 ⟨y,H2,I2,ry,kvs,k,v,ea,ey,l,q2⟩ => Calls.spliced_nil ?_)))
  subst ey
  exact d_pop I2 ea ry l (.inl rfl) fun w' s3 I3 rw' => ⟨v,_,I3,rw',q2⟩
end
section
variable {X:Cx} {pins:List (Addr × Obj)} {σ:St} {H:Hp} {s:Shared} {a:Addr} {kvs:List (Key × V)} {A:Around} {E:Value → Shared → Prop}
end
section
variable {X:Cx} {pins:List (Addr × Obj)} {σ:St} {H:Hp} {s:Shared} {a:Addr} {y:V} {u:Value} {A:Around} {E:Value → Shared → Prop}
end
end L2
namespace Att
open PySem PySem.W PySem.Calls PyProof.Rows
theorem ints_of_wellAll {P:Params} {h:Heap}:∀ (ns:List Int) (vs:List Value),WellAll P h vs (ns.map WData.int) → IntsAre vs ns:=by
  intro ns
  induction ns with
  | nil =>
    intro vs w
    rw [List.map_nil] at w
    cases w
    exact .nil
  | cons n ns ih =>
    intro vs w
    rw [List.map_cons] at w
    cases w with
    | cons a b =>
      cases a
      exact .cons _ _ (ih _ b)
theorem script_of {l:OpenLaw} {n:Nat} (hn:l.most = some n) {P:Params} {h:Heap} {args:List WData} {vals:List Value}
    (hpre:l.row.toRowW.claim.pre args = true) (hwl:WellAll P h vals args) :
    ∃ a vs ns,vals = [Value.ref a] ∧ args = [WData.list (ns.map WData.int)] ∧ h.get? a = some { cls:=.type "list",data:=.seq vs.toArray } ∧ IntsAre vs ns ∧ ns.length ≤ n:=by
  have hsh:WShape.hasAll [] args [.list .int] = true:=(pre_splitW hpre).1
  have hc:l.pre.holds [] { args:=args } = true:=(pre_splitW hpre).2
  obtain ⟨d,r,rfl,h1,h2⟩:=hasAllW_cons hsh
  obtain rfl:=hasAllW_nil h2
  obtain ⟨xs,rfl,h3⟩:=hasW_list h1
  obtain ⟨ns,rfl⟩:=items_int h3
  have hlen:ns.length ≤ n:=by
    unfold OpenLaw.pre at hc
    have h4:(WTm.not (.lt (.lit (.int (n:Int))) (.len (.arg 0)))).holds [] { args:=[.list (ns.map .int)] } = true:=by
      have h4:=(holds_andW hc).1
      rw [hn] at h4
      exact h4
    have h5:=condW_of h4 (w_not (w_lt w_lit (w_len_list (w_arg rfl))))
    rw [List.length_map] at h5
    refine Nat.le_of_not_lt fun q => ?_
    have q':(n:Int) < ((ns.length:Nat):Int):=by omega
    first
      | (rw [decide_eq_true q'] at h5; exact absurd h5 (by decide))
      | (simp at h5; omega)
  cases hwl with
  | cons w1 w2 =>
    cases w2
    cases w1 with
    | list ho hall => exact ⟨_,_,ns,rfl,rfl,ho,ints_of_wellAll ns _ hall,hlen⟩
theorem post_true (l:OpenLaw) (args:List WData):l.row.toRowW.claim.post args (.bool true) args = true :=
  postW_of (r:=l.row.toRowW) (X:=(true == true))
    (show WShape.has [] (.bool true) .bool = true by first | rfl | decide | simp [WShape.has,WShape.arms,WShape.armsAll])
    (show (WTm.eq .res (.lit (.bool true))).value [] { args:=args,res:=some (.bool true),after:=args } = some (.bool (true == true)) from w_eq_bool (w_res rfl) w_lit) rfl
theorem attach_call {l:OpenLaw} {n:Nat} {q:Program} {loose:List Str} {XP:(Str → Option Value) → Heap → Prop} {YP:World → Heap → Prop} {d:DefRec}
    (hn:l.most = some n) (hdf:d.params.defaults = [])
    (call:∀ (w:World) (s₀ s₁:Shared) (mg mb:Str → Option Value) (fa:Addr) (o:Obj) (pm cd doc:Value) (a:Addr) (vs:List Value) (ns:List Int),
      Ground q loose [] XP w s₀ mg mb s₁.heap → YP w s₁.heap →
      s₁.heap.get? fa = some o → o.data = .func (docDef d.name d.params d.body d.scope pm cd doc) → s₁.heap.CodeRec cd d.name → mg d.name = some (.ref fa) →
      s₁.heap.get? a = some { cls:=.type "list",data:=.seq vs.toArray } → IntsAre vs ns → ns.length ≤ n → s₁.gens = #[] →
      codeAny (model l.prog w) callerA (.call (.ref fa) ⟨[.ref a],[]⟩) (fun r s' => r = .ok (.ret (.bool true)) ∧ OldK s₁.heap s'.heap ∧ s'.os = s₁.os ∧ AllBare s'.gens) s₁) :
    WalkO q loose XP YP l.row.toRowW d [] (fun f vs => PySem.call f vs):=by
  intro w s₀ s₁ mg mb G Y fa o pm cd doc dV kV ho hd hcd hD hmg hg args vals as hpre hlay hrd hwl hlo
  obtain rfl:dV = .none:=Dflts.none hD hdf
  obtain rfl:kV = .none:=Dflts.noKw hD
  obtain ⟨a,vs,ns,rfl,rfl,hobj,hints,hlen⟩:=script_of hn hpre hwl
  refine enter_call (codeAny_mono (call w s₀ s₁ mg mb fa o pm cd doc a vs ns G Y ho (fd_plain hd) hcd hmg hobj hints hlen hg) fun r s' hq => ?_)
  obtain ⟨rfl,h2,h3,h4⟩:=hq
  exact ⟨.inl ⟨.bool true,.bool true,[],rfl,fun _ => rfl,.bool true,post_true l _,fun _ => ⟨List.Pairwise.nil,fun _ hm => (nomatch hm)⟩⟩,h2,h3,h4⟩
section
variable {prog:Program} {w:World} {A:Around} {E:Value → Shared → Prop} {s:Shared} {K:Frag}
noncomputable def ledger (h:Heap) (L d:Addr):List (Addr × Obj):=(List.range h.objs.size).filterMap fun a => if a = L ∨ a = d then none else (h.get? a).map fun o => (a,o)
end
end Att
namespace L2
open PySem PySem.Spec PyProof.Rows
theorem vals_ints:∀ {vs:List Value} {ns:List Int},IntsAre vs ns → Vals (ns.map V.int) vs
  | _,_,.nil => .nil
  | _,_,.cons n t h => .cons ⟨t,rfl⟩ (vals_ints h)
noncomputable def Only (H:Hp):Prop:=∀ b,H b = none ∨ ∃ o xs,H b = some (.frz o (.lst xs))
theorem law_call {P:Program} {w:World} {K:PySem.W.Frag} {mg mb:Str → Option Value} {CX:CXT} {k:Nat} {fa a:Addr} {fd:FuncData} {x:Str} {sp:Sp} {s₁:Shared} {vs:List Value} {ns:List Int}
    (KX:K.In s₁.heap) (hns:s₁.heap.Ns mainGlobals mg) (hb:s₁.heap.Ns builtinsNs mb) (hbb:∀ x:Str,x ≠ "__name__" → mb x = bootBuiltins x) (hlim:s₁.heap.NoLimit) (hg:s₁.gens = #[])
    (ha:s₁.heap.get? a = some { cls:=.type "list",data:=.seq vs.toArray }) (hi:IntsAre vs ns) (hl:ns.length ≤ sizeLine) (hr:Room k callerA)
    (F:∀ base:Heap,K.In base → base.Ns mainGlobals mg → FnOk P w K mg base CX k fa fd [x] sp) (hbind:∀ (s:Shared) (u:Value),BindsTo s fd ⟨[u],[]⟩ [(x,u)])
    (hsp:∀ H:Hp,Only H → SqL K H a (ns.map V.int) → sp [.ref a] H (fun v _ => v = .bl true) fun _ _ _ => False)
    (hCX:∀ H e s',CX [] H s₁ (fun _ _ _ => False) e s' → False) :
    codeAny (model P w) callerA (.call (.ref fa) ⟨[.ref a],[]⟩) (fun r s' => r = .ok (.ret (.bool true)) ∧ OldK s₁.heap s'.heap ∧ s'.os = s₁.os ∧ AllBare s'.gens) s₁:=by
  have rv:=vals_ints hi
  have lenV:=hi.length
  have core:∀ H:Hp,Only H → SqL K H a (ns.map V.int) → HOk P w H s₁.heap → (∀ b,H b ≠ none → b = a) → (H a ≠ none → K.lookup a = none) →
      codeAny (model P w) callerA (.call (.ref fa) ⟨[.ref a],[]⟩) (fun r s' => r = .ok (.ret (.bool true)) ∧ OldK s₁.heap s'.heap ∧ s'.os = s₁.os ∧ AllBare s'.gens) s₁:=by
    intro H hO hS hok hA hK
    have base_of:∀ {b:Addr} {o:Obj},s₁.heap.get? b = some o → H b = none → (hidT s₁.heap H).get? b = some o:=fun e n => hidT_get e n
    have noA:∀ {b:Addr} {o:Obj} {es:Array DictEntry} {ep:Nat},s₁.heap.get? b = some o → o.data = .dict es ep → H b = none:=fun {b o es ep} e d => by
      cases q:H b with
      | none => rfl
      | some u =>
        have e':b = a:=hA b (by rw [q]; simp)
        subst e'
        rw [ha] at e; cases e
        have d':Data.seq vs.toArray _ = Data.dict es ep:=d
        cases d'
    have nsK:∀ {b:Addr} {m:Str → Option Value},s₁.heap.Ns b m → (hidT s₁.heap H).Ns b m:=fun {b m} ⟨o,es,ep,e,d,r⟩ => ⟨o,es,ep,base_of e (noA e d),d,r⟩
    have hKb:K.In (hidT s₁.heap H):=fun b o e => base_of (KX b o e) (by
      cases q:H b with
      | none => rfl
      | some u =>
        have e':b = a:=hA b (by rw [q]; simp)
        subst e'
        rw [hK (by rw [q]; simp)] at e; cases e)
    have hM:Mod K mg (hidT s₁.heap H):=⟨hKb,nsK hns,⟨mb,nsK hb,hbb⟩,let ⟨mc,h1,h2⟩:=hlim; ⟨mc,nsK h1,h2⟩⟩
    have e0:Env0 P w K mg (hidT s₁.heap H) callerA [] s₁ H:=⟨rfl,hM,fun b o e => of_hidT e,Nat.le_of_eq (hidT_size _ _),trivial,fun b hb => absurd (show b ∈ ([]:List Addr) from hb) (by simp),hok,.of_eq hg⟩
    refine codeAny_mono ((F _ hKb (nsK hns)).run callerA [] s₁ H ⟨[.ref a],[]⟩ [.ref a] [.ref a] _ _ hr e0 (hbind s₁ (.ref a)) (.cons rfl .nil) (hsp H hO hS)) fun r s' h => ?_
    cases r with
    | error e => exact (hCX H e s' h).elim
    | ok fl =>
      cases fl with
      | next => exact False.elim h
      | brk => exact False.elim h
      | cont => exact False.elim h
      | ret u =>
        obtain ⟨v,H',os,bare,un,hok',r',q⟩:=h
        have q':v = .bl true:=q
        subst q'
        obtain rfl:u = Value.bool true:=r'
        refine ⟨rfl,OldK.of_keep fun b o e => ?_,os,bare⟩
        cases q:H b with
        | none => exact un.keep b o e q (by intro z; exact absurd (show b ∈ ([]:List Addr) from z) (by simp)) (by simp)
        | some u =>
          rcases hO b with z | ⟨ob,xs,z⟩
          · rw [q] at z; cases z
          · have z2:=un.frzs b ob _ z
            obtain ⟨e1,_⟩:=hok b _ z
            obtain ⟨e2,_⟩:=hok' b _ z2
            rw [e] at e1; cases e1
            exact e2
  cases hk:K.lookup a with
  | some o =>
    have e:=KX a o hk
    rw [ha] at e
    cases e
    refine core (fun _ => none) (fun _ => .inl rfl) (.inr ⟨_,vs.toArray,_,hk,rfl,rfl,rfl,by rw [List.size_toArray,lenV]; exact hl,by simpa using rv⟩) (fun b u z => by have z':(none:Option HO) = some u:=z; cases z') (fun b z => absurd rfl z) fun z => absurd rfl z
  | none =>
    refine core (fun b => if b = a then some (.frz { cls:=.type "list",data:=.seq vs.toArray } (.lst (ns.map V.int))) else none) (fun b => ?_) (.inl (.inr ⟨{ cls:=.type "list",data:=.seq vs.toArray },if_pos rfl⟩)) (fun b u z => ?_) (fun b z => ?_) fun _ => hk
    · by_cases hb:b = a
      · exact .inr ⟨_,_,if_pos hb⟩
      · exact .inl (if_neg hb)
    · by_cases hb:b = a
      · have z':=(if_pos hb).symm.trans z
        cases z'
        subst hb
        exact ⟨ha,by rw [List.length_map]; exact hl,vs,_,rv,ha⟩
      · have z':=(if_neg hb).symm.trans z
        cases z'
    · by_cases hb:b = a
      · exact hb
      · exact absurd (if_neg hb) z
end L2
namespace L2
open PySem PySem.Spec PyProof.Rows
noncomputable abbrev KOf {K:PySem.W.Frag} {h:Heap} (_:K.In h):PySem.W.Frag:=K
theorem walk_of {l:PySem.W.OpenLaw} {n k:Nat} {q:Program} {loose:List Str} {XP:(Str → Option Value) → Heap → Prop} {YP:World → Heap → Prop} {d:DefRec} {K:Params → PySem.W.Frag} {CX:World → CXT} {sp:World → Sp} {x:Str}
    (hn:l.most = some n) (hn2:n ≤ sizeLine) (hdf:d.params.defaults = []) (hr:Room k callerA)
    (hY:∀ (w:World) (h:Heap),YP w h → (K w.params).In h)
    (F:∀ (w:World) (mg:Str → Option Value) (fa:Addr) (h:Heap),(K w.params).In h → h.Ns mainGlobals mg → mg d.name = some (.ref fa) →
      ∃ fd:FuncData,(∀ (s:Shared) (u:Value),BindsTo s fd ⟨[u],[]⟩ [(x,u)]) ∧
        ∀ base:Heap,(K w.params).In base → base.Ns mainGlobals mg → FnOk l.prog w (K w.params) mg base (CX w) k fa fd [x] (sp w))
    (hsp:∀ (w:World) (H:Hp) (a:Addr) (ns:List Int),ns.length ≤ n → Only H → SqL (K w.params) H a (ns.map V.int) → sp w [.ref a] H (fun v _ => v = .bl true) fun _ _ _ => False)
    (hCX:∀ (w:World) (H:Hp) (s:Shared) (e:Value) (s':Shared),CX w [] H s (fun _ _ _ => False) e s' → False) :
    PySem.W.WalkO q loose XP YP l.row.toRowW d [] (fun f vs => PySem.call f vs):=by
  refine Att.attach_call hn hdf fun w s₀ s₁ mg mb fa o pm cd doc a vs ns G Y ho hd hcd hmg hobj hints hlen hg => ?_
  have KX:=hY w _ Y
  obtain ⟨fd,hb,hF⟩:=F w mg fa _ KX G.T.g hmg
  exact law_call KX G.T.g G.T.b G.T.builtins G.T.nolimit hg hobj hints (Nat.le_trans hlen hn2) hr hF hb (fun H hO hS => hsp w H a ns hlen hO hS) fun H e s' => hCX w H s₁ e s'
end L2
/- THE LAST THEOREM (shape; LID,My.* are yours):
   My.Adr: a structure of the addresses that your layer names (classes,functions); My.Txt K t: a structure (Prop) of the equations over K;
   My.txt_mk:{K} {implicit addresses ..} (e1:nsIn K mainGlobals "law" = some (some (.ref f))) (e2:K.lookup f = some ⟨oc,od,.func (fnOf "law" "law" params body scope dV kV doc pm an cdv ct),sl⟩) (e3:codeIn K cdv "law" = true) ..:∃ t,My.Txt K t
set_option maxRecDepth 100000 in
set_option maxHeartbeats 0 in
theorem PySem.Challenge.cw_LID_holds:PySem.Challenge.rw_LID.Holds:=by
  w_on; o_law; k_head; (case hw => w_witness2)
  k_fill
  refine L2.walk_of (l:=PySem.Challenge.rw_LID) (n:=63) (k:=40) (x:="script") (CX:=fun w => ..) (sp:=fun _ => My.sp_law) rfl (by decide) rfl ⟨rfl,by decide,by decide⟩ (fun w h Y => PySem.W.kIn_of Y) ?F ?S ?C
  case F =>
    intro w mg fa h KX G hmg
    have T:∃ t,My.Txt (L2.KOf KX) t:=by
      dsimp only [L2.KOf]                          -- K must stand as «<heap const> w.params» for k_is
      refine' My.txt_mk ?e1 ?e2 ?e3 ..
      (case e1 => PySem.W.k_is)                    -- in the order: a name -> its address -> its object -> its parts
      (case e2 => PySem.W.k_is)
      ..
    obtain ⟨t,T⟩:=T
    have e0:=hmg.symm.trans (PySem.W.mg_of KX G T.law)
    cases e0                                       -- fa is the law's own address
    exact ⟨_,fun s u => .of_eq rfl,fun base kb nb => My.law_fn T kb nb⟩     -- if «.of_eq rfl» comes too early: refine' ⟨_,?b,fun base kb nb => My.law_fn T kb nb⟩; exact fun s u => .of_eq rfl
  case S => exact fun w H a ns hl hO hS => ..
  case C => exact ..
(the tactic k_is has no namespace: write k_is) -/
namespace L2
open PySem PySem.Spec PyProof.Rows
noncomputable def inClass (s:Stmt) (j:Nat):Stmt:=match s with
  | .ClassDef _ _ _ body _ _ _ _ _ _ _ => body.getD j (.Pass ⟨0,0,0,0⟩)
  | _ => .Pass ⟨0,0,0,0⟩
noncomputable def defArgs (s:Stmt):Arguments:=match s with
  | .FunctionDef _ a _ _ _ _ _ _ _ _ => a
  | _ => { posonlyargs:=[],args:=[],vararg:=none,kwonlyargs:=[],kw_defaults:=[],kwarg:=none,defaults:=[] }
noncomputable def defBody (s:Stmt):List Stmt:=match s with
  | .FunctionDef _ _ b _ _ _ _ _ _ _ => b
  | _ => []
noncomputable def defScope (s:Stmt):Scope:=match s with
  | .FunctionDef _ _ _ _ _ _ sc _ _ _ => sc
  | _ => { kind:=.function,names:=[],isGenerator:=false,isCoroutine:=false }
noncomputable abbrev CX0:CXT:=fun _ _ _ _ _ _ => False
noncomputable abbrev E0:XK:=fun _ _ _ => False
theorem pass0 {X:Cx}:Passes CX0 X E0:=fun _ _ _ _ _ _ _ h => h.elim
structure Fun (K:PySem.W.Frag) (x qual:Str) (st:Stmt) (f:Addr) (fd:FuncData):Prop where
  ex:∃ (oc:Value) (od:Option Addr) (kV doc pm:Value) (an:Option Addr) (cdv ct:Value) (osl:Array (Option Value)),
    fd = PySem.W.fnOf x qual (defArgs st) (defBody st) (defScope st) .none kV doc pm an cdv ct ∧ K.lookup f = some ⟨oc,od,.func fd,osl⟩ ∧ PySem.W.codeIn K cdv qual = true
  kp:PySem.W.keepIn K (.ref f) = true
section
variable {P:Program} {w:World} {K:PySem.W.Frag} {mg:Str → Option Value} {base:Heap}
theorem Fun.ok {x qual:Str} {st:Stmt} {f:Addr} {fd:FuncData} {N ps:List Str} {k:Nat} {sp:Sp} (F:Fun K x qual st f fd) (S:FnScope N ps (defScope st)) (len:∀ vs H Q E,sp vs H Q E → vs.length = ps.length)
    (hbody:∀ (cdv:Value) (A:Around) (outer:List Env) (s:Shared) (H:Hp) (vs:List V) (Q:VK) (E:XK),Room k (A.deeper (envOfC qual (defScope st) s.heap.objs.size f cdv)) → sp vs H Q E →
      ∃ t,PSs (cxOf CX0 P w K mg base N qual (defScope st) f cdv A outer s H E).nox (defBody st) t ∧ t { nx:=fun _ H' => Q .non H',rt:=Q } (start N vs) H):FnOk P w K mg base CX0 (k + 1) f fd ps sp:=by
  obtain ⟨oc,od,kV,doc,pm,an,cdv,ct,osl,rfl,lk,hcd⟩:=F.ex
  refine fn_of lk hcd S len fun A outer s H vs Q E hr hsp => ?_
  obtain ⟨t,h,q⟩:=hbody cdv A outer s H vs Q E hr hsp
  exact ⟨t,h.nox,q⟩
theorem Fun.binds {x qual:Str} {st:Stmt} {f:Addr} {fd:FuncData} {ps:List Str} (F:Fun K x qual st f fd)
    (h:∀ (kV doc pm:Value) (an:Option Addr) (cdv ct:Value) (us:List Value),us.length = ps.length → bindArgs (PySem.W.fnOf x qual (defArgs st) (defBody st) (defScope st) .none kV doc pm an cdv ct) ⟨us,[]⟩ = pure (ps.zip us)):Binds K fd ps []:=by
  obtain ⟨oc,od,kV,doc,pm,an,cdv,ct,osl,rfl,lk,hcd⟩:=F.ex
  exact .all (h kV doc pm an cdv ct)
theorem fun_mk {x qual:Str} {st:Stmt} {f:Addr} {oc:Value} {od an:Option Addr} {osl:Array (Option Value)} {kV doc pm cdv ct:Value} (l:K.lookup f = some ⟨oc,od,.func (PySem.W.fnOf x qual (defArgs st) (defBody st) (defScope st) .none kV doc pm an cdv ct),osl⟩)
    (c:PySem.W.codeIn K cdv qual = true) (k:PySem.W.keepIn K (.ref f) = true):Fun K x qual st f (PySem.W.fnOf x qual (defArgs st) (defBody st) (defScope st) .none kV doc pm an cdv ct):=⟨⟨oc,od,kV,doc,pm,an,cdv,ct,osl,rfl,l,c⟩,k⟩
end
theorem hu_of {A:Around} {k:Nat} (hr:Room k A):A.units + 1 < cLine:=Nat.lt_of_le_of_lt (Nat.add_le_add_left (by decide:1 ≤ 64) _) hr.units
theorem small1000 {n:Nat} (h:n ≤ 1000):n < sizeLine:=Nat.lt_of_le_of_lt h (by decide)
section
variable {X:Cx}
theorem pv (i:Nat) {x:Str} {pos:Pos} (hN:X.N[i]? = some x:=by rfl) (hv:Vis X.env.scope x:=by first | exact Or.inl rfl | exact Or.inr (Or.inl rfl) | exact Or.inr (Or.inr rfl)) (hd:(x == ("__debug__":Str)) = false:=by decide)
    (hcd:(x == ("__classdict__":Str)) = false:=by decide):PE X (.Name x pos) (tVar i):=pe_var hN hv hd hcd
end
theorem iteF {A B:Prop} (h:B):if false = true then A else B:=by
  rw [if_neg Bool.false_ne_true]
  exact h
theorem iteT {A B:Prop} (h:A):if true = true then A else B:=by
  rw [if_pos rfl]
  exact h
theorem ite2 {c A B:Prop} [Decidable c] (h1:c → A) (h2:¬ c → B):if c then A else B:=by
  by_cases h:c
  · rw [if_pos h]
    exact h1 h
  · rw [if_neg h]
    exact h2 h
noncomputable def Same (H H':Hp):Prop:=∀ b o,H b = some o → H' b = some o
theorem Same.refl (H:Hp):Same H H:=fun _ _ h => h
theorem Same.trans {H H1 H2:Hp} (a:Same H H1) (b:Same H1 H2):Same H H2:=fun c o h => b c o (a c o h)
theorem Same.free {H H':Hp} (e:Same H H') {l:Addr} (h:H' l = Option.none):H l = Option.none:=by
  cases q:H l with
  | none => rfl
  | some o =>
    rw [e l o q] at h
    cases h
theorem Same.seq {K:PySem.W.Frag} {H H':Hp} {a:Addr} {xs:List V} (e:Same H H') (h:SqL K H a xs):SqL K H' a xs:=by
  rcases h with (h | ⟨o,h⟩) | h
  · exact .inl (.inl (e _ _ h))
  · exact .inl (.inr ⟨o,e _ _ h⟩)
  · exact .inr h
end L2
namespace L2
open PySem PySem.Spec PyProof.Rows
section
variable {X:Cx}
end
end L2
namespace L2
open PySem PySem.Spec PyProof.Rows
section
variable {κ:Type} [DecidableEq κ]
theorem dropK_pos {p:κ × V} {r:List (κ × V)} {k:κ} (e:p.1 = k):dropK (p :: r) k = dropK r k:=by
  unfold dropK
  rw [List.filter_cons,if_neg (by simp [e])]
theorem dropK_neg {p:κ × V} {r:List (κ × V)} {k:κ} (e:¬ p.1 = k):dropK (p :: r) k = p :: dropK r k:=by
  unfold dropK
  rw [List.filter_cons,if_pos (by simp [e])]
end
end L2
namespace L2
open PySem PySem.Spec PyProof.Rows
section
variable {X:Cx} {tg:Expr}
end
noncomputable abbrev blk (X:Cx) (N':List Str) (sc:Scope) (cl:List (Str × Addr)) (s₀:Shared) (H₀:Hp) (C:Addr) (ex:List Addr):Cx :=
  { X with N:=N',s₀:=s₀,H₀:=H₀,env:=compEnvC sc cl C X.env,outer:=X.stack,ex:=ex,fn:=fun _ => false,xe:=fun _ _ => False }
structure BlkSc (X:Cx) (caps:List Str) (sc:Scope) (cl:List (Str × Addr)):Prop where
  kind:sc.kind = .function
  nocell:∀ y ∈ sc.names,y.2 ≠ .cell
  names:∀ y ∈ sc.names,y.2 = .local → sc.names.lookup y.1 = some .local
  clos:closureFor sc X.env = pure cl
  has:(sc.names.all fun y => y.2 != .free || (cl.lookup y.1).isSome) = true
  sub:∀ y ∈ cl,X.env.cells.lookup y.1 = some y.2
  caps:∀ x ∈ caps,(X.env.kindOf x = some .cell ∨ X.env.kindOf x = some .free) ∧ (cl.lookup x).isSome = true ∧ ((relabel sc X.env).names.lookup x = some .cell ∨ (relabel sc X.env).names.lookup x = some .free)
theorem relabel_inv {env:Env}:∀ {names:List (Str × NameKind)} {x:Str} {k:NameKind},(names.map fun (n,k) => if (k == NameKind.free && env.scope.kind == .function && env.kindOf n == some .cell) then (n,NameKind.cell) else (n,k)).lookup x = some k →
    ∃ k',(x,k') ∈ names ∧ (k' = k ∨ k' = .free)
  | [],_,_,h => by simp at h
  | (n,k0) :: r,x,k,h => by
    have h':List.lookup x ((if (k0 == NameKind.free && env.scope.kind == .function && env.kindOf n == some .cell) = true then (n,NameKind.cell) else (n,k0)) :: (r.map fun (n,k) => if (k == NameKind.free && env.scope.kind == .function && env.kindOf n == some .cell) then (n,NameKind.cell) else (n,k))) = some k:=h
    by_cases hx:x = n
    · subst hx
      refine ⟨k0,List.mem_cons_self,?_⟩
      by_cases hc:(k0 == NameKind.free && env.scope.kind == .function && env.kindOf x == some .cell) = true
      · have hf:(k0 == NameKind.free) = true:=by
          rw [Bool.and_eq_true,Bool.and_eq_true] at hc
          exact hc.1.1
        exact .inr (by cases k0 <;> first | rfl | exact absurd hf (by decide))
      · rw [if_neg hc,List.lookup_cons_self] at h'
        exact .inl (Option.some.inj h')
    · have hb:(x == n) = false:=beq_eq_false_iff_ne.mpr hx
      have h2:(r.map fun (n,k) => if (k == NameKind.free && env.scope.kind == .function && env.kindOf n == some .cell) then (n,NameKind.cell) else (n,k)).lookup x = some k:=by
        split at h' <;> simpa [List.lookup_cons,hb] using h'
      obtain ⟨k',hm,hk⟩:=relabel_inv h2
      exact ⟨k',List.mem_cons_of_mem _ hm,hk⟩
theorem BlkSc.hasc {X:Cx} {caps:List Str} {sc:Scope} {cl:List (Str × Addr)} (S:BlkSc X caps sc cl) {x:Str} (h:(relabel sc X.env).names.lookup x = some .cell ∨ (relabel sc X.env).names.lookup x = some .free):∃ c,cl.lookup x = some c:=by
  have key:(x,NameKind.free) ∈ sc.names:=by
    rcases h with h | h
    · obtain ⟨k',hm,hk⟩:=relabel_inv h
      rcases hk with rfl | rfl
      · exact absurd rfl (S.nocell _ hm)
      · exact hm
    · obtain ⟨k',hm,hk⟩:=relabel_inv h
      rcases hk with rfl | rfl <;> exact hm
  have q:=List.all_eq_true.mp S.has _ key
  have q2:(cl.lookup x).isSome = true:=by simpa using q
  exact Option.isSome_iff_exists.mp q2
theorem BlkSc.subc {X:Cx} {caps:List Str} {sc:Scope} {cl:List (Str × Addr)} (S:BlkSc X caps sc cl) {x:Str} {c:Addr} (h:cl.lookup x = some c):X.env.cells.lookup x = some c:=S.sub _ (PySem.mem_of_lookup h)
noncomputable def blkSt (n:Nat) (κ:List Nat) (σ:St):St:=List.replicate n none ++ κ.map fun k => (σ[k]?).join
noncomputable def CompRun (n:Nat) (κ:List Nat) (g:TG) (tc:TT) (te:TE) (σ:St) (J:It) (H1:Hp) (Q:VK):Prop :=
  ∃ W:Nat → Nat → List V → Hp → Prop,(∃ m,W 0 m [] H1) ∧ ∀ i m ys H2,W i m ys H2 →
    (J.stop i H2 ∧ ∀ D,H2 D = none → Q (.ref D) (upd H2 D (.lst ys))) ∨
    (J.go i H2 ∧ ys.length < sizeLine ∧ ∀ x H3,J.yld i H2 x H3 → g x (blkSt n κ σ) H3 fun σ4 H4 => σ4.drop n = (blkSt n κ σ).drop n ∧
      tc σ4 H4 fun b H5 => if b = true then te σ4 H5 fun v H6 => ∃ m',m' < m ∧ W (i + 1) m' (ys ++ [v]) H6 else ∃ m',m' < m ∧ W (i + 1) m' ys H5)
noncomputable def tComp (n:Nat) (κ:List Nat) (wi:TI) (g:TG) (tc:TT) (te:TE):TE:=fun σ H Q => wi σ H fun J H1 => CompRun n κ g tc te σ J H1 Q
noncomputable def tYes:TT:=fun _ H Q => Q true H
theorem tYes_go {σ:St} {H:Hp} {A B:Hp → Prop} (h:A H):tYes σ H fun b H5 => if b = true then A H5 else B H5:=by
  show (if true = true then A H else B H)
  rw [if_pos rfl]
  exact h
section
variable {X:Cx} {pins:List (Addr × Obj)} {σ:St} {H:Hp} {s:Shared}
theorem Inv.block {caps:List Str} {own:List Str} {κ:List Nat} {sc:Scope} {cl:List (Str × Addr)} {fp:List Addr} {h₁:Heap} {tk:Nat} (S:BlkSc X caps sc cl) (hκ:κ.map (fun k => X.N[k]?) = caps.map some) (I:Inv X pins σ H s)
    (f2:∀ b ∈ fp,FpOk X pins H b) (hfp:∀ b ∈ fp,b < s.heap.objs.size)
    {hp:Heap} {ol:Obj} (ehp:hp = s.heap.push ol) (hns:h₁.Ns hp.objs.size fun _ => none) (old:∀ b o,hp.get? b = some o → h₁.get? b = some o) :
    Inv (blk X (own ++ caps) sc cl { s with heap:=hp } H hp.objs.size (s.heap.objs.size :: fp)) pins (blkSt own.length κ σ) H { s with heap:=h₁,toks:=tk }:=by
  have hsz:hp.objs.size = s.heap.objs.size + 1:=by rw [ehp,Heap.size_push]
  have up:∀ b o,s.heap.get? b = some o → hp.get? b = some o:=fun b o e => by rw [ehp]; exact Heap.get?_push_of_some _ e
  have I3:Inv X pins σ H { s with heap:=hp }:=I.kept (t':=s.toks) up
  have stk:∀ b,b ≠ X.env.locals → b ∉ X.fs → b ∉ frs X.stack:=fun b h1 h2 z => (List.mem_cons.mp (I.stkSub b z)).elim h1 h2
  have dD:s.heap.objs.size ≠ X.env.locals:=Nat.ne_of_gt I.lt
  have cellLt:∀ x c,X.env.cells.lookup x = some c → c < s.heap.objs.size:=fun x c e => by
    obtain ⟨v,q⟩:=I.cell x c e
    exact q.lt
  have ltC:∀ b,b < s.heap.objs.size → b ≠ hp.objs.size:=fun b hb => by rw [hsz]; exact Nat.ne_of_lt (Nat.lt_succ_of_lt hb)
  have cellK:∀ c v,s.heap.IsCell c v → h₁.IsCell c v:=fun c v ⟨o,ho,hd⟩ => ⟨o,old _ _ (up _ _ ho),hd⟩
  refine ⟨⟨I.ok.mod,?_,I.ok.glob,I.ok.blt,Nat.le_refl _,fun x y c h1 h2 => I.ok.inj x y c (S.subc h1) (S.subc h2),fun x h => S.hasc h,fun _ _ z => absurd z Bool.false_ne_true,I.ok.hd,I.ok.frames,.inl rfl,fun b hb => ?_,fun b o e => ⟨up _ _ (I.bs b o e).1,(I.bs b o e).2⟩,
      Nat.le_trans (Nat.le_trans I.ok.bsz I.sz) (by show s.heap.objs.size ≤ hp.objs.size; rw [hsz]; exact Nat.le_succ _),fun b o e hb => ?_,fun b hb => ?_,I3.stack,I.stkFree⟩,
    rfl,I.bare,Un.kept old,⟨_,hns,fun i x v e1 e2 e3 => ?_⟩,fun x c h => ?_,I.hok.fresh (by rw [hsz]; exact Nat.le_succ _),fun x c h => I.freeC x c (S.subc h),fun p hp' => ?_,I.hok.kept fun b u e => old _ _ (up _ _ e),?_⟩
  · show (relabel sc X.env).kind = .function
    exact S.kind
  · show b ≠ hp.objs.size ∧ ∀ x c,cl.lookup x = some c → c ≠ b
    rcases List.mem_cons.mp hb with rfl | hb
    · exact ⟨by rw [hsz]; exact Nat.ne_of_lt (Nat.lt_succ_self _),fun x c h => Nat.ne_of_lt (cellLt x c (S.subc h))⟩
    · exact ⟨ltC b (hfp b hb),fun x c h => (f2 b hb).2.2.2.2.1 x c (S.subc h)⟩
  · have hlt:b < X.s₀.heap.objs.size:=Nat.lt_of_lt_of_le (Heap.lt_size e) I.ok.bsz
    rcases List.mem_cons.mp hb with rfl | hb
    · exact absurd (Nat.lt_of_lt_of_le hlt I.sz) (Nat.lt_irrefl _)
    · rcases (f2 b hb).2.2.2.1 with z | z
      · exact I.ok.noex b o e z
      · exact absurd (Nat.lt_of_lt_of_le hlt z) (Nat.lt_irrefl _)
  · rcases List.mem_cons.mp hb with rfl | hb
    · exact stk _ dD (I.nofs (Nat.le_refl _))
    · exact stk _ (f2 b hb).2.1 (f2 b hb).2.2.1
  · have e1':(own ++ caps)[i]? = some x:=e1
    have hlen:(List.replicate own.length (none:Option V)).length = own.length:=List.length_replicate
    have hge:own.length ≤ i:=by
      refine Nat.le_of_not_lt fun hlt => ?_
      unfold blkSt at e2
      rw [List.getElem?_append_left (by rw [hlen]; exact hlt),List.getElem?_replicate,if_pos hlt] at e2
      cases e2
    unfold blkSt at e2
    rw [List.getElem?_append_right (by rw [hlen]; exact hge),hlen,List.getElem?_map] at e2
    rw [List.getElem?_append_right hge] at e1'
    cases ek:κ[i - own.length]? with
    | none => rw [ek] at e2; cases e2
    | some k =>
      rw [ek] at e2
      have e2':(σ[k]?).join = some v:=Option.some.inj e2
      have e4:σ[k]? = some (some v):=by
        cases eσ:σ[k]? with
        | none => rw [eσ] at e2'; cases e2'
        | some w => rw [eσ] at e2'; exact congrArg some e2'
      have e5:X.N[k]? = some x:=by
        have z:=congrArg (fun l => l[i - own.length]?) hκ
        simp only [List.getElem?_map,ek,e1',Option.map_some] at z
        exact Option.some.inj z
      obtain ⟨c1,c2,c3⟩:=S.caps x (List.mem_of_getElem? e1')
      obtain ⟨m,hn,hl⟩:=I.loc
      obtain ⟨u,r,l⟩:=hl k x v e5 e4 (c1.elim (fun z => .inr (.inl z)) fun z => .inr (.inr z))
      refine ⟨u,r,?_⟩
      rcases l with ⟨hk,_⟩ | ⟨_,c,hc,hcell⟩
      · rcases c1 with z | z <;> (rw [hk] at z; cases z)
      · obtain ⟨c',hc'⟩:=Option.isSome_iff_exists.mp c2
        have ecc:c' = c:=Option.some.inj ((S.subc hc').symm.trans hc)
        subst ecc
        exact .inr ⟨c3,c',hc',cellK _ _ hcell⟩
  · obtain ⟨v,q⟩:=I.cell x c (S.subc h)
    exact ⟨v,cellK c v q⟩
  · obtain ⟨e,n,ne,nf,d⟩:=I.pin p hp'
    exact ⟨old _ _ (up _ _ e),n,ltC _ (Heap.lt_size e),stk _ ne nf,d⟩
  · show (blkSt own.length κ σ).length = (own ++ caps).length
    have z:=congrArg List.length hκ
    rw [List.length_map,List.length_map] at z
    unfold blkSt
    rw [List.length_append,List.length_append,List.length_replicate,List.length_map,z]
theorem Inv.unblock {own caps:List Str} {sc:Scope} {cl:List (Str × Addr)} {fp:List Addr} {H':Hp} {s4:Shared} {σ':St} {pins':List (Addr × Obj)} {hp h':Heap} {ol:Obj} {ys:List V} {its:List Value} {cap:Nat} (I:Inv X pins σ H s)
    (f2:∀ b ∈ fp,FpOk X pins H b) (ehp:hp = s.heap.push ol)
    (J:Inv (blk X (own ++ caps) sc cl { s with heap:=hp } H hp.objs.size (s.heap.objs.size :: fp)) pins' σ' H' s4)
    (hD:s4.heap.get? s.heap.objs.size = some { cls:=.type "list",data:=.seq its.toArray cap }) (nD:H' s.heap.objs.size = none) (r:Vals ys its) (hz:ys.length ≤ sizeLine) (sb:Heap.SameBut hp.objs.size s4.heap h') :
    Inv X pins σ (upd H' s.heap.objs.size (.lst ys)) { s4 with heap:=h' }:=by
  have hsz:hp.objs.size = s.heap.objs.size + 1:=by rw [ehp,Heap.size_push]
  have up:∀ b o,s.heap.get? b = some o → hp.get? b = some o:=fun b o e => by rw [ehp]; exact Heap.get?_push_of_some _ e
  have nDs:H s.heap.objs.size = none:=I.hok.fresh (Nat.le_refl _)
  have neD:∀ b o,s.heap.get? b = some o → b ≠ s.heap.objs.size:=fun b o e => Nat.ne_of_lt (Heap.lt_size e)
  have neC:∀ b o,s.heap.get? b = some o → b ≠ hp.objs.size:=fun b o e => by rw [hsz]; exact Nat.ne_of_lt (Nat.lt_succ_of_lt (Heap.lt_size e))
  have nex:∀ b o,s.heap.get? b = some o → b ∉ fp → b ∉ s.heap.objs.size :: fp:=fun b o e hb z => (List.mem_cons.mp z).elim (neD b o e) hb
  have u:=J.base
  have hDC:s.heap.objs.size ≠ hp.objs.size:=by rw [hsz]; exact Nat.ne_of_lt (Nat.lt_succ_self _)
  have eD:h'.get? s.heap.objs.size = some { cls:=.type "list",data:=.seq its.toArray cap }:=(sb.2 _ hDC).trans hD
  refine I.call' (ch:=fp) J.os ⟨fun b o e n hb hx => ?_,fun b o e n hb hx => ?_,fun b o e n hx => ?_,fun b o e hx => ?_,fun b xs e => ?_,fun b o x e => ?_,fun b ps e => ?_⟩ (fun b o e => ?_) J.bare fun b hb => ?_
  · exact (sb.2 b (neC b o e)).trans (u.keep b o (up _ _ e) n hb (nex b o e hx))
  · obtain ⟨sl,q⟩:=u.slot b o (up _ _ e) n hb (nex b o e hx)
    exact ⟨sl,(sb.2 b (neC b o e)).trans q⟩
  · rw [upd_ne (neD b o e)]
    exact u.free b o (up _ _ e) n (nex b o e hx)
  · obtain ⟨o',q⟩:=u.there b o (up _ _ e) (nex b o e hx)
    exact ⟨o',(sb.2 b (neC b o e)).trans q⟩
  · rw [upd_ne (ne_of_none e nDs)]
    exact u.tups b xs e
  · rw [upd_ne (ne_of_none e nDs)]
    exact u.frzs b o x e
  · rw [upd_ne (ne_of_none e nDs)]
    exact u.tbls b ps e
  · by_cases hb:b = s.heap.objs.size
    · subst hb
      rw [upd_same] at e
      cases e
      exact ⟨hz,its,cap,r,eD⟩
    · rw [upd_ne hb] at e
      have nC:∀ c w,H' c = some w → c ≠ hp.objs.size:=fun c w q => ne_of_none q J.free
      refine (J.hok b o e).stay (fun c v hc q => (sb.2 c ?_).trans q) (fun c q => by rw [upd_ne (ne_of_none q nD)]; exact q) fun c xs q => by rw [upd_ne (ne_of_none q nD)]; exact q
      rcases hc with rfl | hc
      · exact nC c o e
      · exact nC c _ hc
  · obtain ⟨_,f1,_,f3,f4,f5⟩:=f2 b hb
    exact ⟨f3,f1,f4,f5⟩
end
section
variable {X:Cx}
theorem pe_compG {tg elt iter:Expr} {ifs:List Expr} {own caps:List Str} {κ:List Nat} {sc:Scope} {cl:List (Str × Addr)} {pos:Pos} {wi:TI} {g:TG} {tc:TT} {te:TE} (hcalm:X.calm = true) (S:BlkSc X caps sc cl) (hκ:κ.map (fun k => X.N[k]?) = caps.map some)
    (hi:PI X tg iter wi) (hg:∀ s₀ H₀ C ex,PG (blk X (own ++ caps) sc cl s₀ H₀ C ex) tg g)
    (hc:∀ s₀ H₀ C ex (pins:List (Addr × Obj)) (s:Shared) (σ:St) (H:Hp) (Q:Bool → Hp → Prop),Inv (blk X (own ++ caps) sc cl s₀ H₀ C ex) pins σ H s → tc σ H Q →
      wpAny (model X.prog X.w) X.A (forIn ifs true fun c r => if r = true then do let ok ← isTrue c (compEnvC sc cl C X.env) (eval c (compEnvC sc cl C X.env)); pure (ForInStep.yield ok) else pure (ForInStep.yield r)) (TP (blk X (own ++ caps) sc cl s₀ H₀ C ex) pins σ Q) (fun _ _ => False) s)
    (he:∀ s₀ H₀ C ex,PE (blk X (own ++ caps) sc cl s₀ H₀ C ex) elt te)
    (hs:∀ x,foldedSetIterable iter X.env x = pure x:=by intro _; rfl):PE X (.ListComp elt [⟨tg,iter,ifs,0⟩] sc pos) (tComp own.length κ wi g tc te):=by
  intro pins s σ H Q I h
  rw [eval_ListComp]
  refine wpAny_comprehension_free (use:=none) rfl hs S.clos S.kind S.names (thn (hi pins s σ H _ I h) fun v s1 h1 => thn h1 fun itv s2 h2 => ?_)
  obtain ⟨it,fp,tn,J,H2,e,I2,T,st2,f2,W,⟨m0,w0⟩,turn⟩:=h2
  subst e
  have hfp:∀ b ∈ fp,b < s2.heap.objs.size:=fun b hb => by
    obtain ⟨o,e,_⟩:=T.obj _ _ st2 b hb
    exact Heap.lt_size e
  refine wpAny_newObj_type (wpAny_newFunctionEnv S.nocell (fun y hy => nomatch hy) (fun h₁ hns hsb => ?_) S.kind)
  generalize ehp:s2.heap.push { cls:=.type "list",dict:=none,data:=.seq ([]:List Value).toArray } = hp at hns hsb ⊢
  have hsz:hp.objs.size = s2.heap.objs.size + 1:=by rw [← ehp,Heap.size_push]
  have hDC:s2.heap.objs.size ≠ hp.objs.size:=by rw [hsz]; exact Nat.ne_of_lt (Nat.lt_succ_self _)
  have old:∀ b o,hp.get? b = some o → h₁.get? b = some o:=fun b o e => (hsb.2 b (Nat.ne_of_lt (Heap.lt_size e))).trans (Heap.get?_push_of_some _ e)
  have eD:h₁.get? s2.heap.objs.size = some { cls:=.type "list",data:=.seq ([]:List Value).toArray }:=old _ _ (by rw [← ehp]; exact Heap.get?_push_size _ rfl)
  have I0:=Inv.block (own:=own) (h₁:=h₁) (tk:=s2.toks + ([]:List (Str × Value)).length) S hκ I2 f2 hfp ehp.symm hns old
  have stkD:s2.heap.objs.size ∉ frs X.stack:=fun z => (List.mem_cons.mp (I2.stkSub _ z)).elim (Nat.ne_of_gt I2.lt) (I2.nofs (Nat.le_refl _))
  have cellD:∀ x c,cl.lookup x = some c → c ≠ s2.heap.objs.size:=fun x c q => by
    obtain ⟨v,z⟩:=I2.cell x c (S.subc q)
    exact Nat.ne_of_lt z.lt
  have pinD:∀ p ∈ X.pn ++ pins,p.1 ≠ s2.heap.objs.size:=fun p hp => Nat.ne_of_lt (Heap.lt_size (I2.pin p hp).1)
  have stkF:∀ b ∈ fp,b ∉ frs X.stack:=fun b hb z => (List.mem_cons.mp (I2.stkSub _ z)).elim (f2 b hb).2.1 (f2 b hb).2.2.1
  have loop:codeAny (model X.prog X.w) X.A (.compLoop (.ListComp elt [⟨tg,iter,ifs,0⟩] sc pos) 0 (.ref it) (.ref s2.heap.objs.size) (compEnvC sc cl hp.objs.size X.env))
      (compPost (model X.prog X.w) X.A X.xe none (EP X pins σ Q) (.ref s2.heap.objs.size) hp.objs.size) { s2 with heap:=h₁,toks:=s2.toks + ([]:List (Str × Value)).length }:=by
    refine codeAny_loop rfl (fun n s' => ∃ (i:Nat) (ys:List V) (its:List Value) (cap:Nat) (H':Hp),Inv (blk X (own ++ caps) sc cl { s2 with heap:=hp } H2 hp.objs.size (s2.heap.objs.size :: fp)) pins (blkSt own.length κ σ) H' s' ∧ tn i s'.heap ∧ (∀ b ∈ fp,H' b = none) ∧
      s'.heap.get? s2.heap.objs.size = some { cls:=.type "list",data:=.seq its.toArray cap } ∧ H' s2.heap.objs.size = none ∧ Vals ys its ∧ ys.length ≤ sizeLine ∧ W i n ys H') (fun n s3 hI => ?_) m0
      ⟨0,[],[],0,H2,I0,T.keep _ _ _ st2 fun b hb o e => old _ _ (by rw [← ehp]; exact Heap.get?_push_of_some _ e),fun b hb => (f2 b hb).1,eD,I2.hok.fresh (Nat.le_refl _),.nil,Nat.zero_le _,w0⟩
    obtain ⟨i,ys,its,cap,H3,I3,st3,fr3,eD3,nD3,rv,hz,w3⟩:=hI
    show wpAny _ X.A ((compTurn (.ListComp elt [⟨tg,iter,ifs,0⟩] sc pos) 0 (.ref it) (.ref s2.heap.objs.size) (compEnvC sc cl hp.objs.size X.env)).onRaise fun x => do noteFrame x (compEnvC sc cl hp.objs.size X.env); theTreesLotGoes x) _ _ s3
    refine wpAny_noted ?_
    rw [compTurn_list]
    have I3':Inv (blk X (own ++ caps) sc cl { s2 with heap:=hp } H2 hp.objs.size (s2.heap.objs.size :: fp)) (pins ++ [(s2.heap.objs.size,{ cls:=.type "list",data:=.seq its.toArray cap })]) (blkSt own.length κ σ) H3 s3:=by
      refine I3.pins_of fun p hp => (List.mem_append.mp hp).elim (fun z => I3.pin p (List.mem_append_right _ z)) fun z => ?_
      obtain rfl:=List.mem_singleton.mp z
      exact ⟨eD3,nD3,hDC,stkD,fun v q => by cases q⟩
    have fpk:∀ {H':Hp},(∀ b ∈ fp,H' b = none) → ∀ b ∈ fp,FpOk (blk X (own ++ caps) sc cl { s2 with heap:=hp } H2 hp.objs.size (s2.heap.objs.size :: fp)) (pins ++ [(s2.heap.objs.size,{ cls:=.type "list",data:=.seq its.toArray cap })]) H' b:=fun {H'} hn b hb =>
      ⟨hn b hb,by show b ≠ hp.objs.size; rw [hsz]; exact Nat.ne_of_lt (Nat.lt_succ_of_lt (hfp b hb)),stkF b hb,.inl (List.mem_cons_of_mem _ hb),fun x c q => (f2 b hb).2.2.2.2.1 x c (S.subc q),fun p hp => by
        rw [← List.append_assoc] at hp
        rcases List.mem_append.mp hp with z | z
        · exact (f2 b hb).2.2.2.2.2 p z
        · obtain rfl:=List.mem_singleton.mp z
          exact Nat.ne_of_gt (hfp b hb)⟩
    rcases turn i n ys H3 w3 with ⟨stop,fin⟩ | ⟨go,hlt,step⟩
    · refine wpAny_bind (wpAny_standAt (wpAny_bind (thn (T.done (blk X (own ++ caps) sc cl { s2 with heap:=hp } H2 hp.objs.size (s2.heap.objs.size :: fp)) rfl rfl rfl hcalm i _ s3 _ H3 _ I3' (fpk fr3) st3 stop) fun r s4 ⟨hr,I4⟩ => ?_)))
      subst hr
      refine wpAny_pure ?_
      obtain ⟨m,hm,_⟩:=I4.loc
      refine ⟨m,hm,fun h' sb => ?_⟩
      have eD4:=(I4.pin (s2.heap.objs.size,{ cls:=.type "list",data:=.seq its.toArray cap }) (List.mem_append_right _ (List.mem_append_right _ (List.mem_singleton.mpr rfl)))).1
      exact ⟨.ref s2.heap.objs.size,_,Inv.unblock I2 f2 ehp.symm I4 eD4 nD3 rv hz sb,rfl,fin _ nD3⟩
    · refine wpAny_bind (wpAny_standAt (wpAny_bind (thn (T.item (blk X (own ++ caps) sc cl { s2 with heap:=hp } H2 hp.objs.size (s2.heap.objs.size :: fp)) rfl rfl rfl hcalm i _ s3 _ H3 _ I3' (fpk fr3) st3 go) fun r s4 ⟨u,hr,h4⟩ => ?_)))
      subst hr
      refine wpAny_bind (thn h4 fun _ s5 ⟨x,H5,I5,r5,y5,st5,fr5⟩ => ?_)
      have I5':=I5.pinned (fpk fr5) (T.obj _ _ st5)
      refine wpAny_bind (wpAny_mono (hg _ _ _ _ _ s5 _ H5 x u _ I5' r5 (step x H5 y5)) (fun _ s6 ⟨σ6,H6,I6,eσ,q6⟩ => ?_) fun _ _ z => z.elim)
      refine wpAny_bind (wpAny_mono (hc _ _ _ _ _ s6 σ6 H6 _ I6 q6) (fun ok s7 ⟨H7,I7,q7⟩ => ?_) fun _ _ z => z.elim)
      have back:∀ {s8:Shared} {H8:Hp},Inv (blk X (own ++ caps) sc cl { s2 with heap:=hp } H2 hp.objs.size (s2.heap.objs.size :: fp)) ((pins ++ [(s2.heap.objs.size,{ cls:=.type "list",data:=.seq its.toArray cap })]) ++ pinsAt fp s5.heap) σ6 H8 s8 →
          Inv (blk X (own ++ caps) sc cl { s2 with heap:=hp } H2 hp.objs.size (s2.heap.objs.size :: fp)) pins (blkSt own.length κ σ) H8 s8 ∧ tn (i + 1) s8.heap ∧ (∀ b ∈ fp,H8 b = none) ∧ s8.heap.get? s2.heap.objs.size = some { cls:=.type "list",data:=.seq its.toArray cap } ∧ H8 s2.heap.objs.size = none:=by
        intro s8 H8 I8
        have pk:∀ b ∈ fp,∀ o,s5.heap.get? b = some o → s8.heap.get? b = some o ∧ H8 b = none:=fun b hb o e => by
          have z:=I8.pin (b,o) (List.mem_append_right _ (List.mem_append_right _ (mem_pinsAt hb e)))
          exact ⟨z.1,z.2.1⟩
        have zD:=I8.pin (s2.heap.objs.size,{ cls:=.type "list",data:=.seq its.toArray cap }) (List.mem_append_right _ (List.mem_append_left _ (List.mem_append_right _ (List.mem_singleton.mpr rfl))))
        refine ⟨(I8.pins_of fun p hp => I8.pin p (List.mem_append_right _ (List.mem_append_left _ (List.mem_append_left _ hp)))).weak ?_ fun j v e => ?_,T.keep _ _ _ st5 fun b hb o e => (pk b hb o e).1,fun b hb => ?_,zD.1,zD.2.1⟩
        · exact I3.len.trans I8.len.symm
        · have hge:own.length ≤ j:=by
            refine Nat.le_of_not_lt fun q => ?_
            unfold blkSt at e
            rw [List.getElem?_append_left (by rw [List.length_replicate]; exact q),List.getElem?_replicate,if_pos q] at e
            cases e
          have z:=congrArg (fun l => l[j - own.length]?) eσ
          simp only [List.getElem?_drop] at z
          rw [show own.length + (j - own.length) = j by omega] at z
          rw [z]
          exact e
        · obtain ⟨o,e,_⟩:=T.obj _ _ st5 b hb
          exact (pk b hb o e).2
      cases ok with
      | false =>
        obtain ⟨m',hm,w7⟩:=(if_neg Bool.false_ne_true) ▸ q7
        obtain ⟨I8,st8,fr8,e8,n8⟩:=back I7
        exact wpAny_pure ⟨rfl,m',hm,i + 1,ys,its,cap,H7,I8,st8,fr8,e8,n8,rv,hz,w7⟩
      | true =>
        have q7':=(if_pos rfl) ▸ q7
        refine wpAny_bind (wpAny_bind (wpAny_mono (he _ _ _ _ _ s7 σ6 H7 _ I7 q7') (fun y s8 ⟨v8,H8,I8,r8,m',hm,w8⟩ => ?_) fun _ _ z => z.elim))
        obtain ⟨I9,st9,fr9,e9,n9⟩:=back I8
        have hl:=rv.length
        refine wpAny_bind (wpAny_list_append_plain (items:=its.toArray) ⟨cap,e9⟩ (fun h' hl' sb => ?_) (by rw [List.size_toArray,← hl]; exact hz))
        obtain ⟨cap',e'⟩:=hl'
        refine wpAny_pure (wpAny_pure ⟨rfl,m',hm,i + 1,ys ++ [v8],its ++ [y],cap',H8,?_,?_,fr9,?_,n9,Vals.append rv (.cons r8 .nil),?_,w8⟩)
        · exact I9.turned (t':=s8.toks) (fun b o hb e => (sb.2 b hb).trans e) n9 hDC (.inl List.mem_cons_self) cellD pinD
        · exact T.keep _ _ _ st9 fun b hb o e => (sb.2 b (Nat.ne_of_lt (hfp b hb))).trans e
        · rw [e']
          congr 3
          simp
        · rw [List.length_append]
          exact hlt
  exact codeAny_compStart_list loop (T.self _ 0 _ _ _ (T.keep _ _ _ st2 fun b hb o e => old _ _ (by rw [← ehp]; exact Heap.get?_push_of_some _ e)) loop)
theorem pe_comp {tg elt iter:Expr} {own caps:List Str} {κ:List Nat} {sc:Scope} {cl:List (Str × Addr)} {pos:Pos} {wi:TI} {g:TG} {te:TE} (hcalm:X.calm = true) (S:BlkSc X caps sc cl) (hκ:κ.map (fun k => X.N[k]?) = caps.map some)
    (hi:PI X tg iter wi) (hg:∀ s₀ H₀ C ex,PG (blk X (own ++ caps) sc cl s₀ H₀ C ex) tg g) (he:∀ s₀ H₀ C ex,PE (blk X (own ++ caps) sc cl s₀ H₀ C ex) elt te)
    (hs:∀ x,foldedSetIterable iter X.env x = pure x:=by intro _; rfl):PE X (.ListComp elt [⟨tg,iter,[],0⟩] sc pos) (tComp own.length κ wi g tYes te) :=
  pe_compG hcalm S hκ hi hg (fun s₀ H₀ C ex pins s σ H Q I h => wpAny_tests_nil ⟨H,I,h⟩) he hs
theorem pe_comp_if {tg elt iter c:Expr} {own caps:List Str} {κ:List Nat} {sc:Scope} {cl:List (Str × Addr)} {pos:Pos} {wi:TI} {g:TG} {tc:TT} {te:TE} (hcalm:X.calm = true) (S:BlkSc X caps sc cl) (hκ:κ.map (fun k => X.N[k]?) = caps.map some)
    (hi:PI X tg iter wi) (hg:∀ s₀ H₀ C ex,PG (blk X (own ++ caps) sc cl s₀ H₀ C ex) tg g) (hc:∀ s₀ H₀ C ex,PT (blk X (own ++ caps) sc cl s₀ H₀ C ex) c tc) (he:∀ s₀ H₀ C ex,PE (blk X (own ++ caps) sc cl s₀ H₀ C ex) elt te)
    (hs:∀ x,foldedSetIterable iter X.env x = pure x:=by intro _; rfl):PE X (.ListComp elt [⟨tg,iter,[c],0⟩] sc pos) (tComp own.length κ wi g tc te) :=
  pe_compG hcalm S hκ hi hg (fun s₀ H₀ C ex pins s σ H Q I h => wpAny_tests_one (hc s₀ H₀ C ex pins s σ H Q I h)) he hs
end
end L2
namespace L2
open PySem PySem.Spec PyProof.Rows
section
variable {X:Cx}
noncomputable def rSlS:V → Option Int → Option Int → Hp → VK → Prop:=fun x lo hi H Q => ∃ z,x = .str z ∧ z.length ≤ sizeLine ∧ Q (.str (Txt.slice z lo hi)) H
theorem sl_str:SlR X rSlS:=by
  intro pins s σ H x v vl vu lo hi sl Q I rx hs pl pu h
  obtain ⟨z,rfl,hz,q⟩:=h
  obtain ⟨t,rfl⟩:=rx
  have fin:∀ t' k,EP X pins σ Q (.str (Txt.slice z lo hi) t') { s with toks:=k }:=fun t' k => ⟨.str _,H,I.tok _,⟨_,rfl⟩,q⟩
  refine ⟨"str",_,F.slot_str_getitem.lookup,typeIs_str _ _ _,?_⟩
  cases pl with
  | none =>
    cases pu with
    | none => exact wpAny_getItem_str_slice (l:=none) (u:=none) (st:=none) hs rfl (post_val_or_str ⟨Nat.le_trans (Txt.slice_le z _ _) hz,fin⟩)
    | int j tj => exact wpAny_getItem_str_slice (l:=none) (u:=some (j,tj)) (st:=none) hs rfl (post_val_or_str ⟨Nat.le_trans (Txt.slice_le z _ _) hz,fin⟩)
  | int i ti =>
    cases pu with
    | none => exact wpAny_getItem_str_slice (l:=some (i,ti)) (u:=none) (st:=none) hs rfl (post_val_or_str ⟨Nat.le_trans (Txt.slice_le z _ _) hz,fin⟩)
    | int j tj => exact wpAny_getItem_str_slice (l:=some (i,ti)) (u:=some (j,tj)) (st:=none) hs rfl (post_val_or_str ⟨Nat.le_trans (Txt.slice_le z _ _) hz,fin⟩)
end
end L2
namespace L2
open PySem PySem.Spec PyProof.Rows
end L2
namespace L2
open PySem PySem.Spec PyProof.Rows
theorem comp_by {J:It} {xs:List V} {n:Nat} {κ:List Nat} {g:TG} {tc:TT} {te:TE} {σ:St} {H:Hp} {Q:VK} (Pv:Nat → List V → Hp → Prop) (h0:Pv 0 [] H) (hz:xs.length ≤ sizeLine) (hlen:∀ i ys H2,Pv i ys H2 → ys.length ≤ i)
    (hgo:∀ i x ys H2,xs[i]? = some x → Pv i ys H2 → J.go i H2) (hyl:∀ i ys x H2 H',i < xs.length → Pv i ys H2 → J.yld i H2 x H' → H' = H2 ∧ xs[i]? = some x) (hst:∀ ys H2,Pv xs.length ys H2 → J.stop xs.length H2)
    (hs:∀ i x ys H2 (N:List V → Hp → Prop),(∀ ys' H',Pv (i + 1) ys' H' → N ys' H') → xs[i]? = some x → Pv i ys H2 → g x (blkSt n κ σ) H2 fun σ4 H4 => σ4.drop n = (blkSt n κ σ).drop n ∧ tc σ4 H4 fun b H5 => if b = true then te σ4 H5 fun v H6 => N (ys ++ [v]) H6 else N ys H5)
    (hQ:∀ ys H2 D,Pv xs.length ys H2 → H2 D = none → Q (.ref D) (upd H2 D (.lst ys))) :
    CompRun n κ g tc te σ J H Q:=by
  refine ⟨fun i m ys H2 => m = xs.length - i ∧ i ≤ xs.length ∧ Pv i ys H2,⟨xs.length,rfl,Nat.zero_le _,h0⟩,?_⟩
  rintro i m ys H2 ⟨rfl,hi,p⟩
  by_cases hlt:i < xs.length
  · have e:xs[i]? = some xs[i]:=List.getElem?_eq_getElem hlt
    refine .inr ⟨hgo i _ ys H2 e p,Nat.lt_of_le_of_lt (hlen i ys H2 p) (Nat.lt_of_lt_of_le hlt hz),fun x H3 y => ?_⟩
    obtain ⟨rfl,ex⟩:=hyl i ys x H2 H3 hlt p y
    exact hs i x ys _ (fun ys' H' => ∃ m',m' < xs.length - i ∧ m' = xs.length - (i + 1) ∧ i + 1 ≤ xs.length ∧ Pv (i + 1) ys' H') (fun ys' H' p' => ⟨xs.length - (i + 1),by omega,rfl,hlt,p'⟩) ex p
  · obtain rfl:i = xs.length:=by omega
    exact .inl ⟨hst ys H2 p,fun D hD => hQ ys H2 D p hD⟩
noncomputable def rangeV (lo:Int) (n:Nat):List V:=(List.range n).map fun i => V.int (lo + (i:Nat))
theorem rangeV_len (lo:Int) (n:Nat):(rangeV lo n).length = n:=by simp [rangeV]
theorem rangeV_get {lo:Int} {n i:Nat} {x:V}:(rangeV lo n)[i]? = some x ↔ i < n ∧ x = .int (lo + i):=by
  unfold rangeV
  rw [List.getElem?_map]
  by_cases h:i < n
  · rw [List.getElem?_range h]
    simp [h,eq_comm]
  · rw [List.getElem?_eq_none (by simp; omega)]
    simp [h]
theorem itr_go {lo:Int} {n:Nat} {H:Hp} {i:Nat} {x:V} (h:(rangeV lo n)[i]? = some x):(Itr lo n).go i H:=(rangeV_get.mp h).1
theorem itr_yld' {lo:Int} {n:Nat} {H H':Hp} {i:Nat} {x:V} (hi:i < n) (h:(Itr lo n).yld i H x H'):H' = H ∧ (rangeV lo n)[i]? = some x:=⟨h.1,rangeV_get.mpr ⟨hi,h.2⟩⟩
section
variable {X:Cx}
end
end L2
namespace L2
open PySem PySem.Spec PyProof.Rows
mutual
inductive Dat (K:PySem.W.Frag) (H:Hp):V → PyData → Prop
  | non:Dat K H .non .none
  | bl (b:Bool):Dat K H (.bl b) (.bool b)
  | int (i:Int):Dat K H (.int i) (.int i)
  | str (x:Str):Dat K H (.str x) (.str x)
  | tup {a:Addr} {xs:List V} {ds:List PyData}:SqT K H a xs → Dats K H xs ds → Dat K H (.ref a) (.tuple ds)
  | lst {a:Addr} {xs:List V} {ds:List PyData}:SqL K H a xs → Dats K H xs ds → Dat K H (.ref a) (.list ds)
inductive Dats (K:PySem.W.Frag) (H:Hp):List V → List PyData → Prop
  | nil:Dats K H [] []
  | cons {x:V} {d:PyData} {xs:List V} {ds:List PyData}:Dat K H x d → Dats K H xs ds → Dats K H (x :: xs) (d :: ds)
end
theorem Same.tup {K:PySem.W.Frag} {H H':Hp} {a:Addr} {xs:List V} (e:Same H H') (h:SqT K H a xs):SqT K H' a xs:=by
  rcases h with (h | ⟨o,h⟩) | h
  · exact .inl (.inl (e _ _ h))
  · exact .inl (.inr ⟨o,e _ _ h⟩)
  · exact .inr h
mutual
theorem Dat.same {K:PySem.W.Frag} {H H':Hp} (e:Same H H'):∀ {x:V} {d:PyData},Dat K H x d → Dat K H' x d
  | _,_,.non => .non
  | _,_,.bl b => .bl b
  | _,_,.int i => .int i
  | _,_,.str x => .str x
  | _,_,.tup h r => .tup (e.tup h) (Dats.same e r)
  | _,_,.lst h r => .lst (e.seq h) (Dats.same e r)
theorem Dats.same {K:PySem.W.Frag} {H H':Hp} (e:Same H H'):∀ {xs:List V} {ds:List PyData},Dats K H xs ds → Dats K H' xs ds
  | _,_,.nil => .nil
  | _,_,.cons h r => .cons (Dat.same e h) (Dats.same e r)
end
section
variable {X:Cx} {pins:List (Addr × Obj)} {σ:St} {H:Hp} {s:Shared}
mutual
theorem Dat.reads (I:Inv X pins σ H s):∀ {x:V} {d:PyData} {v:Value},Dat X.K H x d → RelV x v → ∃ as,Reads s.heap v d as
  | _,_,_,.non,r => by cases r; exact ⟨_,.none⟩
  | _,_,_,.bl b,r => by cases r; exact ⟨_,.bool b⟩
  | _,_,_,.int i,r => by obtain ⟨t,rfl⟩:=r; exact ⟨_,.int i t⟩
  | _,_,_,.str x,r => by obtain ⟨t,rfl⟩:=r; exact ⟨_,.str x t⟩
  | _,_,_,.tup hq ds,r => by
    cases r
    obtain ⟨its,rv,p,_⟩:=I.tuple hq
    obtain ⟨as,q⟩:=Dats.reads I ds rv
    obtain ⟨o,e,c,n,dt⟩:=p
    exact ⟨as,.tuple e c dt (by simpa using q)⟩
  | _,_,_,.lst hq ds,r => by
    cases r
    obtain ⟨its,rv,p,_⟩:=I.list hq
    obtain ⟨as,q⟩:=Dats.reads I ds rv
    obtain ⟨o,n,e,c,_,dt⟩:=p
    exact ⟨_,.list e c dt (by simpa using q)⟩
theorem Dats.reads (I:Inv X pins σ H s):∀ {xs:List V} {ds:List PyData} {vs:List Value},Dats X.K H xs ds → Vals xs vs → ∃ as,ReadsAll s.heap vs ds as
  | _,_,_,.nil,r => by cases r; exact ⟨_,.nil⟩
  | _,_,_,.cons h t,r => by
    cases r with
    | cons r1 r2 =>
      obtain ⟨as,q⟩:=Dat.reads I h r1
      obtain ⟨bs,q2⟩:=Dats.reads I t r2
      exact ⟨_,.cons q q2⟩
end
end
section
variable {X:Cx}
noncomputable def rEqD (K:PySem.W.Frag) (neg:Bool):R2:=fun x y H Q => ∃ dx dy,Dat K H x dx ∧ Dat K H y dy ∧ SeqAt.shaped dx = true ∧ SeqAt.shaped dy = true ∧ Q (.bl (if neg then !PyData.eqv dx dy else PyData.eqv dx dy)) H
theorem op_eqD (hu:X.A.units + 64 < cLine):OpR X (compareOp .Eq) (rEqD X.K false):=by
  intro pins s σ H x y v u Q I rx ry h
  obtain ⟨dx,dy,hx,hy,sx,sy,q⟩:=h
  obtain ⟨as,ra⟩:=Dat.reads I hx rx
  obtain ⟨bs,rb⟩:=Dat.reads I hy ry
  exact eq_dataH ra rb sx sy hu ⟨.bl _,H,I,rfl,q⟩
theorem op_neD (hu:X.A.units + 64 < cLine):OpR X (compareOp .NotEq) (rEqD X.K true):=by
  intro pins s σ H x y v u Q I rx ry h
  obtain ⟨dx,dy,hx,hy,sx,sy,q⟩:=h
  obtain ⟨as,ra⟩:=Dat.reads I hx rx
  obtain ⟨bs,rb⟩:=Dat.reads I hy ry
  exact ne_dataH ra rb sx sy hu ⟨.bl _,H,I,rfl,q⟩
end
end L2
namespace L2
open PySem PySem.Spec PyProof.Rows
section
variable {X:Cx}
open Classical in
theorem op_mulS:OpR X (binaryOp .Mult) (fun x y H Q => ∃ z n,x = .str z ∧ y = .int n ∧ MulOk z n ∧ Q (.str (Txt.mul z n)) H):=by
  intro pins s σ H x y v u Q I rx ry h
  obtain ⟨z,n,rfl,rfl,hm,q⟩:=h
  obtain ⟨t,rfl⟩:=rx
  obtain ⟨t',rfl⟩:=ry
  exact SB.mul hm fun t' k => ⟨.str _,H,I.tok _,⟨_,rfl⟩,q⟩
theorem mulOk_small {z:Str} {n:Int} (h0:0 ≤ n) (h1:n ≤ 1000) (h2:z.length ≤ 1000):MulOk z n:=by
  refine ⟨?_,fun h3 _ => ?_,fun _ _ => ?_⟩
  · rw [decide_eq_false (by omega),decide_eq_false (by omega)] <;> rfl
  · have hn:0 < n:=by omega
    have hm:(z.length:Int) * n ≤ 1000 * 1000:=Int.mul_le_mul (by omega) h1 h0 (by decide)
    have e:(z.length:Int) ≤ (2 ^ 63 - 1) / n:=Int.le_ediv_of_mul_le hn (by omega)
    omega
  · unfold Builtin.Str.tooLong sizeLine
    refine decide_eq_false ?_
    have:z.length * n.toNat ≤ 1000 * 1000:=Nat.mul_le_mul h2 (by omega)
    omega
end
end L2
namespace L2
open PySem PySem.Spec PyProof.Rows
noncomputable def RawD (h:Heap) (d:Addr) (es:Array DictEntry) (ep:Nat):Prop:=∃ o,h.get? d = some o ∧ o.ExactDict ∧ o.data = .dict es ep
theorem RawD.at {h h':Heap} {d:Addr} {es:Array DictEntry} {ep:Nat} (x:RawD h d es ep) (k:∀ o,h.get? d = some o → h'.get? d = some o):RawD h' d es ep:=let ⟨o,e,r⟩:=x; ⟨o,k _ e,r⟩
theorem RawD.lt {h:Heap} {d:Addr} {es:Array DictEntry} {ep:Nat} (x:RawD h d es ep):d < h.objs.size:=let ⟨_,e,_⟩:=x; Heap.lt_size e
section
variable {prog:Program} {w:World} {A:Around} {E:Value → Shared → Prop} {s:Shared}
theorem raw_iter {d:Addr} {es:Array DictEntry} {ep:Nat} {Q:Value → Shared → Prop} (hd:(d == sysModules) = false) (hm:RawD s.heap d es ep)
    (hQ:Q (.ref s.heap.objs.size) { s with heap:=s.heap.push { cls:=.type "dict_keyiterator",data:=.fields #[.ref d,.int 0 0,.int es.size 0,.int ep 0] } }):wpAny (model prog w) A (pyIter (.ref d)) Q E s:=by
  obtain ⟨o,ho,hx,hdat⟩:=hm
  have tyD:s.TypeIs (.ref d) "dict":=⟨o,ho,hx.1⟩
  refine wpAny_pyIter_slot tyD F.slot_dict_iter (wpAny_call_entry F.slot_dict_iter tyD F.entry_dict_iter ?_ (F.args_dict_iter_1 _))
  unfold Builtin.«dict.__iter__» Builtin.Dict.dictSlotNone
  refine wpAny_bind (wpAny_bind (wpAny_notOrdered_dict tyD ?_))
  refine wpAny_pure (show wpAny _ _ (Builtin.Dict.showsAll d >>= _) _ _ s from ?_)
  unfold Builtin.Dict.showsAll
  rw [if_neg (fun z => Bool.false_ne_true (hd.symm.trans z))]
  refine wpAny_bind (wpAny_pure (wpAny_bind (wpAny_dictEntries ho hdat (wpAny_bind (wpAny_dictEpoch ho hdat ?_)))))
  exact wpAny_bind (wpAny_newObj_type (wpAny_pure ⟨_,rfl,"dict_keyiterator",_,⟨_,Heap.get?_push_size _ rfl,rfl⟩,F.slot_dict_keyiterator_next.lookup,hQ⟩))
theorem raw_item {it d:Addr} {i ep:Nat} {es:Array DictEntry} {Q:Option Value → Shared → Prop} (hit:s.heap.IsKeyIter it d i es.size ep) (hm:RawD s.heap d es ep) (hi:i < es.size)
    (hQ:∀ h',h'.IsKeyIter it d (i + 1) es.size ep → Heap.SameBut it s.heap h' → Q (some es[i].key) { s with heap:=h' }):wpAny (model prog w) A (pyNext (.ref it)) Q E s:=by
  have tyI:=hit.typeIs
  obtain ⟨oi,hoi,hci,hdi⟩:=id hit
  obtain ⟨od,hod,_,hdd⟩:=hm
  unfold pyNext
  refine wpAny_bind (wpAny_attempt (wpAny_callSpecial?_slot (name:=Str.ofString "__next__") tyI F.slot_dict_keyiterator_next (wpAny_call_entry F.slot_dict_keyiterator_next tyI F.entry_dict_keyiterator_next ?_ (F.args_dict_keyiterator_next_1 _))))
  refine wpAny_bind (wpAny_pure (wpAny_bind (wpAny_bind ?_)))
  first | refine wpAny_bind (wpAny_typeNameOfWhole_keyiter tyI (wpAny_pure ?_)) | refine wpAny_bind (wpAny_typeNameOf_keyiter tyI (wpAny_pure ?_))
  refine wpAny_bind (wpAny_fieldsOf hoi hdi ?_)
  simp only [show Builtin.Dict_items.ownsTuple "dict_keyiterator" = false from by decide,Bool.false_eq_true,if_false]
  show wpAny _ _ (if (Value.ref d == .none) = true then _ else _) _ _ s
  have ne0:¬ ((Value.ref d == Value.none) = true):=fun z => Bool.false_ne_true z
  rw [if_neg ne0]
  refine wpAny_bind (wpAny_pure (wpAny_bind (wpAny_dictEntries hod hdd ?_)))
  rw [if_neg (by simp)]
  refine wpAny_bind (wpAny_pure (wpAny_bind (wpAny_dictEpoch hod hdd ?_)))
  rw [if_neg (by simp)]
  refine wpAny_pure ?_
  simp only [show ¬ ((i:Int) < 0) from Int.not_lt.mpr (Int.natCast_nonneg i),if_false,Int.toNat_natCast,Array.getElem?_eq_getElem hi]
  refine wpAny_bind ?_
  first | refine wpAny_bind (wpAny_typeNameOfWhole_keyiter tyI (wpAny_pure ?_)) | refine wpAny_bind (wpAny_typeNameOf_keyiter tyI (wpAny_pure ?_))
  refine wpAny_bind (wpAny_isOneOf_keyiter tyI ?_)
  refine (show wpAny _ _ (setField (.ref it) 1 (rawInt ((i:Int) + 1)) >>= _) _ _ s from wpAny_bind (wpAny_setField hoi hdi (by simp) ?_))
  have new:(s.heap.update it (Obj.mapFields (·.setIfInBounds 1 (rawInt ((i:Int) + 1))))).IsKeyIter it d (i + 1) es.size ep :=
    ⟨_,Heap.get?_update_self _ hoi (Obj.isFreed_of_fields (Obj.data_mapFields hdi _)),(Obj.cls_mapFields ..).trans hci,by rw [Obj.data_mapFields hdi]; simp [rawInt]⟩
  refine wpAny_bind (wpAny_holding (wpAny_bind (wpAny_isOneOf_keyiter (s:={ s with heap:=s.heap.update it (Obj.mapFields (·.setIfInBounds 1 (rawInt ((i:Int) + 1)))) }) new.typeIs ?_)))
  exact (show wpAny _ _ (pure es[i].key) _ _ _ from wpAny_pure (wpAny_pure ⟨_,rfl,wpAny_pure (hQ _ new (Heap.SameBut.update ..))⟩))
theorem raw_end {it d:Addr} {i ep:Nat} {es:Array DictEntry} {Q:Option Value → Shared → Prop} (hh:A.handled = none) (hit:s.heap.IsKeyIter it d i es.size ep) (hm:RawD s.heap d es ep) (hi:es.size ≤ i)
    (hF:∀ h',Heap.ExtBut it s.heap h' → Q none { s with heap:=h' }):wpAny (model prog w) A (pyNext (.ref it)) Q E s:=by
  have tyI:=hit.typeIs
  obtain ⟨oi,hoi,hci,hdi⟩:=id hit
  obtain ⟨od,hod,_,hdd⟩:=hm
  unfold pyNext
  refine wpAny_bind (wpAny_attempt (wpAny_callSpecial?_slot (name:=Str.ofString "__next__") tyI F.slot_dict_keyiterator_next (wpAny_call_entry F.slot_dict_keyiterator_next tyI F.entry_dict_keyiterator_next ?_ (F.args_dict_keyiterator_next_1 _))))
  refine wpAny_bind (wpAny_pure (wpAny_bind (wpAny_bind ?_)))
  first | refine wpAny_bind (wpAny_typeNameOfWhole_keyiter tyI (wpAny_pure ?_)) | refine wpAny_bind (wpAny_typeNameOf_keyiter tyI (wpAny_pure ?_))
  refine wpAny_bind (wpAny_fieldsOf hoi hdi ?_)
  simp only [show Builtin.Dict_items.ownsTuple "dict_keyiterator" = false from by decide,Bool.false_eq_true,if_false]
  show wpAny _ _ (if (Value.ref d == .none) = true then _ else _) _ _ s
  have ne0:¬ ((Value.ref d == Value.none) = true):=fun z => Bool.false_ne_true z
  rw [if_neg ne0]
  refine wpAny_bind (wpAny_pure (wpAny_bind (wpAny_dictEntries hod hdd ?_)))
  rw [if_neg (by simp)]
  refine wpAny_bind (wpAny_pure (wpAny_bind (wpAny_dictEpoch hod hdd ?_)))
  rw [if_neg (by simp)]
  refine wpAny_pure ?_
  simp only [show ¬ ((i:Int) < 0) from Int.not_lt.mpr (Int.natCast_nonneg i),if_false,Int.toNat_natCast,Array.getElem?_eq_none hi]
  refine wpAny_bind ?_
  first | refine wpAny_bind (wpAny_typeNameOfWhole_keyiter tyI (wpAny_pure ?_)) | refine wpAny_bind (wpAny_typeNameOf_keyiter tyI (wpAny_pure ?_))
  refine (show wpAny _ _ (setField (.ref it) 0 .none >>= _) _ _ s from wpAny_bind (wpAny_setField hoi hdi (by simp) ?_))
  refine (show wpAny _ _ (newExc (.type "StopIteration") [] >>= _) _ _ _ from wpAny_bind ?_)
  simp only [newExc,newTuple]
  refine wpAny_bind (wpAny_newObj_type (dict:=none) ?_ (by size_fits))
  refine wpAny_bind (m:=firstArgMember _ _) (wpAny_of_eq (a:=Value.none) (by first | rfl | (simp only [firstArgMember]; rfl)) (wpAny_newObj_type ?_ (by size_fits)))
  simp only [raiseNew]
  refine wpAny_bind (m:=_) (wpAny_handled ?_)
  rw [(show A.in1.handled = none from hh)]
  refine wpAny_bind (wpAny_pure (wpAny_throw (wpAny_bind ?_)))
  refine wpAny_isInstance (b:=true) (T:="StopIteration") ⟨_,Heap.get?_push_size _ rfl,rfl⟩ isSubtype_stop ?_
  exact wpAny_pure (hF _ (((Heap.SameBut.update ..).extBut.push _).push _))
theorem Walks.raw (hh:A.handled = none) (I d:Addr) (hne:d ≠ I) (es:Array DictEntry) (ep:Nat) :
    Walks prog w A I [I,d] [I] es.size (fun i v => ∃ e,es[i]? = some e ∧ v = e.key) (fun i h => h.IsKeyIter I d i es.size ep ∧ RawD h d es ep) where
  sub:=fun b hb => List.mem_cons.mpr (.inl (List.mem_singleton.mp hb))
  frame:=fun _ _ _ st hk => ⟨st.1.at fun o e => hk I List.mem_cons_self o e,st.2.at fun o e => hk d (List.mem_cons_of_mem _ List.mem_cons_self) o e⟩
  item:=fun i s Q E hi st hQ => raw_item st.1 st.2 hi fun h' new sb => hQ _ h' s.toks ⟨es[i],Array.getElem?_eq_getElem hi,rfl⟩ ⟨new,st.2.at fun o e => sb.extBut d o hne e⟩ fun b o hb e => sb.extBut b o (fun z => hb (List.mem_singleton.mpr z)) e
  done:=fun s Q E st hQ => raw_end hh st.1 st.2 (Nat.le_refl _) fun h' eb => hQ h' s.toks fun b o hb e => eb b o (fun z => hb (List.mem_singleton.mpr z)) e
  self:=fun _ _ _ _ st q => wpAny_pyIter_keyiter st.1 q
theorem kdl_raw {d:Addr} {es:Array DictEntry} {ep:Nat} (lo:(d == sysModules) = false):PySem.W.KdlSrc prog w "dict" d d es.size (fun i v => ∃ e,es[i]? = some e ∧ v = e.key) (fun h => RawD h d es ep) where
  type:=fun _ hm => let ⟨o,e,x,_⟩:=hm; ⟨o,e,x.1⟩
  there:=fun _ hm => ⟨hm.lt,hm.lt⟩
  keep:=fun _ _ hm hk => hm.at fun o e => hk d (.inl rfl) o e
  notList:=by decide
  notTuple:=by decide
  hint:=fun _ _ _ _ hm hq => PySem.W.kdl_hint_dict (let ⟨o,e,x,_⟩:=hm; ⟨o,e,x.1⟩) hq
  iter:=fun _ _ hh hm => ⟨_,_,(fun _ _ hq => raw_iter lo hm hq),Walks.raw hh _ d (Nat.ne_of_lt hm.lt) es ep,⟨⟨_,Heap.get?_push_size _ rfl,rfl,rfl⟩,hm.at fun o e => Heap.get?_push_of_some _ e⟩⟩
end
end L2
namespace L2
open PySem PySem.Spec PyProof.Rows
section
variable {X:Cx}
theorem call_list_dT (hc:X.calm = true):CallR X (.type "list") (fun xs H Q => ∃ a kvs,xs = [.ref a] ∧ H a = some (.dT kvs) ∧
    ∀ (ks:List Addr) l,H l = none → Paired (fun (p:List Key × V) (k:Addr) => H k = some (.tup (p.1.map kV))) kvs ks → Q (.ref l) (upd H l (.lst (ks.map V.ref)))):=by
  intro pins s σ H xs us Q I r h
  obtain ⟨a,kvs,rfl,ha,q⟩:=h
  obtain ⟨u,rfl,ru⟩:=vals1 r
  cases ru
  obtain ⟨z,hd,ys,rel,o,es,ep,e,ex,dt,eqs,_⟩:=I.hok a _ ha
  have hlen:es.size = ys.length:=by
    have:=congrArg List.length eqs
    rw [List.length_map] at this
    simpa using this
  have hl2:kvs.length = ys.length:=Paired.length rel
  refine PySem.W.kdl_call (kdl_raw hd) (I.ok.hd hc) ⟨o,e,ex,dt⟩ (by rw [hlen,← hl2]; exact z) fun h' tk acc' c' hk hD hacc => ?_
  have eacc:acc'.toList = ys.map fun y => Value.ref y.2.1:=by
    apply List.ext_getElem?
    intro j
    rw [List.getElem?_map]
    by_cases hj:j < ys.length
    · have hj2:j < acc'.size:=by rw [hacc.1,hlen]; exact hj
      obtain ⟨en,hen,hv⟩:=hacc.2 j acc'[j] (Array.getElem?_eq_getElem hj2)
      have e1:es.toList[j]? = some en:=by rw [← hen]; simp
      rw [eqs,List.getElem?_map,List.getElem?_eq_getElem hj] at e1
      have e2:=Option.some.inj e1
      rw [show acc'.toList[j]? = some acc'[j] by simp [hj2],hv,← e2,List.getElem?_eq_getElem hj]
      rfl
    · rw [List.getElem?_eq_none (by rw [Array.length_toList,hacc.1,hlen]; omega),List.getElem?_eq_none (by omega)]
      rfl
  have rk:∀ {kvs:List (List Key × V)} {ys:List (List Key × Addr × Value)},Paired (fun (p:List Key × V) (q:List Key × Addr × Value) => p.1 = q.1 ∧ H q.2.1 = some (.tup (p.1.map kV)) ∧ RelV p.2 q.2.2) kvs ys →
      Paired (fun (p:List Key × V) (k:Addr) => H k = some (.tup (p.1.map kV))) kvs (ys.map fun y => y.2.1):=fun {kvs ys} p => by
    induction p with
    | nil => exact .nil
    | cons h _ ih => exact .cons h.2.1 ih
  have vr:∀ ks:List Addr,Vals (ks.map V.ref) (ks.map Value.ref):=fun ks => by
    induction ks with
    | nil => exact .nil
    | cons k ks ih => exact .cons rfl ih
  refine ⟨.ref s.heap.objs.size,_,I.laid (o:=.lst ((ys.map fun y => y.2.1).map V.ref)) hk (Nat.le_refl _) ?_,rfl,q _ _ (I.hok.fresh (Nat.le_refl _)) (rk rel)⟩
  refine ⟨by rw [List.length_map,List.length_map,← hl2]; exact z,_,c',vr _,?_⟩
  rw [hD,show acc' = ((ys.map fun y => y.2.1).map Value.ref).toArray from by rw [List.map_map,← Array.toArray_toList (xs:=acc'),eacc]; rfl]
end
end L2
namespace Kk
open PySem L2
inductive Kd where
  | num (n:Int)
  | name (q t:Str)
  | pair (a b:Kd)
  deriving DecidableEq
noncomputable def Kd.words:Kd → Nat
  | .num _ => 1
  | .name _ _ => 1
  | .pair a b => 1 + a.words + b.words
noncomputable def Kd.leaves:Kd → List Kd
  | .num n => [.num n]
  | .name q t => [.name q t]
  | .pair a b => a.leaves ++ b.leaves
noncomputable def Kd.leaf:Kd → Bool
  | .pair _ _ => false
  | _ => true
theorem words_leaves:∀ k:Kd,k.words + 1 = 2 * k.leaves.length
  | .num _ => rfl
  | .name _ _ => rfl
  | .pair a b => by
    have h1:=words_leaves a
    have h2:=words_leaves b
    show 1 + a.words + b.words + 1 = 2 * (a.leaves ++ b.leaves).length
    rw [List.length_append]
    omega
theorem leaves_pos:∀ k:Kd,0 < k.leaves.length
  | .num _ => Nat.zero_lt_one
  | .name _ _ => Nat.zero_lt_one
  | .pair a b => by
    have h1:=leaves_pos a
    show 0 < (a.leaves ++ b.leaves).length
    rw [List.length_append]
    omega
inductive KdAt (K:PySem.W.Frag) (H:Hp):V → Kd → Prop
  | num {a:Addr} {n:Int}:SqT K H a [.str "num",.int n] → KdAt K H (.ref a) (.num n)
  | name {a:Addr} {q t:Str}:SqT K H a [.str "name",.str q,.str t] → KdAt K H (.ref a) (.name q t)
  | pair {a:Addr} {x y:V} {k l:Kd}:SqT K H a [.str "pair",x,y] → KdAt K H x k → KdAt K H y l → KdAt K H (.ref a) (.pair k l)
theorem KdAt.same {K:PySem.W.Frag} {H H':Hp} (e:Same H H'):∀ {x:V} {k:Kd},KdAt K H x k → KdAt K H' x k
  | _,_,.num h => .num (e.tup h)
  | _,_,.name h => .name (e.tup h)
  | _,_,.pair h a b => .pair (e.tup h) (a.same e) (b.same e)
inductive KdsAt (K:PySem.W.Frag) (H:Hp):List V → List Kd → Prop
  | nil:KdsAt K H [] []
  | cons {x:V} {k:Kd} {xs:List V} {ks:List Kd}:KdAt K H x k → KdsAt K H xs ks → KdsAt K H (x :: xs) (k :: ks)
theorem KdsAt.same {K:PySem.W.Frag} {H H':Hp} (e:Same H H'):∀ {xs:List V} {ks:List Kd},KdsAt K H xs ks → KdsAt K H' xs ks
  | _,_,.nil => .nil
  | _,_,.cons a b => .cons (a.same e) (b.same e)
theorem KdsAt.length {K:PySem.W.Frag} {H:Hp}:∀ {xs:List V} {ks:List Kd},KdsAt K H xs ks → xs.length = ks.length
  | _,_,.nil => rfl
  | _,_,.cons _ b => congrArg (· + 1) b.length
theorem KdsAt.append {K:PySem.W.Frag} {H:Hp}:∀ {xs ys:List V} {ks ls:List Kd},KdsAt K H xs ks → KdsAt K H ys ls → KdsAt K H (xs ++ ys) (ks ++ ls)
  | _,_,_,_,.nil,h => h
  | _,_,_,_,.cons a b,h => .cons a (b.append h)
end Kk
namespace L2
open PySem PySem.Spec PyProof.Rows
section
variable {α β:Type} {P:Shared → Prop}
noncomputable def Keeps (P:Shared → Prop) (t:Sem α):Prop:=∀ (M:Model) (Γ:PySem.Ctx) (Q:α → Pos → Shared → Prop) (E:Value → Pos → Shared → Prop) (p:Pos) (s:Shared),P s → Sem.wp M Γ t Q E p s →
  Sem.wp M Γ t (fun a p' s' => Q a p' s' ∧ P s') (fun e p' s' => E e p' s' ∧ P s') p s
theorem Keeps.ret (a:α):Keeps P (Pure.pure a:Sem α):=fun _ _ _ _ _ _ h q => ⟨q,h⟩
theorem Keeps.no (x:String):Keeps P (unsupported x:Sem α):=fun _ _ _ _ _ _ _ q => False.elim q
theorem Keeps.then {m:Sem α} {f:α → Sem β} (hm:Keeps P m) (hf:∀ a,Keeps P (f a)):Keeps P (m >>= f):=fun M Γ Q E p s h q => by
  rw [Sem.wp_bind'] at q ⊢
  exact Sem.wp_mono M Γ m (fun a p' s' z => hf a M Γ Q E p' s' z.2 z.1) (fun _ _ _ z => z) p s (hm M Γ _ E p s h q)
theorem Keeps.ld (a:Addr):Keeps P (load a):=fun _ _ _ _ _ _ h ⟨o,e,q⟩ => ⟨o,e,q,h⟩
theorem Keeps.stk:Keeps P stack:=fun _ _ _ _ _ _ h q => ⟨q,h⟩
theorem Keeps.ite {c:Prop} [Decidable c] {a b:Sem α} (ha:Keeps P a) (hb:Keeps P b):Keeps P (if c then a else b):=by split <;> assumption
theorem Keeps.wpAny {t:Sem α} (k:Keeps P t) {M:Model} {A:Around} {Q:α → Shared → Prop} {E:Value → Shared → Prop} {s:Shared} (hp:P s) (h:wpAny M A t Q E s):wpAny M A t (fun a s' => Q a s' ∧ P s') (fun e s' => E e s' ∧ P s') s :=
  fun Γ p hΓ => k M Γ _ _ p s hp (h Γ p hΓ)
noncomputable def DictIs (x:Addr) (d:Option Addr) (s:Shared):Prop:=∃ ob,s.heap.get? x = some ob ∧ ob.dict = d
variable {x:Addr} {d:Option Addr}
theorem Keeps.up {a:Addr} {f:Obj → Obj} (hf:∀ o:Obj,o.isFreed = false → (f o).dict = o.dict ∧ (f o).isFreed = false):Keeps (DictIs x d) (update a f):=fun _ _ _ _ _ s h q => by
  refine ⟨q.1,q.2,?_⟩
  obtain ⟨ob,e,hd⟩:=h
  have hfr:=(Heap.get?_some_iff.mp e).2
  by_cases hx:a = x
  · subst hx
    exact ⟨_,Heap.get?_update_self f e (hf ob hfr).2,(hf ob hfr).1.trans hd⟩
  · exact ⟨ob,(Heap.get?_update_other _ f hx).trans e,hd⟩
theorem Keeps.new {o:Obj}:Keeps (DictIs x d) (alloc o):=fun _ _ _ _ _ s h q => by
  obtain ⟨ob,e,hd⟩:=h
  exact ⟨q,ob,Heap.get?_push_of_some _ e,hd⟩
theorem Keeps.flds {v:Value}:Keeps P (fieldsOf v):=by
  unfold fieldsOf
  split
  · refine Keeps.then (Keeps.ld _) fun o => ?_
    split
    · exact Keeps.ret _
    · exact Keeps.no _
  · exact Keeps.no _
theorem Keeps.fld {v:Value} {i:Nat}:Keeps P (field v i):=by
  unfold field
  refine Keeps.then Keeps.flds fun vs => ?_
  split
  · exact Keeps.ret _
  · exact Keeps.no _
theorem Keeps.setF {v u:Value} {i:Nat}:Keeps (DictIs x d) (setField v i u):=by
  unfold setField
  split
  · unfold updateField
    refine Keeps.then (Keeps.ld _) fun o => ?_
    split
    · refine Keeps.ite (Keeps.up fun o ho => ?_) (Keeps.no _)
      obtain ⟨c,dd,dt,sl⟩:=o
      cases dt <;> exact ⟨rfl,ho⟩
    · exact Keeps.no _
  · exact Keeps.no _
theorem Keeps.flight {e:Value} {f:Option Addr}:Keeps (DictIs x d) (setFlight e f):=by
  unfold setFlight
  exact Keeps.then Keeps.fld fun tb => Keeps.ite Keeps.setF (Keeps.ret _)
theorem Keeps.ready:∀ l:List Env,Keeps (DictIs x d) (readyFrames l)
  | [] => Keeps.ret _
  | env :: outer => by
    unfold readyFrames
    split
    · refine Keeps.then (Keeps.ld _) fun o => Keeps.ite (Keeps.ret _) (Keeps.then ?_ fun im => Keeps.then ?_ fun bk => Keeps.then (Keeps.up fun o ho => ⟨rfl,by obtain ⟨c,dd,dt,sl⟩:=o; cases dt <;> first | rfl | exact ho⟩) fun _ => Keeps.ready outer)
      · unfold behindIsImport
        exact Keeps.ite (Keeps.ret _) (Keeps.ite (Keeps.ret _) (Keeps.then Keeps.fld fun _ => Keeps.ret _))
      · cases outer with
        | nil =>
          unfold keptBack
          refine Keeps.ite (Keeps.ret _) (Keeps.then ?_ fun _ => Keeps.ret _)
          unfold underTheClaimsCaller
          exact Keeps.then Keeps.stk fun _ => Keeps.ret _
        | cons c r => exact Keeps.ret _
    · exact Keeps.no _
theorem Keeps.frame {env:Env}:Keeps (DictIs x d) (PySem.frameOf env):=by
  unfold PySem.frameOf
  refine Keeps.then (Keeps.then Keeps.stk fun _ => Keeps.ret _) fun l => Keeps.then ?_ fun r => ?_
  · generalize l.dropWhile (fun y => y.frame != env.frame) = l2
    cases l2 with
    | nil => exact Keeps.ret _
    | cons e r => exact Keeps.then (Keeps.ready (e :: r)) fun _ => Keeps.ret _
  · split
    · exact Keeps.ret _
    · exact Keeps.no _
theorem Keeps.entry {a b c e f:Value} {pl:List Value}:Keeps (DictIs x d) (EntryCells.newEntry a b c e f pl):=by
  unfold EntryCells.newEntry newFields newObj
  have st:∀ (dt:Data) (dd:Option Addr),Keeps (DictIs x d) (newObjAsIs (.type "traceback") dt dd):=fun dt dd => by
    unfold newObjAsIs
    exact Keeps.then Keeps.new fun a => Keeps.ret _
  exact Keeps.ite (Keeps.then (Keeps.no _) fun _ => st _ _) (st _ _)
theorem Keeps.note {e:Value} {env:Env}:Keeps (DictIs x d) (noteFrame e env):=by
  unfold noteFrame
  split
  · rename_i fr _
    refine Keeps.then Keeps.fld fun hd => ?_
    have go:Keeps (DictIs x d) (do setField e 1 (← EntryCells.newEntry hd (← PySem.frameOf env) .none (rawInt fr) .none (← entryPlaceOf fr (hd != .none)))) :=
      Keeps.then Keeps.frame fun _ => Keeps.then (by
        unfold entryPlaceOf
        refine Keeps.then Keeps.stk fun _ => ?_
        split
        · exact Keeps.ret _
        · exact Keeps.ret _) fun _ => Keeps.then Keeps.entry fun _ => Keeps.setF
    exact Keeps.ite (Keeps.then Keeps.fld fun _ => Keeps.ite (Keeps.ret _) (Keeps.then Keeps.setF fun _ => go)) go
  · exact Keeps.no _
theorem Keeps.leave {e:Value} {env:Env}:Keeps (DictIs x d) (leaving env e):=by
  unfold leaving
  exact Keeps.then Keeps.note fun _ => Keeps.flight
end
end L2
namespace L2
open PySem PySem.Spec PyProof.Rows
section
variable {P:Program} {w:World}
theorem ObjOk.there {H:Hp} {h:Heap} {a:Addr} {o:HO} (x:ObjOk P w H h a o):∃ u,h.get? a = some u:=by
  cases o with
  | lst xs => obtain ⟨_,_,_,_,e⟩:=x; exact ⟨_,e⟩
  | tup xs => obtain ⟨_,_,_,ob,e,_⟩:=x; exact ⟨_,e⟩
  | dK kvs => obtain ⟨_,_,_,_,o,_,_,e,_⟩:=x; exact ⟨_,e⟩
  | dT kvs => obtain ⟨_,_,_,_,o,_,_,e,_⟩:=x; exact ⟨_,e⟩
  | set S n => obtain ⟨o,_,_,_,e,_⟩:=x; exact ⟨_,e⟩
  | ins C dx fs => obtain ⟨_,_,_,e,_⟩:=x; exact ⟨_,e⟩
  | own y => exact x
  | xd fs => obtain ⟨_,⟨_,_,_,e,_⟩,_⟩:=x; exact ⟨_,e⟩
  | rng lo hi => obtain ⟨_,_,_,e⟩:=x; exact ⟨_,e⟩
  | frz ob u => obtain ⟨e,_⟩:=x; exact ⟨_,e⟩
  | tbl ps => exact ⟨_,(show h.get? a = some _ from x)⟩
  | met f y => exact ⟨_,(show h.get? a = some _ from x)⟩
  | ext φ => obtain ⟨_,e,_⟩:=x; exact e
structure Fly (P:Program) (w:World) (outer:List Env) (H:Hp) (s:Shared) (x:Addr) (cls:Value) (H':Hp) (s':Shared):Prop where
  os:s'.os = s.os
  bare:AllBare s'.gens
  un:Un (frs outer) [] H H' s.heap s'.heap
  hok:HOk P w H' s'.heap
  fl:∃ B a0,Heap.FlyingW B outer x cls a0 s'.heap ∧ (∀ b o,H' b = some o → ∃ u,B.get? b = some u) ∧ ∀ b o,s.heap.get? b = some o → b ∉ frs outer → ∃ u,B.get? b = some u
  free:H' x = none
noncomputable def CX1 (P:Program) (w:World):CXT:=fun outer H s E e s' => ∃ x cls d H',e = .ref x ∧ Fly P w outer H s x cls H' s' ∧ DictIs x d s' ∧ E cls d H'
end
section
variable {X:Cx} {pins:List (Addr × Obj)} {σ:St} {H H':Hp} {s s':Shared} {x:Addr} {cls:Value} {E:Value → Shared → Prop} {Q:Unit → Shared → Prop}
theorem Inv.notSt (I:Inv X pins σ H s) {b:Addr} (h1:b ≠ X.env.locals) (h2:b ∉ X.fs):b ∉ frs X.stack:=fun z => (List.mem_cons.mp (I.stkSub b z)).elim h1 h2
theorem Inv.oldL (I:Inv X pins σ H s) {b:Addr} {o:Obj} (e:X.s₀.heap.get? b = some o):b ≠ X.env.locals:=Nat.ne_of_lt (Nat.lt_of_lt_of_le (Heap.lt_size e) I.ok.above)
theorem Fly.leave (I:Inv X pins σ H s) (hst:X.stack = X.env :: X.outer) (hfr:X.env.frame = some X.env.locals) (hex:X.ex = []) (f:Fly X.prog X.w X.stack H s x cls H' s') {d:Option Addr} (hdi:DictIs x d s')
    (hQ:∀ s'',Fly X.prog X.w X.outer X.H₀ X.s₀ x cls H' s'' → DictIs x d s'' → Q () s''):wpAny (model X.prog X.w) X.A (leaving X.env (.ref x)) Q E s':=by
  refine wpAny_mono (Keeps.leave.wpAny (E:=E) (Q:=fun _ s'' => Fly X.prog X.w X.outer X.H₀ X.s₀ x cls H' s'') hdi ?_) (fun _ s'' z => hQ s'' z.1 z.2) fun _ _ z => z.1
  obtain ⟨B,a0,fl,c1,c2⟩:=f.fl
  rw [hst] at fl
  have nx:∀ b:Addr,b ∉ X.ex:=fun b => by rw [hex]; simp
  refine wpAny_leaves_onW (by rw [I.ok.frames,hst]) hfr fl fun h' fl' up => ?_
  have st:∀ b o,B.get? b = some o → h'.get? b = some o:=fl'.1
  have same:∀ b u v,B.get? b = some u → s'.heap.get? b = some v → u = v:=fun b u v h1 h2 => by
    have h3:=fl.1 b u h1
    rw [h2] at h3
    exact (Option.some.inj h3).symm
  have slot:∀ b o,X.s₀.heap.get? b = some o → X.H₀ b = none → b ∈ X.fs → ∃ sl,h'.get? b = some { o with slots:=sl }:=fun b o e n hb => by
    obtain ⟨sl,e1⟩:=I.base.slot b o e n hb (nx b)
    obtain ⟨sl2,e2⟩:=f.un.any e1 (I.base.free b o e n (nx b)) (by simp)
    obtain ⟨_,of,ho,hnf⟩:=I.ok.funs.mem hb
    rw [e] at ho
    cases ho
    obtain ⟨sl3,e3⟩:=up b _ e2 hnf
    exact ⟨sl3,e3⟩
  refine ⟨f.os.trans I.os,f.bare,⟨fun b o e n hb _ => ?_,fun b o e n hb _ => slot b o e n hb,fun b o e n _ => ?_,fun b o e _ => ?_,fun b xs e => f.un.tups b xs (I.base.tups b xs e),fun b o u e => f.un.frzs b o u (I.base.frzs b o u e),fun b ps e => ?_⟩,fun a o e => ?_,⟨B,a0,fl',c1,fun b o e hb => ?_⟩,f.free⟩
  · have e1:=I.base.keep b o e n hb (nx b)
    have n1:=I.base.free b o e n (nx b)
    have hb':=I.notSt (I.oldL e) hb
    have e2:=f.un.keep b o e1 n1 hb' (by simp)
    obtain ⟨u,hu⟩:=c2 b o e1 hb'
    exact same b u o hu e2 ▸ st b u hu
  · obtain ⟨o',e1⟩:=I.base.there b o e (nx b)
    exact f.un.free b o' e1 (I.base.free b o e n (nx b)) (by simp)
  · by_cases hb:b ∈ X.fs
    · obtain ⟨sl,e1⟩:=slot b o e (I.ok.frf b hb) hb
      exact ⟨_,e1⟩
    · obtain ⟨o',e1⟩:=I.base.there b o e (nx b)
      obtain ⟨u,hu⟩:=c2 b o' e1 (I.notSt (I.oldL e) hb)
      exact ⟨u,st b u hu⟩
  · obtain ⟨m1,e1⟩:=I.base.tbls b ps e
    obtain ⟨m2,e2⟩:=f.un.tbls b _ e1
    exact ⟨m1 ++ m2,by rw [e2,Array.append_assoc]⟩
  · refine (f.hok a o e).stay (fun b u hb q => ?_) (fun _ q => q) fun _ _ q => q
    have t:∃ o',H' b = some o':=by
      rcases hb with z | z
      · exact ⟨o,by rw [z]; exact e⟩
      · exact ⟨_,z⟩
    obtain ⟨o',e'⟩:=t
    obtain ⟨v,hv⟩:=c1 b o' e'
    exact same b v u hv q ▸ st b v hv
  · obtain ⟨o',e1⟩:=I.base.there b o e (nx b)
    exact c2 b o' e1 (I.notSt (I.oldL e) hb)
theorem Fly.first {oe:Obj} {vs:Array Value} {a0:Value} (I:Inv X pins σ H s) (hst:X.stack = X.env :: X.outer) (hfr:X.env.frame = some X.env.locals) (hex:X.ex = []) (hx:s.heap.get? x = some oe) (hcl:oe.cls = cls) (hdt:oe.data = .fields vs)
    (h1:vs[1]? = some .none) (h0:vs[0]? = some a0) (hn:X.s₀.heap.get? x = none) (hH:H x = none)
    (hQ:∀ s'',Fly X.prog X.w X.outer X.H₀ X.s₀ x cls H s'' → DictIs x oe.dict s'' → Q () s''):wpAny (model X.prog X.w) X.A (leaving X.env (.ref x)) Q E s:=by
  have nx:∀ b:Addr,b ∉ X.ex:=fun b => by rw [hex]; simp
  refine wpAny_mono (Keeps.leave.wpAny (E:=E) (Q:=fun _ s'' => Fly X.prog X.w X.outer X.H₀ X.s₀ x cls H s'') ⟨oe,hx,rfl⟩ ?_) (fun _ s'' z => hQ s'' z.1 z.2) fun _ _ z => z.1
  have hl:s.heap.FunFrames (PySem.W.hideAll s.heap (x :: frs X.stack)) (X.env :: X.outer) :=
    PySem.W.funFrames_hide (base:=X.base) (by rw [← hst]; exact I.stack) fun env he a hf => by
      rw [hst]
      exact .tail _ (List.mem_filterMap.mpr ⟨env,he,hf⟩)
  have hen:(PySem.W.hideAll s.heap (x :: frs X.stack)).get? x = none:=PySem.W.hideAll_none _ (.head _)
  refine wpAny_leaving_firstW (a0:=a0) (by rw [I.ok.frames,hst]) hl hfr hx (fun b o q => PySem.W.of_hideAll _ q) hen hdt h1 h0 fun h' hL => ?_
  obtain ⟨k1,⟨_,_,k2⟩,k3,up⟩:=hL
  rw [hcl] at k3
  have st:∀ b o,s.heap.get? b = some o → b ∉ frs X.stack → b ≠ x → h'.get? b = some o:=fun b o e hb hbx => k1 b o (PySem.W.hideAll_get _ e fun z => (List.mem_cons.mp z).elim hbx hb)
  have old:∀ b o,X.s₀.heap.get? b = some o → b ≠ x:=fun b o e z => by rw [z,hn] at e; cases e
  have slot:∀ b o,X.s₀.heap.get? b = some o → X.H₀ b = none → b ∈ X.fs → ∃ sl,h'.get? b = some { o with slots:=sl }:=fun b o e n hb => by
    obtain ⟨sl,e1⟩:=I.base.slot b o e n hb (nx b)
    obtain ⟨_,of,ho,hnf⟩:=I.ok.funs.mem hb
    rw [e] at ho
    cases ho
    obtain ⟨sl3,e3⟩:=up b _ e1 hnf
    exact ⟨sl3,e3⟩
  have trk:∀ b o,H b = some o → b ∉ frs X.stack ∧ b ≠ x:=fun b o e => ⟨fun z => (by rw [I.stkFree b z] at e; cases e),fun z => (by rw [z,hH] at e; cases e)⟩
  refine ⟨I.os,I.bare,⟨fun b o e n hb _ => st b o (I.base.keep b o e n hb (nx b)) (I.notSt (I.oldL e) hb) (old b o e),fun b o e n hb _ => slot b o e n hb,fun b o e n _ => I.base.free b o e n (nx b),fun b o e _ => ?_,I.base.tups,I.base.frzs,I.base.tbls⟩,fun a o e => ?_,⟨_,_,⟨k1,hen,k2,k3⟩,fun b o e => ?_,fun b o e hb => ?_⟩,hH⟩
  · by_cases hb:b ∈ X.fs
    · obtain ⟨sl,e1⟩:=slot b o e (I.ok.frf b hb) hb
      exact ⟨_,e1⟩
    · obtain ⟨o',e1⟩:=I.base.there b o e (nx b)
      exact ⟨o',st b o' e1 (I.notSt (I.oldL e) hb) (old b o e)⟩
  · refine (I.hok a o e).stay (fun b u hb q => ?_) (fun _ q => q) fun _ _ q => q
    have hb':∃ o',H b = some o':=by
      rcases hb with z | z
      · exact ⟨o,by rw [z]; exact e⟩
      · exact ⟨_,z⟩
    obtain ⟨o',e'⟩:=hb'
    exact st b u q (trk b o' e').1 (trk b o' e').2
  · obtain ⟨u,hu⟩:=(I.hok b o e).there
    exact ⟨u,PySem.W.hideAll_get _ hu fun z => (List.mem_cons.mp z).elim (trk b o e).2 (trk b o e).1⟩
  · obtain ⟨o',e1⟩:=I.base.there b o e (nx b)
    exact ⟨o',PySem.W.hideAll_get _ e1 fun z => (List.mem_cons.mp z).elim (old b o e) (I.notSt (I.oldL e) hb)⟩
theorem Fly.made {h1:Heap} {vs:List Value} (I:Inv X pins σ H s) (hst:X.stack = X.env :: X.outer) (hfr:X.env.frame = some X.env.locals) (hex:X.ex = []) (hx:Heap.MadeExcOf s.heap h1 x cls vs)
    (hQ:∀ s'',Fly X.prog X.w X.outer X.H₀ X.s₀ x cls H s'' → DictIs x none s'' → Q () s''):wpAny (model X.prog X.w) X.A (leaving X.env (.ref x)) Q E { s with heap:=h1 }:=by
  obtain ⟨t,he,_,_⟩:=hx.there
  have I1:Inv X pins σ H { s with heap:=h1 }:=I.kept hx.keeps
  refine Fly.first I1 hst hfr hex he rfl rfl rfl rfl ?_ ?_ hQ
  · cases q:X.s₀.heap.get? x with
    | none => rfl
    | some o =>
      obtain ⟨u,hu⟩:=I.base.there x o q (by rw [hex]; simp)
      have:=hx.new
      rw [hu] at this
      cases this
  · cases q:H x with
    | none => rfl
    | some o =>
      obtain ⟨u,hu⟩:=(I.hok x o q).there
      have:=hx.new
      rw [hu] at this
      cases this
end
section
variable {P:Program} {w:World} {K:PySem.W.Frag} {mg:Str → Option Value} {base:Heap} {N:List Str} {qual:Str} {scope:Scope} {f:Addr} {cd:Value} {A:Around} {outer:List Env} {s:Shared} {H:Hp} {E:XK}
theorem pass1:Passes (CX1 P w) (cxOf (CX1 P w) P w K mg base N qual scope f cd A outer s H E) E:=fun pins σ H1 s1 e s' I h => by
  obtain ⟨x,cls,d,H',rfl,fl,hd,hE⟩:=h
  exact Fly.leave I rfl rfl rfl fl hd fun s'' g gd => ⟨x,cls,d,H',rfl,g,gd,hE⟩
end
theorem ownExc_of {K:PySem.W.Frag} {h:Heap} {mg:Str → Option Value} {c:Str} {C:Addr} {bmB:List Value} {newId:String} (kin:K.In h) (hm:mg c = some (.ref C)) (q:PySem.W.excIn K C bmB newId = true):OwnCls c C bmB newId mg h:=by
  refine ⟨hm,?_⟩
  unfold PySem.W.excIn at q
  split at q
  next ddx cdx slx look =>
    split at q
    next C2 tl z0 z1 z2 z3 nn z5 hmro hsl =>
      simp only [Bool.not_eq_true',Bool.and_eq_true,beq_iff_eq] at q
      obtain ⟨⟨⟨⟨⟨e1,e2⟩,hdel⟩,htl⟩,hok⟩,hni⟩:=q
      obtain ⟨nm,bs,mro,ns,qn,hd,sn,sub,ab,col,del⟩:=cdx
      obtain ⟨sll⟩:=slx
      dsimp only at hmro hdel hok hni hsl
      subst e1 e2 hmro hdel hsl
      exact ⟨tl,ns,nm,qn,bs,hd,sn,sub,ab,col,ddx,z0,z1,z2,z3,z5,_,kin _ _ look,.of_isNs (PySem.W.isNs_of_in kin hok),PySem.W.nsMap_none_of_in kin hok hni,PySem.W.tail_of_in kin htl⟩
    next => cases q
  next => cases q
noncomputable abbrev bmVE:List Value:=[.type "ValueError",.type "Exception",.type "BaseException",.type "object"]
theorem ps_raise {X:Cx} {c:Str} {C:Addr} {e₀:Expr} {es:List Expr} {np cpos pos:Pos} {ta:TA} {W:St → Hp → Prop} (hc:X.calm = true) (hg:Gl X c) (hm:X.mg c = some (.ref C)) (q:PySem.W.excIn X.K C bmVE "ValueError.__new__" = true)
    (ha:PA X (e₀ :: es) ta) (hW:∀ (pins:List (Addr × Obj)) (σ:St) (H:Hp) (s:Shared) (e:Addr) (h1:Heap) (vs:List Value),Inv X pins σ H s → W σ H → Heap.MadeExcOf s.heap h1 e (.ref C) vs → X.xe (.ref e) { s with heap:=h1 })
    (hd:(c == ("__debug__":Str)) = false:=by decide) (he:starEach (e₀ :: es) X.env = (false,eval e₀ X.env) :: starEach es X.env:=by rfl) (hpl:(backTo cpos (starEach es X.env)).any (·.1) = false:=by rfl) :
    PS X (.Raise (some (.Call (.Name c np) (e₀ :: es) [] cpos)) none pos) (fun _ σ H => ta σ H fun vs H1 => vs.length ≤ sizeLine ∧ W σ H1):=by
  intro pins s σ H D I h
  obtain ⟨tl,N,nm,qq,bs,hdct,sn,sub,ab,col,dd,k0,k1,k2,k3,k5,mN,hC,hN,hni,T⟩:=(ownExc_of I.mod.kin hm q).obj
  refine wpAny_Raise_call_subU (C:=C) (nm:=nm) (q:=qq) (N:=N) (bs:=bs) (bm:=tl) (hdct:=hdct) (sn:=sn) (sub:=sub) (ab:=ab) (col:=col) (dd:=dd) (k0:=k0) (k1:=k1) (k2:=k2) (k3:=k3) (k5:=k5)
    PySem.F.excBase_ValueError (by decide +kernel) PySem.F.excBase_ValueError (mN:=mN) (T.hasType PySem.F.excBase_ValueError.hasBase) (I.ok.hd hc) ?_ hni (ld_glob I hg hm ⟨rfl,?_⟩ hd)
  · rw [he]
    show (false || (backTo cpos (starEach es X.env)).any (·.1)) = false
    rw [hpl]
    rfl
  · have h2:=ha cpos pins s σ H _ I h
    rw [he] at h2 ⊢
    refine Calls.evalArgs_plain (wpAny_mono h2 (fun us s2 ⟨vs,H1,I1,rv,hl,hw⟩ => ⟨rfl,?_,I1.bk _ _ hC,hN.keeps I1.bk,T.keeps I1.bk,fun h' e hx => hW pins σ H1 s2 e h' us I1 hw hx⟩) fun _ _ z => z)
    rw [← rv.length]
    exact hl
section
variable {P:Program} {w:World} {K:PySem.W.Frag} {mg:Str → Option Value} {base:Heap}
theorem ps_raise1 {N:List Str} {qual:Str} {scope:Scope} {f:Addr} {cd:Value} {A:Around} {outer:List Env} {s:Shared} {H:Hp} {E:XK} {c:Str} {C:Addr} {e₀:Expr} {es:List Expr} {np cpos pos:Pos} {ta:TA}
    (hg:Gl (cxOf (CX1 P w) P w K mg base N qual scope f cd A outer s H E) c) (hm:mg c = some (.ref C)) (q:PySem.W.excIn K C bmVE "ValueError.__new__" = true) (ha:PA (cxOf (CX1 P w) P w K mg base N qual scope f cd A outer s H E) (e₀ :: es) ta)
    (hd:(c == ("__debug__":Str)) = false:=by decide) (he:starEach (e₀ :: es) (envOfC qual scope s.heap.objs.size f cd) = (false,eval e₀ (envOfC qual scope s.heap.objs.size f cd)) :: starEach es (envOfC qual scope s.heap.objs.size f cd):=by rfl)
    (hpl:(backTo cpos (starEach es (envOfC qual scope s.heap.objs.size f cd))).any (·.1) = false:=by rfl) :
    PS (cxOf (CX1 P w) P w K mg base N qual scope f cd A outer s H E) (.Raise (some (.Call (.Name c np) (e₀ :: es) [] cpos)) none pos) (fun _ σ H => ta σ H fun vs H1 => vs.length ≤ sizeLine ∧ E (.ref C) none H1) :=
  ps_raise (X:=cxOf (CX1 P w) P w K mg base N qual scope f cd A outer s H E) (W:=fun _ H1 => E (.ref C) none H1) rfl hg hm q ha (fun pins σ H s e h1 vs I hw hx => Fly.made I rfl rfl rfl hx fun s'' g gd => ⟨e,.ref C,none,H,rfl,g,gd,hw⟩) hd he hpl
theorem Fun.okX {x qual:Str} {st:Stmt} {f:Addr} {fd:FuncData} {N ps:List Str} {k:Nat} {sp:Sp} (F:Fun K x qual st f fd) (S:FnScope N ps (defScope st)) (len:∀ vs H Q E,sp vs H Q E → vs.length = ps.length)
    (hbody:∀ (cdv:Value) (A:Around) (outer:List Env) (s:Shared) (H:Hp) (vs:List V) (Q:VK) (E:XK),Room k (A.deeper (envOfC qual (defScope st) s.heap.objs.size f cdv)) → sp vs H Q E →
      ∃ t,PSs (cxOf (CX1 P w) P w K mg base N qual (defScope st) f cdv A outer s H E) (defBody st) t ∧ t { nx:=fun _ H' => Q .non H',rt:=Q } (start N vs) H):FnOk P w K mg base (CX1 P w) (k + 1) f fd ps sp:=by
  obtain ⟨oc,od,kV,doc,pm,an,cdv,ct,osl,rfl,lk,hcd⟩:=F.ex
  exact fn_of lk hcd S len fun A outer s H vs Q E hr hsp => hbody cdv A outer s H vs Q E hr hsp
end
end L2
namespace L2
open PySem PySem.Spec PyProof.Rows
section
variable {X:Cx} {pins:List (Addr × Obj)} {σ:St} {H H':Hp} {s s':Shared} {x:Addr} {cls:Value}
theorem Fly.on {h':Heap} (f:Fly X.prog X.w X.stack H s x cls H' s') (I:Inv X pins σ H s) {B:Heap} {a0 a1:Value} (fl:Heap.FlyingW B X.stack x cls a0 s'.heap) (c1:∀ b o,H' b = some o → ∃ u,B.get? b = some u)
    (c2:∀ b o,s.heap.get? b = some o → b ∉ frs X.stack → ∃ u,B.get? b = some u) (fl':Heap.FlyingW B X.stack x cls a1 h') (up:s'.heap.UpToSlots h'):Fly X.prog X.w X.stack H s x cls H' { s' with heap:=h' }:=by
  have st:∀ b o,B.get? b = some o → h'.get? b = some o:=fl'.1
  have same:∀ b u v,B.get? b = some u → s'.heap.get? b = some v → u = v:=fun b u v h1 h2 => by
    have h3:=fl.1 b u h1
    rw [h2] at h3
    exact (Option.some.inj h3).symm
  have slot:∀ b o,s.heap.get? b = some o → H b = none → b ∈ frs X.stack → ∃ sl,h'.get? b = some { o with slots:=sl }:=fun b o e n hb => by
    obtain ⟨sl2,e2⟩:=f.un.any e n (by simp)
    obtain ⟨_,of,ho,hnf⟩:=I.stack.mem hb
    rw [e] at ho
    cases ho
    obtain ⟨sl3,e3⟩:=up b _ e2 hnf
    exact ⟨sl3,e3⟩
  refine ⟨f.os,f.bare,⟨fun b o e n hb _ => ?_,fun b o e n hb _ => slot b o e n hb,f.un.free,fun b o e _ => ?_,f.un.tups,f.un.frzs,f.un.tbls⟩,fun a o e => ?_,⟨B,a1,fl',c1,c2⟩,f.free⟩
  · have e2:=f.un.keep b o e n hb (by simp)
    obtain ⟨u,hu⟩:=c2 b o e hb
    exact same b u o hu e2 ▸ st b u hu
  · by_cases hb:b ∈ frs X.stack
    · obtain ⟨sl,e1⟩:=slot b o e (I.stkFree b hb) hb
      exact ⟨_,e1⟩
    · obtain ⟨u,hu⟩:=c2 b o e hb
      exact ⟨u,st b u hu⟩
  · refine (f.hok a o e).stay (fun b u hb q => ?_) (fun _ q => q) fun _ _ q => q
    have t:∃ o',H' b = some o':=by
      rcases hb with z | z
      · exact ⟨o,by rw [z]; exact e⟩
      · exact ⟨_,z⟩
    obtain ⟨o',e'⟩:=t
    obtain ⟨v,hv⟩:=c1 b o' e'
    exact same b v u hv q ▸ st b v hv
theorem Fly.inv (f:Fly X.prog X.w X.stack H s x cls H' s') (I:Inv X pins σ H s):Inv X pins σ H' s':=I.call' (ch:=[]) f.os f.un f.hok f.bare fun b z => absurd z (by simp)
theorem Fly.there (f:Fly X.prog X.w X.stack H s x cls H' s'):∃ ob,s'.heap.get? x = some ob ∧ ob.cls = cls:=by
  obtain ⟨B,a0,fl,_⟩:=f.fl
  exact fl.there
theorem Fly.again {A:Around} {E:Value → Shared → Prop} {Q:Unit → Shared → Prop} (f:Fly X.prog X.w X.stack H s x cls H' s') (I:Inv X pins σ H s) {d:Option Addr} (hdi:DictIs x d s') (hQ:∀ s'',Fly X.prog X.w X.stack H s x cls H' s'' → DictIs x d s'' → Q () s'') :
    wpAny (model X.prog X.w) A (setFlight (.ref x) none) Q E s':=by
  refine wpAny_mono (Keeps.flight.wpAny (E:=E) (Q:=fun _ s'' => Fly X.prog X.w X.stack H s x cls H' s'') hdi ?_) (fun _ s'' z => hQ s'' z.1 z.2) fun _ _ z => z.1
  obtain ⟨B,a0,fl,c1,c2⟩:=f.fl
  exact lands_againW fl fun h' fl' up => f.on I fl c1 c2 fl' up
theorem Fly.look {E E2:Value → Shared → Prop} {Q:Unit → Shared → Prop} (f:Fly X.prog X.w X.stack H s x cls H' s') (I:Inv X pins σ H s) (hst:X.stack = X.env :: X.outer) (hfr:X.env.frame = some X.env.locals) {d:Option Addr} (hdi:DictIs x d s')
    (hQ:∀ s'',Fly X.prog X.w X.stack H s x cls H' s'' → DictIs x d s'' → Q () s''):wpAny (model X.prog X.w) X.A (noteFrame (.ref x) X.env) (fun _ s2 => wpAny (model X.prog X.w) X.A (setFlight (.ref x) none) Q E2 s2) E s':=by
  obtain ⟨B,a0,fl,c1,c2⟩:=f.fl
  have fl0:=fl
  rw [hst] at fl
  refine wpAny_mono (Keeps.note.wpAny (E:=E) (Q:=fun _ s2 => wpAny (model X.prog X.w) X.A (setFlight (.ref x) none) (fun _ s'' => Fly X.prog X.w X.stack H s x cls H' s'') E2 s2) hdi ?_) (fun _ s2 z => ?_) fun _ _ z => z.1
  · refine wpAny_looks_onW (by rw [I.ok.frames,hst]) hfr fl fun h' hd up => ?_
    refine wpAny_landsW hd fun h2 fl2 up2 => ?_
    rw [← hst] at fl2
    exact f.on I fl0 c1 c2 fl2 (up.trans up2)
  · exact wpAny_mono (Keeps.flight.wpAny z.2 z.1) (fun _ s'' y => hQ s'' y.1 y.2) fun _ _ y => y.1
end
noncomputable abbrev Cx.inE (X:Cx) (e:Addr):Cx:={ X with A:=X.A.mark (some (.ref e)),calm:=false }
section
variable {X:Cx} {pins:List (Addr × Obj)} {σ:St} {H:Hp} {s:Shared}
theorem Cx.Ok.inE {e:Addr} (ok:X.Ok):(X.inE e).Ok:=⟨ok.mod,ok.kind,ok.glob,ok.blt,ok.above,ok.inj,ok.has,ok.cab,fun z => absurd z (by simp),ok.frames,ok.stk,ok.exf,ok.bs,ok.bsz,ok.noex,ok.exfs,ok.funs,ok.frf⟩
theorem Inv.inE {e:Addr} (I:Inv X pins σ H s):Inv (X.inE e) pins σ H s:=⟨I.ok.inE,I.os,I.bare,I.base,I.loc,I.cell,I.free,I.freeC,I.pin,I.hok,I.len⟩
theorem Inv.outE {e:Addr} {E:Value → Shared → Prop} (ok:X.Ok) (I:Inv ((X.inE e).wish E) pins σ H s):Inv X pins σ H s:=⟨ok,I.os,I.bare,I.base,I.loc,I.cell,I.free,I.freeC,I.pin,I.hok,I.len⟩
theorem SP.outE {e:Addr} {E:Value → Shared → Prop} {D:Ends} {f:Flow} {s':Shared} (ok:X.Ok) (h:SP ((X.inE e).wish E) pins D f s'):SP X pins D f s':=by
  cases f with
  | next => obtain ⟨σ',H',I,q⟩:=h; exact ⟨σ',H',I.outE ok,q⟩
  | brk => obtain ⟨σ',H',I,q⟩:=h; exact ⟨σ',H',I.outE ok,q⟩
  | cont => obtain ⟨σ',H',I,q⟩:=h; exact ⟨σ',H',I.outE ok,q⟩
  | ret u => obtain ⟨v,σ',H',I,r,q⟩:=h; exact ⟨v,σ',H',I.outE ok,r,q⟩
end
noncomputable abbrev TH:=Ends → Value → Option Addr → Addr → St → Hp → Prop
noncomputable def PH (X:Cx) (hs:List ExceptHandler) (t:TH):Prop :=
  ∀ (pins:List (Addr × Obj)) (σ:St) (H H':Hp) (s s':Shared) (D:Ends) (cls:Value) (d:Option Addr) (e:Addr),Inv X pins σ H s → Fly X.prog X.w X.stack H s e cls H' s' → DictIs e d s' → t D cls d e σ H' →
    wpAny (model X.prog X.w) X.A (handleBy (.ref e) X.env hs) (SP X pins D) X.xe s'
theorem ph_nil {X:Cx}:PH X [] (fun _ _ _ _ _ _ => False):=fun _ _ _ _ _ _ _ _ _ _ _ _ _ h => h.elim
noncomputable def etry (X:Cx) (hs:List ExceptHandler) (pins:List (Addr × Obj)) (D:Ends):Value → Shared → Prop:=fun e s1 =>
  wpAny (model X.prog X.w) X.A (noteFrame e X.env) (fun _ s2 => wpAny (model X.prog X.w) X.A (setFlight e none) (fun _ s3 => wpAny (model X.prog X.w) X.A (handleBy e X.env hs) (SP X pins D) X.xe s3) X.xe s2) X.xe s1
noncomputable abbrev Cx.tryIn (X:Cx) (hs:List ExceptHandler) (pins:List (Addr × Obj)) (D:Ends):Cx:={ X with pn:=X.pn ++ pins,xe:=etry X hs pins D }
section
variable {X:Cx} {hs:List ExceptHandler} {pins pins':List (Addr × Obj)} {D D':Ends} {σ:St} {H:Hp} {s:Shared}
theorem Cx.Ok.tryIn (ok:X.Ok):(X.tryIn hs pins D).Ok:=⟨ok.mod,ok.kind,ok.glob,ok.blt,ok.above,ok.inj,ok.has,ok.cab,ok.hd,ok.frames,ok.stk,ok.exf,ok.bs,ok.bsz,ok.noex,ok.exfs,ok.funs,ok.frf⟩
theorem Cx.Ok.tryOut (ok:(X.tryIn hs pins D).Ok):X.Ok:=⟨ok.mod,ok.kind,ok.glob,ok.blt,ok.above,ok.inj,ok.has,ok.cab,ok.hd,ok.frames,ok.stk,ok.exf,ok.bs,ok.bsz,ok.noex,ok.exfs,ok.funs,ok.frf⟩
theorem Inv.tryIn (I:Inv X pins σ H s):Inv (X.tryIn hs pins D) [] σ H s:=⟨I.ok.tryIn,I.os,I.bare,I.base,I.loc,I.cell,I.free,I.freeC,fun p hp => I.pin p (by simpa using hp),I.hok,I.len⟩
theorem Inv.tryOut (I:Inv (X.tryIn hs pins D) pins' σ H s):Inv X pins σ H s:=⟨I.ok.tryOut,I.os,I.bare,I.base,I.loc,I.cell,I.free,I.freeC,fun p hp => I.pin p (List.mem_append_left _ hp),I.hok,I.len⟩
theorem SP.tryOut {f:Flow} {s':Shared} (h:SP (X.tryIn hs pins D') [] D f s'):SP X pins D f s':=by
  cases f with
  | next => obtain ⟨σ',H',I,q⟩:=h; exact ⟨σ',H',I.tryOut,q⟩
  | brk => obtain ⟨σ',H',I,q⟩:=h; exact ⟨σ',H',I.tryOut,q⟩
  | cont => obtain ⟨σ',H',I,q⟩:=h; exact ⟨σ',H',I.tryOut,q⟩
  | ret u => obtain ⟨v,σ',H',I,r,q⟩:=h; exact ⟨v,σ',H',I.tryOut,r,q⟩
end
theorem ps_try {X:Cx} {body:List Stmt} {h₀:ExceptHandler} {hs:List ExceptHandler} {pos:Pos} {tb:Ends → TS} (hb:∀ pins D,PSs (X.tryIn (h₀ :: hs) pins D) body (tb D)):PS X (.Try body (h₀ :: hs) [] [] pos) (fun D σ H => tb D D σ H):=by
  intro pins s σ H D I h
  refine wpAny_Try_except (wpAny_mono (hb pins D [] s σ H D I.tryIn h) (fun f s1 q => ?_) fun _ _ z => z)
  have q':=SP.tryOut q
  cases f with
  | next => exact wpAny_execs_nil q'
  | brk => exact q'
  | cont => exact q'
  | ret u => exact q'
theorem passT {X:Cx} {hs:List ExceptHandler} {pins:List (Addr × Obj)} {D:Ends} {th:TH} (hst:X.stack = X.env :: X.outer) (hfr:X.env.frame = some X.env.locals) (hh:PH X hs th) :
    ∀ (pins':List (Addr × Obj)) (σ:St) (H:Hp) (s:Shared) (e:Value) (s':Shared),Inv (X.tryIn hs pins D) pins' σ H s → CX1 X.prog X.w X.stack H s (fun cls d H' => ∀ x,H' x = none → th D cls d x σ H') e s' → (X.tryIn hs pins D).xe e s':=by
  intro pins' σ H s e s' I h
  obtain ⟨x,cls,d,H',rfl,f,hdi,hE⟩:=h
  have I0:Inv X pins σ H s:=I.tryOut
  exact Fly.look f I0 hst hfr hdi fun s'' f2 d2 => hh pins σ H H' s s'' D cls d x I0 f2 d2 (hE x f.free)
section
variable {X:Cx} {CX:CXT} {k:Nat} {f C:Addr} {fd:FuncData} {ps:List Str} {sp:Sp} {dvs:List V} {ds:List Value} {E:St → XK} {x m:Str} {p pos apos:Pos} {e o:Expr} {es:List Expr} {ta:TE} {t:TA}
theorem pe_callE (F:FnOk X.prog X.w X.K X.mg X.base CX k f fd ps sp) (hr:Room k X.A) (hg:Gl X x) (hm:X.mg x = some (.ref f)) (hk:PySem.W.keepIn X.K (.ref f) = true) (hb:Binds X.K fd ps ds) (hd:Vals dvs ds)
    (hx:∀ (pins:List (Addr × Obj)) (σ:St) (H:Hp) (s:Shared) (e:Value) (s':Shared),Inv X pins σ H s → CX X.stack H s (E σ) e s' → X.xe e s') (ha:PA X (e :: es) t)
    (hdb:(x == ("__debug__":Str)) = false:=by decide) (he:starEach (e :: es) X.env = (false,eval e X.env) :: starEach es X.env:=by rfl) (hpl:(backTo pos (starEach es X.env)).any (·.1) = false:=by rfl) :
    PE X (.Call (.Name x p) (e :: es) [] pos) (fun σ H Q => t σ H fun vs H1 => sp (vs ++ dvs) H1 Q (E σ)):=by
  intro pins s σ H Q I h
  refine wpAny_Call_Name_kw (ld_glob I hg hm ?_ hdb)
  refine PySem.W.callWith_K (h₀:=X.base) I.ok.mod.kin hk (thn (ha pos pins s σ H _ I h) fun us s1 ⟨vs,H1,I1,r,q⟩ => ⟨I1.kIn,?_⟩) he hpl
  have r2:Vals (vs ++ dvs) (us ++ ds):=r.append hd
  have hl:(us ++ ds).length = ps.length:=by rw [← r2.length]; exact F.len _ _ _ _ q
  refine wpAny_call (codeAny_mono (F.run X.A X.stack s1 H1 ⟨us,[]⟩ (us ++ ds) (vs ++ dvs) Q (E σ) hr I1.env0 (hb s1 us I1.kIn hl) r2 q) fun r s' hq => ?_)
  cases r with
  | error e => exact hx pins σ H1 s1 e s' I1 hq
  | ok fl =>
    cases fl with
    | ret u => exact I1.after hq
    | next => exact False.elim hq
    | brk => exact False.elim hq
    | cont => exact False.elim hq
end
end L2
namespace L2
open PySem PySem.Spec PyProof.Rows
section
variable {X:Cx} {pos:Pos} {e:Expr} {es:List Expr} {te:TE}
noncomputable abbrev TJ:=St → Hp → (Hp → Prop) → Prop
noncomputable def PJ (X:Cx) (es:List Expr) (t:TJ):Prop :=
  ∀ (pins:List (Addr × Obj)) (s:Shared) (σ:St) (H:Hp) (acc:Str) (Z:Hp → Prop),acc.length + 2000000 * es.length ≤ sizeLine → Inv X pins σ H s → t σ H Z →
    Joins (model X.prog X.w) X.A X.xe (evalEach es X.env) acc (fun out s1 => out.length ≤ sizeLine ∧ ∃ H1,Inv X pins σ H1 s1 ∧ Z H1) s
theorem pj_nil:PJ X [] (fun _ H Z => Z H):=fun _ _ _ H _ _ hz I h => ⟨Nat.le_trans (Nat.le_add_right _ _) hz,H,I,h⟩
theorem pj_cons {tj:TJ} (he:PE X e te) (hr:PJ X es tj):PJ X (e :: es) (fun σ H Z => te σ H fun v H1 => ∃ y:Str,v = .str y ∧ y.length ≤ 2000000 ∧ tj σ H1 Z):=by
  intro pins s σ H acc Z hz I h
  refine thn (he pins s σ H _ I h) fun u s1 ⟨v,H1,I1,r,y,hv,hy,q⟩ => ?_
  subst hv
  obtain ⟨t,rfl⟩:=r
  have e1:(acc ++ y).length = acc.length + y.length:=by
    show Array.size (acc.cps ++ y.cps) = _
    rw [Array.size_append]
    rfl
  have e2:(e :: es).length = es.length + 1:=rfl
  rw [e2] at hz
  refine ⟨y,t,rfl,by omega,hr pins s1 σ H1 (acc ++ y) Z (by omega) I1 q⟩
theorem pe_fstr {v1 v2:Expr} {rest:List Expr} {tj:TJ} (hj:PJ X (v1 :: v2 :: rest) tj) (hl:(v1 :: v2 :: rest).length ≤ 8) :
    PE X (.JoinedStr (v1 :: v2 :: rest) pos) (fun σ H Q => tj σ H fun H1 => ∀ z:Str,z.length ≤ sizeLine → Q (.str z) H1):=by
  intro pins s σ H Q I h
  have hz:Str.empty.length + 2000000 * (v1 :: v2 :: rest).length ≤ sizeLine:=by
    have e0:Str.empty.length = 0:=rfl
    rw [sizeLine_eq,e0]
    rw [Nat.zero_add]
    exact Nat.le_trans (Nat.mul_le_mul_left _ hl) (Nat.le_of_ble_eq_true rfl)
  refine wpAny_JoinedStr ?_
  have j:=hj pins s σ H Str.empty _ hz I h
  exact joins_mono _ _ (fun out s1 ⟨h1,H1,I1,q⟩ => ⟨h1,.str out,H1,I1.tok _,⟨_,rfl⟩,q out h1⟩) _ j
where joins_mono {M:Model} {A:Around} {E:Value → Shared → Prop}:∀ (parts:List (Sem Value)) (acc:Str) {Q Q':Str → Shared → Prop},(∀ out s,Q out s → Q' out s) → ∀ s,Joins M A E parts acc Q s → Joins M A E parts acc Q' s
  | [],acc,_,_,hq,s,h => hq _ _ h
  | x :: rest,acc,_,_,hq,s,h => thn (show wpAny _ _ _ _ _ _ from h) fun v s1 ⟨y,t,e1,e2,e3⟩ => ⟨y,t,e1,e2,joins_mono rest (acc ++ y) hq s1 e3⟩
theorem pe_fv (he:PE X e te):PE X (.FormattedValue e (-1) none pos) (fun σ H Q => te σ H fun v H1 => (∃ y:Str,v = .str y ∧ y.length ≤ sizeLine ∧ Q (.str y) H1) ∨ ∃ i:Int,v = .int i ∧ i.natAbs.log2 < 1920 ∧ Q (.str (toString i)) H1):=by
  intro pins s σ H Q I h
  refine FormattedValue_plain (thn (he pins s σ H _ I h) fun u s1 ⟨v,H1,I1,r,q⟩ => ?_)
  rcases q with ⟨y,rfl,hy,q⟩ | ⟨i,rfl,hi,q⟩
  · obtain ⟨t,rfl⟩:=r
    exact formatField_str (fun t' tk => ⟨.str y,H1,I1.tok _,⟨_,rfl⟩,q⟩) hy
  · obtain ⟨t,rfl⟩:=r
    exact formatField_int_small hi ⟨.str _,H1,I1.tok _,⟨_,rfl⟩,q⟩
theorem pe_fr (he:PE X e te):PE X (.FormattedValue e 114 none pos) (fun σ H Q => te σ H fun v H1 => ∃ y:Str,v = .str y ∧ PyData.strOk y = true ∧ y.length ≤ 9000 ∧ ∀ z:Str,z.length ≤ 100000 → Q (.str z) H1):=by
  intro pins s σ H Q I h
  refine wpAny_FormattedValue_repr (thn (he pins s σ H _ I h) fun u s1 ⟨v,H1,I1,r,y,hv,hok,hy,q⟩ => ?_)
  subst hv
  obtain ⟨t,rfl⟩:=r
  have hl:=StrLaws.reprText_len y fun c hc => by
    have h1:y.cps.all (· < 0x110000) = true:=hok
    rw [Array.all_eq_true_iff_forall_mem] at h1
    have h2:=h1 c (by simpa using hc)
    have h3:c < 0x110000:=by simpa using h2
    exact Nat.lt_trans h3 (by decide)
  have hz:(reprText y).length ≤ sizeLine:=Nat.le_trans hl (by rw [sizeLine_eq]; omega)
  refine wpAny_pyReprObj_str ?_ hz
  exact formatField_str (fun t' tk => ⟨.str _,H1,(I1.tok _).tok _,⟨_,rfl⟩,q _ (by omega)⟩) hz
end
end L2
namespace L2
open PySem PySem.Spec PyProof.Rows
section
variable {prog:Program} {w:World} {A:Around} {s:Shared} {E:Value → Shared → Prop} {K:Type} [DecidableEq K] {knd:KeyKind prog w K}
end
section
variable {X:Cx}
theorem call_dict_dK:CallR X (.type "dict") (fun xs H Q => ∃ a kvs,xs = [.ref a] ∧ H a = some (.dK kvs) ∧ ∀ l,H l = none → Q (.ref l) (upd H l (.dK kvs))):=by
  intro pins s σ H xs us Q I r h
  obtain ⟨a,kvs,rfl,ha,q⟩:=h
  obtain ⟨u,rfl,ru⟩:=vals1 r
  cases ru
  obtain ⟨z,hd,vs,rel,dd⟩:=dk_of I.hok ha
  refine PySem.kt_call_dict hd dd (by rw [← rel.length]; exact z) fun h' dd' hs => ?_
  have keep:∀ b o,s.heap.get? b = some o → h'.get? b = some o:=fun b o e => (hs.2 b (Nat.ne_of_lt (Heap.lt_size e))).trans (Heap.get?_push_of_some _ e)
  refine ⟨.ref s.heap.objs.size,_,I.laid (o:=.dK kvs) (t':=s.toks) keep (Nat.le_refl _) ⟨z,beq_eq_false_iff_ne.mpr (Ne.symm (Nat.ne_of_lt I.big)),vs,rel,dd'⟩,rfl,q _ (I.hok.fresh (Nat.le_refl _))⟩
end
end L2
namespace L2
open PySem PySem.Spec PyProof.Rows
structure ExcCls (K:PySem.W.Frag) (D:Addr):Prop where
  is:(match K.lookup D with | some ⟨_,_,.cls _,_⟩ => true | _ => false) = true
  ga:PySem.W.findIn K (.ref D) "__getattribute__" = some (some (.builtin "BaseException.__getattribute__"))
  gh:PySem.W.findIn K (.ref D) "__getattr__" = some none
  cl:PySem.W.findIn K (.ref D) "__class__" = some (some (.builtin "object.__class__"))
  sp:PySem.W.specialIn K (.builtin "object.__class__") "__get__" = some (some (.builtin "getset_descriptor.__get__"))
  tk:PySem.W.takesIn K (.builtin "object.__class__") = some true
  ob:PySem.W.mroIn K D (.type "object") = some true
  be:PySem.W.mroIn K D (.type "BaseException") = some true
section
variable {prog:Program} {w:World} {A:Around} {E:Value → Shared → Prop} {s:Shared} {K:PySem.W.Frag} {x D:Addr}
noncomputable def excAt (x:Addr) (cls:Value) (d:Option Addr) (h:Heap):Prop:=∃ o vs,h.get? x = some o ∧ o.cls = cls ∧ o.dict = d ∧ o.data = .fields vs
theorem excAt_ty {cls:Value} {d:Option Addr} (M:Model) (h:Heap) (p:excAt x cls d h):PySem.W.Looks M h (typeOf (.ref x)) cls:=by
  obtain ⟨o,vs,h1,h2,_⟩:=p
  rw [← h2]
  exact (PySem.W.Looks.ld h1).andThen .now
end
section
variable {X:Cx}
end
section
variable {X:Cx} {pins:List (Addr × Obj)} {σ:St} {H H':Hp} {s s':Shared} {x:Addr} {cls:Value}
theorem Fly.new (I:Inv X pins σ H s) (f:Fly X.prog X.w X.stack H s x cls H' s'):s.heap.get? x = none:=by
  cases e:s.heap.get? x with
  | none => rfl
  | some o =>
    obtain ⟨B,a0,fl,c1,c2⟩:=f.fl
    by_cases hb:x ∈ frs X.stack
    · obtain ⟨_,of,ho,hnf⟩:=fl.2.2.1.mem hb
      obtain ⟨oe,vs,hoe,_,hd,_⟩:=fl.first
      rw [ho] at hoe
      cases hoe
      exact absurd hd (hnf vs)
    · obtain ⟨u,hu⟩:=c2 x o e hb
      have:=fl.2.1
      rw [hu] at this
      cases this
theorem Inv.track {o:HO} (I:Inv X pins σ H s) (hn:X.s₀.heap.get? x = none) (hl:x ≠ X.env.locals) (hc:∀ y c,X.env.cells.lookup y = some c → c ≠ x) (hp:∀ p ∈ X.pn ++ pins,p.1 ≠ x) (hx:H x = none) (ho:ObjOk X.prog X.w (upd H x o) s.heap x o) :
    Inv X pins σ (upd H x o) s:=by
  have ne:∀ b u,H b = some u → b ≠ x:=fun b u e z => by rw [z,hx] at e; cases e
  have old:∀ b ob,X.s₀.heap.get? b = some ob → b ≠ x:=fun b ob e z => by rw [z,hn] at e; cases e
  refine ⟨I.ok,I.os,I.bare,⟨I.base.keep,I.base.slot,fun b ob e n hb => by rw [upd_ne (old b ob e)]; exact I.base.free b ob e n hb,I.base.there,fun b xs e => ?_,fun b ob u e => ?_,fun b ps e => ?_⟩,I.loc,I.cell,by rw [upd_ne (Ne.symm hl)]; exact I.free,fun y c e => by rw [upd_ne (hc y c e)]; exact I.freeC y c e,fun p hpp => ?_,fun b u e => ?_,I.len⟩
  · have z:=I.base.tups b xs e
    rw [upd_ne (ne _ _ z)]
    exact z
  · have z:=I.base.frzs b ob u e
    rw [upd_ne (ne _ _ z)]
    exact z
  · obtain ⟨m,z⟩:=I.base.tbls b ps e
    exact ⟨m,by rw [upd_ne (ne _ _ z)]; exact z⟩
  · obtain ⟨a1,a2,a3,a4,a5⟩:=I.pin p hpp
    exact ⟨a1,by rw [upd_ne (hp p hpp)]; exact a2,a3,a4,a5⟩
  · by_cases eb:b = x
    · subst eb
      rw [upd_same] at e
      cases e
      exact ho
    · rw [upd_ne eb] at e
      refine (I.hok b u e).stay (fun _ _ _ q => q) (fun c q => ?_) fun c xs q => ?_
      · rw [upd_ne (ne _ _ q)]; exact q
      · rw [upd_ne (ne _ _ q)]; exact q
theorem Fly.track {d:Option Addr} (I:Inv X pins σ H s) (hex:X.ex = []) (f:Fly X.prog X.w X.stack H s x cls H' s') (hdi:DictIs x d s'):Inv X pins σ (upd H' x (.ext (excAt x cls d))) s':=by
  have hn:=f.new I
  have I1:=f.inv I
  obtain ⟨B,a0,fl,_⟩:=f.fl
  obtain ⟨ob,vs,hob,hcl,hdt,_⟩:=fl.first
  obtain ⟨ob',hob',hdd⟩:=hdi
  obtain rfl:ob = ob':=Option.some.inj (hob.symm.trans hob')
  have ne:∀ b o,s.heap.get? b = some o → b ≠ x:=fun b o e z => by rw [z,hn] at e; cases e
  refine I1.track ?_ ?_ ?_ ?_ f.free ⟨⟨ob,vs,hob,hcl,hdd,hdt⟩,⟨ob,hob⟩,fun h1 h2 p k => ?_⟩
  · cases e:X.s₀.heap.get? x with
    | none => rfl
    | some o =>
      obtain ⟨o',e1⟩:=I.base.there x o e (by rw [hex]; simp)
      rw [hn] at e1
      cases e1
  · obtain ⟨m,⟨o,_,_,ho,_⟩,_⟩:=I.loc
    exact (ne _ _ ho).symm
  · intro y c e
    obtain ⟨v,o,ho,_⟩:=I.cell y c e
    exact ne _ _ ho
  · intro p hp
    exact ne _ _ (I.pin p hp).1
  · obtain ⟨o,ws,e1,e2⟩:=p
    exact ⟨o,ws,k o e1,e2⟩
theorem unbind_ok {M:Model} {A:Around} {E:Value → Shared → Prop} {i:Nat} {n:Str} {v:V} {Q:Unit → Shared → Prop} (I:Inv X pins σ H s) (hN:X.N.Nodup) (hi:X.N[i]? = some n) (hk:X.env.scope.names.lookup n = some .local) (hv:σ[i]? = some (some v))
    (h:∀ s',Inv X pins (σ.set i none) H s' → Q () s'):wpAny M A (unbindName X.env n) Q E s:=by
  obtain ⟨m,hn,hl⟩:=id I.loc
  obtain ⟨u,r,lk⟩:=hl i n v hi hv (.inl hk)
  have kk:X.env.kindOf n = some .local:=hk
  have hcls:(X.env.scope.kind == .class || (X.env.scope.kind == .module && X.env.locals != X.env.globals)) = false:=by rw [I.ok.kind]; rfl
  have hiσ:i < σ.length:=by rw [I.len]; exact (List.getElem?_eq_some_iff.mp hi).1
  have cne:=I.cne
  have e0:m n = some u:=by
    rcases lk with ⟨_,e⟩ | ⟨k,_⟩
    · exact e
    · rw [kk] at k
      rcases k with z | z <;> cases z
  refine wpAny_unbindName_local kk hn e0 hcls fun h' u' hn' hs => ?_
  obtain ⟨oL,_,_,hoL,_⟩:=id hn
  refine h _ ⟨I.ok,I.os,I.bare,⟨fun b o e nn hb hx => ?_,fun b o e nn hb hx => ?_,I.base.free,fun b o e hx => ?_,I.base.tups,I.base.frzs,I.base.tbls⟩,⟨_,hn',fun j y v' e1 e2 e3 => ?_⟩,fun y c e => ?_,I.free,I.freeC,fun p hp => ?_,fun b ob e => ?_,by rw [List.length_set]; exact I.len⟩
  · exact (hs.2 b (Nat.ne_of_lt (Nat.lt_of_lt_of_le (Heap.lt_size e) I.ok.above))).trans (I.base.keep b o e nn hb hx)
  · obtain ⟨sl,e1⟩:=I.base.slot b o e nn hb hx
    exact ⟨sl,(hs.2 b (Nat.ne_of_lt (Nat.lt_of_lt_of_le (Heap.lt_size e) I.ok.above))).trans e1⟩
  · obtain ⟨o',e1⟩:=I.base.there b o e hx
    exact ⟨o',(hs.2 b (Nat.ne_of_lt (Nat.lt_of_lt_of_le (Heap.lt_size e) I.ok.above))).trans e1⟩
  · by_cases hj:j = i
    · subst hj
      rw [List.getElem?_set_self hiσ] at e2
      cases e2
    · rw [List.getElem?_set_ne (Ne.symm hj)] at e2
      obtain ⟨u2,r2,q⟩:=hl j y v' e1 e2 e3
      refine ⟨u2,r2,?_⟩
      rcases q with ⟨k,e⟩ | ⟨k,c,e,z⟩
      · refine .inl ⟨k,?_⟩
        have:y ≠ n:=fun e => hj (nodup_ix hN e1 (e ▸ hi))
        simp [this,e]
      · exact .inr ⟨k,c,e,z.sameBut hs (cne y c e)⟩
  · obtain ⟨w',z⟩:=I.cell y c e
    exact ⟨w',z.sameBut hs (cne y c e)⟩
  · obtain ⟨e,nn,ne,nf,d⟩:=I.pin p hp
    exact ⟨(hs.2 p.1 ne).trans e,nn,ne,nf,d⟩
  · refine (I.hok b ob e).stay (fun c w' hc q => (hs.2 c ?_).trans q) (fun _ q => q) fun _ _ q => q
    rintro rfl
    rcases hc with rfl | hc
    · rw [I.free] at e; cases e
    · rw [I.free] at hc; cases hc
noncomputable def Ends.gone (D:Ends) (i:Nat):Ends:={ nx:=fun σ H => D.nx (σ.set i none) H,rt:=D.rt,bk:=fun σ H => D.bk (σ.set i none) H,ct:=fun σ H => D.ct (σ.set i none) H }
theorem gone_ok {A:Around} {E:Value → Shared → Prop} {i:Nat} {n:Str} {pos:Pos} {D:Ends} {f:Flow} (hN:X.N.Nodup) (hi:X.N[i]? = some n) (hk:X.env.scope.names.lookup n = some .local) (h:SP X pins (D.gone i) f s) :
    wpAny (model X.prog X.w) A (do bindName X.env n .none; unbindBehindTheSuite X.env n pos) (fun _ s3 => SP X pins D f s3) E s:=by
  have go:∀ {σ':St} {H':Hp} {Z:Shared → Prop},Inv X pins σ' H' s → (∀ s2,Inv X pins (σ'.set i none) H' s2 → Z s2) →
      wpAny (model X.prog X.w) A (do bindName X.env n .none; unbindBehindTheSuite X.env n pos) (fun _ s3 => Z s3) E s:=fun {σ' H' Z} I hz => by
    have hiσ:i < σ'.length:=by rw [I.len]; exact (List.getElem?_eq_some_iff.mp hi).1
    refine wpAny_bind (wpAny_bindName (store_ok I hN hi (.inl hk) (v:=.non) rfl (fun s1 I1 => ?_) (.inr hk)))
    unfold unbindBehindTheSuite
    refine wpAny_onRaise (unbind_ok I1 hN hi hk (by rw [List.getElem?_set_self hiσ]) fun s2 I2 => ?_)
    rw [List.set_set] at I2
    exact hz s2 I2
  cases f with
  | next => obtain ⟨σ',H',I,q⟩:=h; exact go I fun s2 I2 => ⟨_,H',I2,q⟩
  | brk => obtain ⟨σ',H',I,q⟩:=h; exact go I fun s2 I2 => ⟨_,H',I2,q⟩
  | cont => obtain ⟨σ',H',I,q⟩:=h; exact go I fun s2 I2 => ⟨_,H',I2,q⟩
  | ret u => obtain ⟨v,σ',H',I,r,q⟩:=h; exact go I fun s2 I2 => ⟨v,_,H',I2,r,q⟩
end
theorem ph_as {X:Cx} {d n:Str} {i:Nat} {vd:Value} {np pos:Pos} {b₀:Stmt} {suite:List Stmt} {rest:List ExceptHandler} {th:TS} {tr:TH} (hex:X.ex = []) (hN:X.N.Nodup) (hi:X.N[i]? = some n) (hk:X.env.scope.names.lookup n = some .local)
    (hg:Gl X d) (hm:X.mg d = some vd) (hb:∀ e,PSs (X.inE e).nox (b₀ :: suite) th) (hr:PH X rest tr) (hd:(d == ("__debug__":Str)) = false:=by decide) :
    PH X (.ExceptHandler (some (.Name d np)) (some n) (b₀ :: suite) pos :: rest)
      (fun D cls dd e σ H => ∃ b,PySem.W.exmOne X.K cls vd = some b ∧ if b = true then th (D.gone i) (σ.set i (some (.ref e))) (upd H e (.ext (excAt e cls dd))) else tr D cls dd e σ H):=by
  intro pins σ H H' s s' D cls dd e I f hdi h
  obtain ⟨b,hx,h⟩:=h
  have I1:=f.inv I
  obtain ⟨ob,hob,hcl⟩:=f.there
  have LT:PySem.W.Looks (model X.prog X.w) s'.heap (typeOf (.ref e)) cls:=by
    rw [← hcl]
    exact (PySem.W.Looks.ld hob).andThen .now
  refine wpAny_handleBy_cons (codeAny_handlers_test (Calls.Name_function_global I1.ok.kind hg (Calls.loadGlobal_global (by rw [I1.ok.glob]; exact I1.mod.glob.keeps I1.bk) hm ?_) hd)) (by intro q; cases q)
  refine (PySem.W.exm_one I1.kIn LT hx).here ?_
  cases b with
  | false => exact hr pins σ H H' s s' D cls dd e I f hdi h
  | true =>
    refine codeAny_handlers_suite_as (f.again I hdi fun s2 f2 d2 => ?_)
    have I2:=f2.track I hex d2
    refine store_ok I2 hN hi (.inl hk) (v:=.ref e) rfl (fun s3 I3 => ?_) (.inr hk)
    exact wpAny_mono (hb e pins s3 _ _ (D.gone i) (I3.inE.wish _) h) (fun fl s4 q => gone_ok hN hi hk (SP.outE I1.ok q)) fun _ _ z => False.elim z
end L2
namespace L2
open PySem PySem.Spec PyProof.Rows
structure FunD (K:PySem.W.Frag) (x qual:Str) (st:Stmt) (dV:Value) (f:Addr) (fd:FuncData):Prop where
  ex:∃ (oc:Value) (od:Option Addr) (kV doc pm:Value) (an:Option Addr) (cdv ct:Value) (osl:Array (Option Value)),
    fd = PySem.W.fnOf x qual (defArgs st) (defBody st) (defScope st) dV kV doc pm an cdv ct ∧ K.lookup f = some ⟨oc,od,.func fd,osl⟩ ∧ PySem.W.codeIn K cdv qual = true
  kp:PySem.W.keepIn K (.ref f) = true
section
variable {P:Program} {w:World} {K:PySem.W.Frag} {mg:Str → Option Value} {base:Heap}
theorem FunD.okX {x qual:Str} {st:Stmt} {dV:Value} {f:Addr} {fd:FuncData} {N ps:List Str} {k:Nat} {sp:Sp} (F:FunD K x qual st dV f fd) (S:FnScope N ps (defScope st)) (len:∀ vs H Q E,sp vs H Q E → vs.length = ps.length)
    (hbody:∀ (cdv:Value) (A:Around) (outer:List Env) (s:Shared) (H:Hp) (vs:List V) (Q:VK) (E:XK),Room k (A.deeper (envOfC qual (defScope st) s.heap.objs.size f cdv)) → sp vs H Q E →
      ∃ t,PSs (cxOf (CX1 P w) P w K mg base N qual (defScope st) f cdv A outer s H E) (defBody st) t ∧ t { nx:=fun _ H' => Q .non H',rt:=Q } (start N vs) H):FnOk P w K mg base (CX1 P w) (k + 1) f fd ps sp:=by
  obtain ⟨oc,od,kV,doc,pm,an,cdv,ct,osl,rfl,lk,hcd⟩:=F.ex
  exact fn_of lk hcd S len fun A outer s H vs Q E hr hsp => hbody cdv A outer s H vs Q E hr hsp
theorem FunD.binds {x qual:Str} {st:Stmt} {T:Addr} {f:Addr} {fd:FuncData} {ps:List Str} {oT:Value} {dT:Option Addr} {its:Array Value} {nT:Nat} {sT:Array (Option Value)} {ds:List Value} (F:FunD K x qual st (.ref T) f fd) (lT:K.lookup T = some ⟨oT,dT,.seq its nT,sT⟩)
    (h:∀ (kV doc pm:Value) (an:Option Addr) (cdv ct:Value) (us:List Value),(us ++ ds).length = ps.length → ∃ k:Option (Array Value) → Sem (List (Str × Value)),
      bindArgs (PySem.W.fnOf x qual (defArgs st) (defBody st) (defScope st) (.ref T) kV doc pm an cdv ct) ⟨us,[]⟩ = seqItems? (.ref T) >>= k ∧ k (some its) = pure (ps.zip (us ++ ds))):Binds K fd ps ds:=by
  obtain ⟨oc,od,kV,doc,pm,an,cdv,ct,osl,rfl,lk,hcd⟩:=F.ex
  intro s us kin hl
  obtain ⟨k,h1,h2⟩:=h kV doc pm an cdv ct us hl
  exact BindsTo.of_defaults rfl (kin _ _ lT) rfl h1 h2
end
end L2
namespace L2
open PySem PySem.Spec PyProof.Rows
section
variable {X:Cx}
theorem ps_compG {i0:Nat} {y0:Str} {py0 spos:Pos} {tg elt iter:Expr} {ifs:List Expr} {own caps:List Str} {κ:List Nat} {sc:Scope} {cl:List (Str × Addr)} {pos:Pos} {wi:TI} {g:TG} {tc:TT} {te:TE} (hN:X.N.Nodup) (hi0:X.N[i0]? = some y0) (hy0:Loc X.env.scope y0) (hcalm:X.calm = true) (S:BlkSc X caps sc cl) (hκ:κ.map (fun k => X.N[k]?) = caps.map some)
    (hi:PI X tg iter wi) (hg:∀ s₀ H₀ C ex,PG (blk X (own ++ caps) sc cl s₀ H₀ C ex) tg g)
    (hc:∀ s₀ H₀ C ex (pins:List (Addr × Obj)) (s:Shared) (σ:St) (H:Hp) (Q:Bool → Hp → Prop),Inv (blk X (own ++ caps) sc cl s₀ H₀ C ex) pins σ H s → tc σ H Q →
      wpAny (model X.prog X.w) X.A (forIn ifs true fun c r => if r = true then do let ok ← isTrue c (compEnvC sc cl C X.env) (eval c (compEnvC sc cl C X.env)); pure (ForInStep.yield ok) else pure (ForInStep.yield r)) (TP (blk X (own ++ caps) sc cl s₀ H₀ C ex) pins σ Q) (fun _ _ => False) s)
    (he:∀ s₀ H₀ C ex,PE (blk X (own ++ caps) sc cl s₀ H₀ C ex) elt te)
    (hs:∀ x,foldedSetIterable iter X.env x = pure x:=by intro _; rfl) (hsw:swapsWith (.ListComp elt [⟨tg,iter,ifs,0⟩] sc pos) (some (.Name y0 py0)) spos.line X.env = pure true:=by rfl)
    (hf0:X.fn y0 = true ∨ X.env.scope.names.lookup y0 = some .local:=by first | exact .inl rfl | exact .inr rfl | assumption) :
    PS X (.Assign [.Name y0 py0] (.ListComp elt [⟨tg,iter,ifs,0⟩] sc pos) spos) (tAsg (tComp own.length κ wi g tc te) (gName i0)):=by
  intro pins s σ H D0 I h
  rw [exec_Assign_Name_used _ _ _ _ hsw]
  refine wpAny_bind (wpAny_standAt (wpAny_bind ?_))
  show wpAny _ X.A (do let _ ← comprehension (.ListComp elt [⟨tg,iter,ifs,0⟩] sc pos) sc X.env _ (newList []) false (eval iter X.env) (some (assign (.Name y0 py0) X.env))) _ _ s
  refine wpAny_bind (wpAny_mono (wpAny_comprehension_free (use:=some (assign (.Name y0 py0) X.env)) (Q:=fun _ s' => SP X pins D0 .next s') rfl hs S.clos S.kind S.names (thn (hi pins s σ H _ I h) fun v s1 h1 => thn h1 fun itv s2 h2 => ?_))
    (fun _ s' hq => wpAny_pure (wpAny_pure hq)) fun _ _ e => e)
  obtain ⟨it,fp,tn,J,H2,e,I2,T,st2,f2,W,⟨m0,w0⟩,turn⟩:=h2
  subst e
  have hfp:∀ b ∈ fp,b < s2.heap.objs.size:=fun b hb => by
    obtain ⟨o,e,_⟩:=T.obj _ _ st2 b hb
    exact Heap.lt_size e
  refine wpAny_newObj_type (wpAny_newFunctionEnv S.nocell (fun y hy => nomatch hy) (fun h₁ hns hsb => ?_) S.kind)
  generalize ehp:s2.heap.push { cls:=.type "list",dict:=none,data:=.seq ([]:List Value).toArray } = hp at hns hsb ⊢
  have hsz:hp.objs.size = s2.heap.objs.size + 1:=by rw [← ehp,Heap.size_push]
  have hDC:s2.heap.objs.size ≠ hp.objs.size:=by rw [hsz]; exact Nat.ne_of_lt (Nat.lt_succ_self _)
  have old:∀ b o,hp.get? b = some o → h₁.get? b = some o:=fun b o e => (hsb.2 b (Nat.ne_of_lt (Heap.lt_size e))).trans (Heap.get?_push_of_some _ e)
  have eD:h₁.get? s2.heap.objs.size = some { cls:=.type "list",data:=.seq ([]:List Value).toArray }:=old _ _ (by rw [← ehp]; exact Heap.get?_push_size _ rfl)
  have I0:=Inv.block (own:=own) (h₁:=h₁) (tk:=s2.toks + ([]:List (Str × Value)).length) S hκ I2 f2 hfp ehp.symm hns old
  have stkD:s2.heap.objs.size ∉ frs X.stack:=fun z => (List.mem_cons.mp (I2.stkSub _ z)).elim (Nat.ne_of_gt I2.lt) (I2.nofs (Nat.le_refl _))
  have cellD:∀ x c,cl.lookup x = some c → c ≠ s2.heap.objs.size:=fun x c q => by
    obtain ⟨v,z⟩:=I2.cell x c (S.subc q)
    exact Nat.ne_of_lt z.lt
  have pinD:∀ p ∈ X.pn ++ pins,p.1 ≠ s2.heap.objs.size:=fun p hp => Nat.ne_of_lt (Heap.lt_size (I2.pin p hp).1)
  have stkF:∀ b ∈ fp,b ∉ frs X.stack:=fun b hb z => (List.mem_cons.mp (I2.stkSub _ z)).elim (f2 b hb).2.1 (f2 b hb).2.2.1
  have loop:codeAny (model X.prog X.w) X.A (.compLoop (.ListComp elt [⟨tg,iter,ifs,0⟩] sc pos) 0 (.ref it) (.ref s2.heap.objs.size) (compEnvC sc cl hp.objs.size X.env))
      (compPost (model X.prog X.w) X.A X.xe (some (assign (.Name y0 py0) X.env)) (fun _ s' => SP X pins D0 .next s') (.ref s2.heap.objs.size) hp.objs.size) { s2 with heap:=h₁,toks:=s2.toks + ([]:List (Str × Value)).length }:=by
    refine codeAny_loop rfl (fun n s' => ∃ (i:Nat) (ys:List V) (its:List Value) (cap:Nat) (H':Hp),Inv (blk X (own ++ caps) sc cl { s2 with heap:=hp } H2 hp.objs.size (s2.heap.objs.size :: fp)) pins (blkSt own.length κ σ) H' s' ∧ tn i s'.heap ∧ (∀ b ∈ fp,H' b = none) ∧
      s'.heap.get? s2.heap.objs.size = some { cls:=.type "list",data:=.seq its.toArray cap } ∧ H' s2.heap.objs.size = none ∧ Vals ys its ∧ ys.length ≤ sizeLine ∧ W i n ys H') (fun n s3 hI => ?_) m0
      ⟨0,[],[],0,H2,I0,T.keep _ _ _ st2 fun b hb o e => old _ _ (by rw [← ehp]; exact Heap.get?_push_of_some _ e),fun b hb => (f2 b hb).1,eD,I2.hok.fresh (Nat.le_refl _),.nil,Nat.zero_le _,w0⟩
    obtain ⟨i,ys,its,cap,H3,I3,st3,fr3,eD3,nD3,rv,hz,w3⟩:=hI
    show wpAny _ X.A ((compTurn (.ListComp elt [⟨tg,iter,ifs,0⟩] sc pos) 0 (.ref it) (.ref s2.heap.objs.size) (compEnvC sc cl hp.objs.size X.env)).onRaise fun x => do noteFrame x (compEnvC sc cl hp.objs.size X.env); theTreesLotGoes x) _ _ s3
    refine wpAny_noted ?_
    rw [compTurn_list]
    have I3':Inv (blk X (own ++ caps) sc cl { s2 with heap:=hp } H2 hp.objs.size (s2.heap.objs.size :: fp)) (pins ++ [(s2.heap.objs.size,{ cls:=.type "list",data:=.seq its.toArray cap })]) (blkSt own.length κ σ) H3 s3:=by
      refine I3.pins_of fun p hp => (List.mem_append.mp hp).elim (fun z => I3.pin p (List.mem_append_right _ z)) fun z => ?_
      obtain rfl:=List.mem_singleton.mp z
      exact ⟨eD3,nD3,hDC,stkD,fun v q => by cases q⟩
    have fpk:∀ {H':Hp},(∀ b ∈ fp,H' b = none) → ∀ b ∈ fp,FpOk (blk X (own ++ caps) sc cl { s2 with heap:=hp } H2 hp.objs.size (s2.heap.objs.size :: fp)) (pins ++ [(s2.heap.objs.size,{ cls:=.type "list",data:=.seq its.toArray cap })]) H' b:=fun {H'} hn b hb =>
      ⟨hn b hb,by show b ≠ hp.objs.size; rw [hsz]; exact Nat.ne_of_lt (Nat.lt_succ_of_lt (hfp b hb)),stkF b hb,.inl (List.mem_cons_of_mem _ hb),fun x c q => (f2 b hb).2.2.2.2.1 x c (S.subc q),fun p hp => by
        rw [← List.append_assoc] at hp
        rcases List.mem_append.mp hp with z | z
        · exact (f2 b hb).2.2.2.2.2 p z
        · obtain rfl:=List.mem_singleton.mp z
          exact Nat.ne_of_gt (hfp b hb)⟩
    rcases turn i n ys H3 w3 with ⟨stop,fin⟩ | ⟨go,hlt,step⟩
    · refine wpAny_bind (wpAny_standAt (wpAny_bind (thn (T.done (blk X (own ++ caps) sc cl { s2 with heap:=hp } H2 hp.objs.size (s2.heap.objs.size :: fp)) rfl rfl rfl hcalm i _ s3 _ H3 _ I3' (fpk fr3) st3 stop) fun r s4 ⟨hr,I4⟩ => ?_)))
      subst hr
      refine wpAny_pure ?_
      obtain ⟨m,hm,_⟩:=I4.loc
      have eD4:=(I4.pin (s2.heap.objs.size,{ cls:=.type "list",data:=.seq its.toArray cap }) (List.mem_append_right _ (List.mem_append_right _ (List.mem_singleton.mpr rfl)))).1
      have I5:Inv X pins σ (upd H3 s2.heap.objs.size (.lst ys)) { s4 with heap:=s4.heap }:=Inv.unblock I2 f2 ehp.symm I4 eD4 nD3 rv hz (Heap.SameBut.refl ..)
      have neL:hp.objs.size ≠ X.env.locals:=by rw [hsz]; exact Nat.ne_of_gt (Nat.lt_succ_of_lt I2.lt)
      have neC:∀ x c,X.env.cells.lookup x = some c → c ≠ hp.objs.size:=fun x c q => by
        obtain ⟨v,z⟩:=I2.cell x c q
        rw [hsz]
        exact Nat.ne_of_lt (Nat.lt_succ_of_lt z.lt)
      have frC:upd H3 s2.heap.objs.size (.lst ys) hp.objs.size = none:=by rw [upd_ne (Ne.symm hDC)]; exact I4.free
      show wpAny (model X.prog X.w) X.A (assign (.Name y0 py0) X.env (.ref s2.heap.objs.size)) _ X.xe s4
      refine wpAny_assign_Name (store_ok2 (v:=.ref s2.heap.objs.size) I5 hN hi0 hy0 rfl (fun s5 I6 ⟨a,sb,ha⟩ => ?_) hf0)
      have hCa:hp.objs.size ≠ a:=by
        rcases ha with ha | ha
        · rw [ha]; exact neL
        · exact Ne.symm (neC _ _ ha)
      refine ⟨m,hm.sameBut sb hCa,fun h' sb' => ⟨_,_,I6.turned (t':=s5.toks) (fun b o hb e => (sb'.2 b hb).trans e) frC neL (.inr ?_) neC (fun p hp' => ?_),fin _ nD3⟩⟩
      · exact Nat.le_trans I2.sz (by rw [hsz]; exact Nat.le_succ _)
      · have:=Heap.lt_size (I2.pin p hp').1
        rw [hsz]
        exact Nat.ne_of_lt (Nat.lt_succ_of_lt this)
    · refine wpAny_bind (wpAny_standAt (wpAny_bind (thn (T.item (blk X (own ++ caps) sc cl { s2 with heap:=hp } H2 hp.objs.size (s2.heap.objs.size :: fp)) rfl rfl rfl hcalm i _ s3 _ H3 _ I3' (fpk fr3) st3 go) fun r s4 ⟨u,hr,h4⟩ => ?_)))
      subst hr
      refine wpAny_bind (thn h4 fun _ s5 ⟨x,H5,I5,r5,y5,st5,fr5⟩ => ?_)
      have I5':=I5.pinned (fpk fr5) (T.obj _ _ st5)
      refine wpAny_bind (wpAny_mono (hg _ _ _ _ _ s5 _ H5 x u _ I5' r5 (step x H5 y5)) (fun _ s6 ⟨σ6,H6,I6,eσ,q6⟩ => ?_) fun _ _ z => z.elim)
      refine wpAny_bind (wpAny_mono (hc _ _ _ _ _ s6 σ6 H6 _ I6 q6) (fun ok s7 ⟨H7,I7,q7⟩ => ?_) fun _ _ z => z.elim)
      have back:∀ {s8:Shared} {H8:Hp},Inv (blk X (own ++ caps) sc cl { s2 with heap:=hp } H2 hp.objs.size (s2.heap.objs.size :: fp)) ((pins ++ [(s2.heap.objs.size,{ cls:=.type "list",data:=.seq its.toArray cap })]) ++ pinsAt fp s5.heap) σ6 H8 s8 →
          Inv (blk X (own ++ caps) sc cl { s2 with heap:=hp } H2 hp.objs.size (s2.heap.objs.size :: fp)) pins (blkSt own.length κ σ) H8 s8 ∧ tn (i + 1) s8.heap ∧ (∀ b ∈ fp,H8 b = none) ∧ s8.heap.get? s2.heap.objs.size = some { cls:=.type "list",data:=.seq its.toArray cap } ∧ H8 s2.heap.objs.size = none:=by
        intro s8 H8 I8
        have pk:∀ b ∈ fp,∀ o,s5.heap.get? b = some o → s8.heap.get? b = some o ∧ H8 b = none:=fun b hb o e => by
          have z:=I8.pin (b,o) (List.mem_append_right _ (List.mem_append_right _ (mem_pinsAt hb e)))
          exact ⟨z.1,z.2.1⟩
        have zD:=I8.pin (s2.heap.objs.size,{ cls:=.type "list",data:=.seq its.toArray cap }) (List.mem_append_right _ (List.mem_append_left _ (List.mem_append_right _ (List.mem_singleton.mpr rfl))))
        refine ⟨(I8.pins_of fun p hp => I8.pin p (List.mem_append_right _ (List.mem_append_left _ (List.mem_append_left _ hp)))).weak ?_ fun j v e => ?_,T.keep _ _ _ st5 fun b hb o e => (pk b hb o e).1,fun b hb => ?_,zD.1,zD.2.1⟩
        · exact I3.len.trans I8.len.symm
        · have hge:own.length ≤ j:=by
            refine Nat.le_of_not_lt fun q => ?_
            unfold blkSt at e
            rw [List.getElem?_append_left (by rw [List.length_replicate]; exact q),List.getElem?_replicate,if_pos q] at e
            cases e
          have z:=congrArg (fun l => l[j - own.length]?) eσ
          simp only [List.getElem?_drop] at z
          rw [show own.length + (j - own.length) = j by omega] at z
          rw [z]
          exact e
        · obtain ⟨o,e,_⟩:=T.obj _ _ st5 b hb
          exact (pk b hb o e).2
      cases ok with
      | false =>
        obtain ⟨m',hm,w7⟩:=(if_neg Bool.false_ne_true) ▸ q7
        obtain ⟨I8,st8,fr8,e8,n8⟩:=back I7
        exact wpAny_pure ⟨rfl,m',hm,i + 1,ys,its,cap,H7,I8,st8,fr8,e8,n8,rv,hz,w7⟩
      | true =>
        have q7':=(if_pos rfl) ▸ q7
        refine wpAny_bind (wpAny_bind (wpAny_mono (he _ _ _ _ _ s7 σ6 H7 _ I7 q7') (fun y s8 ⟨v8,H8,I8,r8,m',hm,w8⟩ => ?_) fun _ _ z => z.elim))
        obtain ⟨I9,st9,fr9,e9,n9⟩:=back I8
        have hl:=rv.length
        refine wpAny_bind (wpAny_list_append_plain (items:=its.toArray) ⟨cap,e9⟩ (fun h' hl' sb => ?_) (by rw [List.size_toArray,← hl]; exact hz))
        obtain ⟨cap',e'⟩:=hl'
        refine wpAny_pure (wpAny_pure ⟨rfl,m',hm,i + 1,ys ++ [v8],its ++ [y],cap',H8,?_,?_,fr9,?_,n9,Vals.append rv (.cons r8 .nil),?_,w8⟩)
        · exact I9.turned (t':=s8.toks) (fun b o hb e => (sb.2 b hb).trans e) n9 hDC (.inl List.mem_cons_self) cellD pinD
        · exact T.keep _ _ _ st9 fun b hb o e => (sb.2 b (Nat.ne_of_lt (hfp b hb))).trans e
        · rw [e']
          congr 3
          simp
        · rw [List.length_append]
          exact hlt
  exact codeAny_compStart_list loop (T.self _ 0 _ _ _ (T.keep _ _ _ st2 fun b hb o e => old _ _ (by rw [← ehp]; exact Heap.get?_push_of_some _ e)) loop)
theorem ps_comp {i0:Nat} {y0:Str} {py0 spos:Pos} {tg elt iter:Expr} {own caps:List Str} {κ:List Nat} {sc:Scope} {cl:List (Str × Addr)} {pos:Pos} {wi:TI} {g:TG} {te:TE} (hN:X.N.Nodup) (hi0:X.N[i0]? = some y0) (hy0:Loc X.env.scope y0) (hcalm:X.calm = true) (S:BlkSc X caps sc cl) (hκ:κ.map (fun k => X.N[k]?) = caps.map some)
    (hi:PI X tg iter wi) (hg:∀ s₀ H₀ C ex,PG (blk X (own ++ caps) sc cl s₀ H₀ C ex) tg g) (he:∀ s₀ H₀ C ex,PE (blk X (own ++ caps) sc cl s₀ H₀ C ex) elt te)
    (hs:∀ x,foldedSetIterable iter X.env x = pure x:=by intro _; rfl) (hsw:swapsWith (.ListComp elt [⟨tg,iter,[],0⟩] sc pos) (some (.Name y0 py0)) spos.line X.env = pure true:=by rfl)
    (hf0:X.fn y0 = true ∨ X.env.scope.names.lookup y0 = some .local:=by first | exact .inl rfl | exact .inr rfl | assumption) :
    PS X (.Assign [.Name y0 py0] (.ListComp elt [⟨tg,iter,[],0⟩] sc pos) spos) (tAsg (tComp own.length κ wi g tYes te) (gName i0)) :=
  ps_compG hN hi0 hy0 hcalm S hκ hi hg (fun s₀ H₀ C ex pins s σ H Q I h => wpAny_tests_nil ⟨H,I,h⟩) he hs hsw hf0
end
end L2
namespace L2
open PySem PySem.Spec PyProof.Rows
section
variable {X:Cx} {pins:List (Addr × Obj)} {σ:St} {H:Hp} {s:Shared} {h':Heap}
theorem Inv.turned2 {t':Nat} {e j p:Addr} {o:HO} (I:Inv X pins σ H s) (k:∀ b ob,b ≠ e → b ≠ j → s.heap.get? b = some ob → h'.get? b = some ob) (fe:FpOk X pins H e) (fj:FpOk X pins H j) (hp:s.heap.objs.size ≤ p)
    (new:ObjOk X.prog X.w (upd H p o) h' p o):Inv X pins σ (upd H p o) { s with heap:=h',toks:=t' }:=by
  have hn:H p = none:=I.hok.fresh hp
  have nn:∀ b u,H b = some u → b ≠ e ∧ b ≠ j:=fun b u q => ⟨fun z => (by rw [z,fe.1] at q; cases q),fun z => (by rw [z,fj.1] at q; cases q)⟩
  have nc:∀ b,b ∉ [e,j] → b ≠ e ∧ b ≠ j:=fun b hb => ⟨fun z => hb (by simp [z]),fun z => hb (by simp [z])⟩
  have lt:∀ b ob,s.heap.get? b = some ob → b ≠ p:=fun b ob q z => absurd (Nat.lt_of_lt_of_le (Heap.lt_size q) (by rw [z]; exact hp)) (Nat.lt_irrefl _)
  refine I.step (g':=s.gens) (d':=s.drawn) (ch:=[e,j]) (fun b hb => ?_) (fun b ob _ _ hc q _ => k b ob (nc b hc).1 (nc b hc).2 q) (fun b ob _ _ hc q _ => ⟨ob.slots,k b ob (nc b hc).1 (nc b hc).2 q⟩) (fun b ob hc q n => by rw [upd_ne (lt b ob q)]; exact n)
    (fun b ob hc q => ⟨ob,k b ob (nc b hc).1 (nc b hc).2 q⟩) (fun b xs q => by rw [upd_ne (ne_of_none q hn)]; exact q) (fun b ob u q => by rw [upd_ne (ne_of_none q hn)]; exact q) (fun b ps q => ⟨#[],by rw [upd_ne (ne_of_none q hn),q]; simp⟩) (fun m hm => ?_) (fun b u q => ?_) I.bare
  · rcases List.mem_cons.mp hb with rfl | hb
    · exact ⟨fe.2.2.2.1,fe.2.1,fe.2.2.2.2.1,fe.2.2.2.2.2⟩
    · obtain rfl:=List.mem_singleton.mp hb
      exact ⟨fj.2.2.2.1,fj.2.1,fj.2.2.2.2.1,fj.2.2.2.2.2⟩
  · obtain ⟨ob,es,ep,q,r⟩:=hm
    exact ⟨ob,es,ep,k _ ob (Ne.symm fe.2.1) (Ne.symm fj.2.1) q,r⟩
  · by_cases hb:b = p
    · subst hb
      rw [upd_same] at q
      cases q
      exact new
    · rw [upd_ne hb] at q
      refine (I.hok b u q).stay (fun c v hc z => ?_) (fun c z => by rw [upd_ne (ne_of_none z hn)]; exact z) fun c xs z => by rw [upd_ne (ne_of_none z hn)]; exact z
      rcases hc with hc | hc
      · rw [hc] at z ⊢
        exact k b v (nn b u q).1 (nn b u q).2 z
      · exact k c v (nn c _ hc).1 (nn c _ hc).2 z
end
section
variable {X:Cx} {tg:Expr}
end
section
variable {prog:Program} {w:World} {A:Around} {E:Value → Shared → Prop} {s:Shared}
open AutoSeq1 (wpAny_loadPart') in
end
section
variable {X:Cx}
end
end L2
namespace L2
open PySem PySem.Spec PyProof.Rows
theorem key_rel {P:Program} {w:World} {k:Key} {u:Value} (h:(mixKind P w).is k u = true):RelV (kV k) u:=by
  rw [mixKind_is] at h
  rcases keyIs_shape h with ⟨i,t,rfl,rfl⟩ | ⟨x,t,rfl,rfl⟩
  · exact ⟨t,rfl⟩
  · exact ⟨t,rfl⟩
section
variable {X:Cx} {pins:List (Addr × Obj)} {σ:St} {H H':Hp} {s:Shared} {h':Heap}
theorem Inv.laids {t':Nat} (I:Inv X pins σ H s) (k:∀ b u,s.heap.get? b = some u → h'.get? b = some u) (old:∀ b,b < s.heap.objs.size → H' b = H b)
    (new:∀ b u,s.heap.objs.size ≤ b → H' b = some u → ObjOk X.prog X.w H' h' b u):Inv X pins σ H' { s with heap:=h',toks:=t' }:=by
  have lt:∀ b u,H b = some u → b < s.heap.objs.size:=fun b u q => Nat.lt_of_not_le fun z => by rw [I.hok.fresh z] at q; cases q
  refine I.step (g':=s.gens) (d':=s.drawn) (ch:=[]) (fun _ z => nomatch z) (fun b ob _ _ _ q _ => k b ob q) (fun b ob _ _ _ q _ => ⟨ob.slots,k b ob q⟩) (fun b ob _ q n => by rw [old b (Heap.lt_size q)]; exact n)
    (fun b ob _ q => ⟨ob,k b ob q⟩) (fun b xs q => by rw [old b (lt _ _ q)]; exact q) (fun b ob u q => by rw [old b (lt _ _ q)]; exact q) (fun b ps q => ⟨#[],by rw [old b (lt _ _ q),q]; simp⟩) (fun m hm => ?_) (fun b u q => ?_) I.bare
  · obtain ⟨ob,es,ep,q,r⟩:=hm
    exact ⟨ob,es,ep,k _ ob q,r⟩
  · by_cases hb:b < s.heap.objs.size
    · rw [old b hb] at q
      exact (I.hok b u q).stay (fun c v _ z => k c v z) (fun c z => by rw [old c (lt _ _ z)]; exact z) fun c xs z => by rw [old c (lt _ _ z)]; exact z
    · exact new b u (Nat.le_of_not_lt hb) q
end
noncomputable def layT (H:Hp):List Addr → List (Key × V) → Hp
  | a :: as,p :: ps => upd (layT H as ps) a (.tup [kV p.1,p.2])
  | _,_ => H
theorem layT_old {H:Hp} {b:Addr}:∀ {as:List Addr} {ps:List (Key × V)},b ∉ as → layT H as ps b = H b
  | [],_,_ => rfl
  | _ :: _,[],_ => rfl
  | a :: as,p :: ps,h => by
    show upd (layT H as ps) a _ b = H b
    rw [upd_ne (fun e => h (by rw [e]; exact List.mem_cons_self))]
    exact layT_old fun z => h (List.mem_cons_of_mem _ z)
theorem layT_at {H:Hp}:∀ {as:List Addr} {ps:List (Key × V)} {b:Addr} {u:HO},b ∈ as → as.length = ps.length → layT H as ps b = some u → ∃ (j:Nat) (p:Key × V),as[j]? = some b ∧ ps[j]? = some p ∧ u = .tup [kV p.1,p.2]
  | [],_,_,_,h,_,_ => nomatch h
  | _ :: _,[],_,_,_,h,_ => nomatch h
  | a :: as,p :: ps,b,u,hb,hl,h => by
    by_cases e:b = a
    · subst e
      have h':upd (layT H as ps) b (.tup [kV p.1,p.2]) b = some u:=h
      rw [upd_same] at h'
      cases h'
      exact ⟨0,p,rfl,rfl,rfl⟩
    · have h':upd (layT H as ps) a (.tup [kV p.1,p.2]) b = some u:=h
      rw [upd_ne e] at h'
      have hb':b ∈ as:=(List.mem_cons.mp hb).resolve_left e
      obtain ⟨j,p',h1,h2,h3⟩:=layT_at hb' (Nat.succ.inj hl) h'
      exact ⟨j + 1,p',h1,h2,h3⟩
theorem layT_pairs {H:Hp}:∀ {as:List Addr} {ps:List (Key × V)},as.Pairwise (· < ·) → as.length = ps.length → Paired (fun (p:Key × V) (k:Addr) => layT H as ps k = some (.tup [kV p.1,p.2])) ps as
  | [],[],_,_ => .nil
  | _ :: _,[],_,h => nomatch h
  | [],_ :: _,_,h => nomatch h
  | a :: as,p :: ps,hr,hl => by
    cases hr with
    | cons h1 h2 =>
    refine .cons upd_same ?_
    have ih:=layT_pairs (H:=H) h2 (Nat.succ.inj hl)
    have go:∀ {qs:List (Key × V)} {bs:List Addr},(∀ b ∈ bs,a < b) → Paired (fun (p:Key × V) (k:Addr) => layT H as ps k = some (.tup [kV p.1,p.2])) qs bs → Paired (fun (q:Key × V) (k:Addr) => layT H (a :: as) (p :: ps) k = some (.tup [kV q.1,q.2])) qs bs:=fun {qs bs} hb z => by
      induction z with
      | nil => exact .nil
      | @cons x y xs ys e _ ih =>
        refine .cons ?_ (ih fun b hb' => hb b (List.mem_cons_of_mem _ hb'))
        show upd (layT H as ps) a _ y = _
        rw [upd_ne (Nat.ne_of_gt (hb y List.mem_cons_self))]
        exact e
    exact go h1 ih
theorem pair_get {α β:Type} {F:α → β → Prop}:∀ {as:List α} {bs:List β},Paired F as bs → ∀ {j:Nat} {a:α},as[j]? = some a → ∃ b,bs[j]? = some b ∧ F a b
  | _,_,.nil,j,a,h => by simp at h
  | _,_,.cons x t,0,a,h => by
    simp at h
    subst h
    exact ⟨_,rfl,x⟩
  | _,_,.cons x t,j + 1,a,h => by
    simp at h
    obtain ⟨b,hb,r⟩:=pair_get t h
    exact ⟨b,by simpa using hb,r⟩
noncomputable def itemsAt (v d:Addr) (h:Heap):Prop:=h.IsItemsView v d
section
variable {X:Cx}
noncomputable def rItems:V → List V → Hp → VK → Prop:=fun x vs H Q => ∃ d kvs,x = .ref d ∧ vs = [] ∧ H d = some (.dK kvs) ∧ ∀ v,H v = none → Q (.ref v) (upd H v (.ext (itemsAt v d)))
theorem mt_items:MtR X "dict.items" rItems:=by
  intro pins s σ H x vs v us Q I rx rv h
  obtain ⟨d,kvs,rfl,rfl,hd,q⟩:=h
  cases rx
  cases rv
  obtain ⟨z,hs,ys,rel,dd⟩:=dk_of I.hok hd
  refine call_meetsIn PySem.F.slot_dict_items dd.typeIs PySem.F.entry_dict_items (PySem.F.args_dict_items_1 _) (meets_dict_items (mixKind X.prog X.w) d hs) ⟨⟨ys,dd⟩,?_⟩
  have hv:(s.heap.push { cls:=.type "dict_items",data:=.fields #[.ref d] }).IsItemsView s.heap.objs.size d:=⟨_,Heap.get?_push_size _ rfl,rfl,rfl⟩
  refine ⟨.ref s.heap.objs.size,_,I.laid (t':=s.toks) (o:=.ext (itemsAt s.heap.objs.size d)) (fun b o e => Heap.get?_push_of_some _ e) (Nat.le_refl _) ⟨hv,⟨_,Heap.get?_push_size _ rfl⟩,fun h1 h2 p k => ?_⟩,rfl,q _ (I.hok.fresh (Nat.le_refl _))⟩
  obtain ⟨o,ho,r⟩:=p
  exact ⟨o,k o ho,r⟩
theorem call_list_items (hc:X.calm = true):CallR X (.type "list") (fun xs H Q => ∃ v d kvs,xs = [.ref v] ∧ H v = some (.ext (itemsAt v d)) ∧ H d = some (.dK kvs) ∧
    ∀ (H2:Hp) (as:List Addr) (l:Addr),(∀ b u,H b = some u → H2 b = some u) → H l = none → (∀ a ∈ as,H a = none) → H2 l = some (.lst (as.map V.ref)) → Paired (fun (p:Key × V) (k:Addr) => H2 k = some (.tup [kV p.1,p.2])) kvs as → Q (.ref l) H2):=by
  intro pins s σ H xs us Q I r h
  obtain ⟨v,d,kvs,rfl,hv,hd,q⟩:=h
  obtain ⟨u,rfl,ru⟩:=vals1 r
  cases ru
  obtain ⟨z,hs,ys,rel,dd⟩:=dk_of I.hok hd
  obtain ⟨ep,dat⟩:=dd.dictAt
  have hview:s.heap.IsItemsView v d:=(I.hok v _ hv).1
  have hl2:kvs.length = ys.length:=rel.length
  refine PySem.W.kdx_call (knd:=mixKind X.prog X.w) (I.ok.hd hc) hview dat (by rw [← hl2]; exact z) fun h' tk acc c as hk hS hlen hG hacc => ?_
  have hlen':as.length = kvs.length:=by rw [hlen,hl2]
  have hge:∀ a ∈ as,s.heap.objs.size ≤ a:=fun a ha => Nat.le_of_lt (hG.above a ha)
  have hnS:s.heap.objs.size ∉ as:=fun ha => Nat.lt_irrefl _ (hG.above _ ha)
  have vr:∀ ks:List Addr,Vals (ks.map V.ref) (ks.map Value.ref):=fun ks => by
    induction ks with
    | nil => exact .nil
    | cons k ks ih => exact .cons rfl ih
  have old:∀ b,b < s.heap.objs.size → upd (layT H as kvs) s.heap.objs.size (.lst (as.map V.ref)) b = H b:=fun b hb => by
    rw [upd_ne (Nat.ne_of_lt hb)]
    exact layT_old fun ha => absurd (hge b ha) (Nat.not_le_of_lt hb)
  have I2:Inv X pins σ (upd (layT H as kvs) s.heap.objs.size (.lst (as.map V.ref))) { s with heap:=h',toks:=tk }:=by
    refine I.laids (t':=tk) hk old fun b u hb hu => ?_
    by_cases e:b = s.heap.objs.size
    · subst e
      rw [upd_same] at hu
      cases hu
      refine ⟨by rw [List.length_map,hlen']; exact z,as.map Value.ref,c,vr as,?_⟩
      rw [hS,← hacc]
    · rw [upd_ne e] at hu
      by_cases ha:b ∈ as
      · obtain ⟨j,p,h1,h2,rfl⟩:=layT_at ha hlen' hu
        obtain ⟨key,k,x,h3,h4,h5⟩:=hG.pairs j b h1
        have hp:p.1 = k ∧ RelV p.2 x:=by
          have:=pair_get rel h2
          obtain ⟨y,hy,e1,e2⟩:=this
          rw [h3] at hy
          cases hy
          exact ⟨e1,e2⟩
        refine ⟨by show 2 ≤ sizeLine; decide,[key,x],.cons (by rw [hp.1]; exact key_rel h4) (.cons hp.2 .nil),_,h5,rfl,_,rfl⟩
      · rw [layT_old ha] at hu
        rw [I.hok.fresh hb] at hu
        cases hu
  refine ⟨.ref s.heap.objs.size,_,I2,rfl,q _ as s.heap.objs.size (fun b u hb => ?_) (I.hok.fresh (Nat.le_refl _)) (fun a ha => I.hok.fresh (hge a ha)) upd_same ?_⟩
  · have lt:b < s.heap.objs.size:=Nat.lt_of_not_le fun z => by rw [I.hok.fresh z] at hb; cases hb
    rw [old b lt]
    exact hb
  · have go:∀ {qs:List (Key × V)} {bs:List Addr},(∀ b ∈ bs,b ∈ as) → Paired (fun (p:Key × V) (k:Addr) => layT H as kvs k = some (.tup [kV p.1,p.2])) qs bs → Paired (fun (q:Key × V) (k:Addr) => upd (layT H as kvs) s.heap.objs.size (.lst (as.map V.ref)) k = some (.tup [kV q.1,q.2])) qs bs:=fun {qs bs} hb z => by
      induction z with
      | nil => exact .nil
      | @cons x y xs ys e _ ih =>
        refine .cons ?_ (ih fun b hb' => hb b (List.mem_cons_of_mem _ hb'))
        rw [upd_ne (fun z => hnS (by rw [← z]; exact hb y List.mem_cons_self))]
        exact e
    exact go (fun _ z => z) (layT_pairs hG.rise hlen')
end
end L2
namespace L2
open PySem PySem.Spec PyProof.Rows
section
variable {X:Cx} {pins:List (Addr × Obj)} {σ:St} {H:Hp} {s:Shared} {d:Addr} {o:Obj} {u:HO}
theorem Inv.thaw (I:Inv X pins σ H s) (e:H d = some (.frz o u)) (h0:∀ o' u',X.H₀ d ≠ some (.frz o' u')):Inv X pins σ (upd H d u) s:=by
  have nd:∀ b,H b = none → b ≠ d:=fun b n z => by rw [z,e] at n; cases n
  have no:∀ b v,H b = some v → (∀ o u,v ≠ .frz o u) → b ≠ d:=fun b v q n z => by rw [z,e] at q; cases q; exact n _ _ rfl
  refine ⟨I.ok,I.os,I.bare,⟨I.base.keep,I.base.slot,fun b ob q n hx => ?_,I.base.there,fun b xs q => ?_,fun b ob v q => ?_,fun b ps q => ?_⟩,I.loc,I.cell,?_,fun x c q => ?_,fun p hp => ?_,fun b v q => ?_,I.len⟩
  · have z:=I.base.free b ob q n hx
    rw [upd_ne (nd b z)]
    exact z
  · have z:=I.base.tups b xs q
    rw [upd_ne (no b _ z (fun _ _ => nofun))]
    exact z
  · have z:=I.base.frzs b ob v q
    rw [upd_ne (fun w => h0 ob v (by rw [← w]; exact q))]
    exact z
  · obtain ⟨more,z⟩:=I.base.tbls b ps q
    exact ⟨more,by rw [upd_ne (no b _ z (fun _ _ => nofun))]; exact z⟩
  · rw [upd_ne (nd _ I.free)]
    exact I.free
  · rw [upd_ne (nd _ (I.freeC x c q))]
    exact I.freeC x c q
  · obtain ⟨h1,h2,h3⟩:=I.pin p hp
    exact ⟨h1,by rw [upd_ne (nd _ h2)]; exact h2,h3⟩
  · have own:∀ a b,H b = some (.own a) → upd H d u b = some (.own a):=fun a b z => by rw [upd_ne (no b _ z (fun _ _ => nofun))]; exact z
    have tup:∀ b xs,H b = some (.tup xs) → upd H d u b = some (.tup xs):=fun b xs z => by rw [upd_ne (no b _ z (fun _ _ => nofun))]; exact z
    by_cases hb:b = d
    · subst hb
      rw [upd_same] at q
      cases q
      exact (I.hok b _ e).2.stay (fun _ _ _ z => z) (own b) tup
    · rw [upd_ne hb] at q
      exact (I.hok b v q).stay (fun _ _ _ z => z) (own b) tup
end
noncomputable def thawD (H₀:Hp) (D:Ends):Ends where
  nx:=fun σ H => ∃ d o u,H d = some (.frz o u) ∧ (∀ o' u',H₀ d ≠ some (.frz o' u')) ∧ D.nx σ (upd H d u)
  rt:=fun v H => ∃ d o u,H d = some (.frz o u) ∧ (∀ o' u',H₀ d ≠ some (.frz o' u')) ∧ D.rt v (upd H d u)
  bk:=D.bk
  ct:=D.ct
theorem ps_thaw {X:Cx} {st:Stmt} {t:TS} (h:PS X st t):PS X st (fun D σ H => t (thawD X.H₀ D) σ H):=by
  intro pins s σ H D I q
  refine thn (h pins s σ H _ I q) fun f s1 z => ?_
  cases f with
  | next =>
    obtain ⟨σ',H',I',d,o,u,e,h0,q'⟩:=z
    exact ⟨σ',_,I'.thaw e h0,q'⟩
  | ret v =>
    obtain ⟨σ',x,H',I',r,d,o,u,e,h0,q'⟩:=z
    exact ⟨σ',x,_,I'.thaw e h0,r,q'⟩
  | brk => exact z
  | cont => exact z
noncomputable def Itd (d:Addr) (o:Obj) (kvs:List (Key × V)):It :=
  ⟨fun i H => H d = some (.frz o (.dK kvs)) ∧ i < kvs.length,fun i H x H' => ∃ a p,H a = none ∧ x = .ref a ∧ H' = upd H a (.tup [kV p.1,p.2]) ∧ kvs[i]? = some p,fun i H => H d = some (.frz o (.dK kvs)) ∧ kvs.length ≤ i⟩
theorem turn_items {P:Program} {w:World} {K:PySem.W.Frag} {es:List Expr} {k:Nat} {pos:Pos} {d it:Addr} {o:Obj} {kvs:List (Key × V)} {ys:List (Key × Value)} {ep:Nat} (rel:KV kvs ys) (hat:∀ h:Heap,h.get? d = some o → h.DictAt (mixKind P w) d ys ep) :
    Turn P w K (.Tuple es k pos) (Itd d o kvs) [it] it (fun i h => ∃ ok ov,IsItemIter h it d i ys.length ep ok ov) where
  mem:=by simp
  obj:=fun i h st b hb => by
    obtain rfl:b = it:=by simpa using hb
    obtain ⟨ok,ov,e⟩:=st
    exact ⟨_,e,fun v z => by cases z⟩
  keep:=fun i h h' st k => by
    obtain ⟨ok,ov,e⟩:=st
    exact ⟨ok,ov,k it (by simp) _ e⟩
  item:=by
    intro X hP hw hK hc i pins s σ H E I hf st hg
    subst hP hw hK
    obtain ⟨ok,ov,st⟩:=st
    obtain ⟨hd,hi⟩:=hg
    have fe:=hf it (by simp)
    obtain ⟨f0,f1,f2,f3,f4,f5⟩:=id fe
    have ex:kvs[i]? = some kvs[i]:=List.getElem?_eq_getElem hi
    obtain ⟨⟨k1,y⟩,hy,ek,ry⟩:=pair_get rel ex
    replace ek:kvs[i].1 = k1:=ek
    replace ry:RelV kvs[i].2 y:=ry
    have lt:it < s.heap.objs.size:=Heap.lt_size st
    refine wpAny_pyNext_items_item st (hat _ (I.hok d _ hd).1) hy fun key h1 hkey io t1 hz k1' => ⟨_,rfl,?_⟩
    refine wpAny_letOwnedTupleGo_items io fun h2 i2 b2 => ?_
    have t2:h2.get? s.heap.objs.size = some { cls:=.type "tuple",data:=.seq #[key,y] }:=(b2.2 _ (Nat.ne_of_gt lt)).trans t1
    have hn:H s.heap.objs.size = none:=I.hok.fresh (Nat.le_refl _)
    have I2:Inv X pins σ (upd H s.heap.objs.size (.tup [kV kvs[i].1,kvs[i].2])) { s with heap:=h2 } :=
      I.turned2 (t':=s.toks) (e:=it) (j:=it) (fun b ob x1 _ z => (b2.2 b x1).trans (k1' b ob x1 z)) fe fe (Nat.le_refl _) ⟨by show 2 ≤ sizeLine; decide,[key,y],.cons (by rw [ek]; exact key_rel hkey) (.cons ry .nil),_,t2,rfl,_,rfl⟩
    refine ⟨.ref s.heap.objs.size,_,I2,rfl,⟨_,kvs[i],hn,rfl,rfl,ex⟩,⟨_,_,i2⟩,fun b hb => ?_⟩
    obtain rfl:b = it:=by simpa using hb
    rw [upd_ne (Nat.ne_of_lt lt)]
    exact f0
  done:=by
    intro X hP hw hK hc i pins s σ H E I hf st hg
    subst hP hw hK
    obtain ⟨ok,ov,st⟩:=st
    obtain ⟨hd,hi⟩:=hg
    obtain ⟨f0,f1,f2,f3,f4,f5⟩:=hf it (by simp)
    have hl:kvs.length = ys.length:=rel.length
    exact wpAny_pyNext_items_end (I.ok.hd hc) st (hat _ (I.hok d _ hd).1) (List.getElem?_eq_none (by omega)) fun h' eb => ⟨rfl,I.turned (t':=s.toks) (fun b o hb q => eb b o hb q) f0 f1 f3 f4 f5⟩
  self:=fun _ _ _ _ _ st h => by
    obtain ⟨ok,ov,st⟩:=st
    exact PySem.W.kcp_self st h
section
variable {X:Cx}
noncomputable def iItems (to:TE):TI:=fun σ H R => to σ H fun x H1 => ∃ d kvs,x = .ref d ∧ H1 d = some (.dK kvs) ∧ ∀ o,R (Itd d o kvs) (upd H1 d (.frz o (.dK kvs)))
theorem pi_items {o:Expr} {to:TE} {es:List Expr} {k:Nat} {tp apos cpos:Pos} (ho:PE X o to) (hbase:attributeBase o "items" X.env (eval o X.env) = eval o X.env:=by rfl) (hline:(apos.endLine == cpos.line) = true:=by rfl) :
    PI X (.Tuple es k tp) (.Call (.Attribute o "items" apos) [] [] cpos) (iItems to):=by
  intro pins s σ H R I h
  refine wpAny_Call_method0_late hbase hline (thn (ho pins s σ H _ I h) fun v s1 ⟨x,H1,I1,r1,d,kvs,ex,hd,q⟩ => ?_)
  subst ex
  obtain ⟨h1,h2⟩:=tyV_is (T:="dict") I1 r1 (.inr (.inr (.inl ⟨rfl,.inl ⟨kvs,hd⟩⟩)))
  cases r1
  obtain ⟨z,hs,ys,rel,dd⟩:=dk_of I1.hok hd
  refine ⟨"dict","dict.items",PySem.F.plainAttrs_dict,PySem.F.slot_dict_items,PySem.F.type_dict_items,h1,h2,Calls.callWith_builtin rfl (PySem.evalArgs_none (call_meetsIn PySem.F.slot_dict_items dd.typeIs PySem.F.entry_dict_items (PySem.F.args_dict_items_1 _) (meets_dict_items (mixKind X.prog X.w) d hs) ⟨⟨ys,dd⟩,?_⟩))⟩
  have hv:(s1.heap.push { cls:=.type "dict_items",data:=.fields #[.ref d] }).IsItemsView s1.heap.objs.size d:=⟨_,Heap.get?_push_size _ rfl,rfl,rfl⟩
  obtain ⟨ep,ob,en,e1,r1⟩:=dd.dictAt
  have hat:∀ h:Heap,h.get? d = some ob → h.DictAt (mixKind X.prog X.w) d ys ep:=fun h e => ⟨ob,en,e,r1⟩
  refine wpAny_pyIter_items (s:={ s1 with heap:=s1.heap.push { cls:=.type "dict_items",data:=.fields #[.ref d] } }) hv (hat _ (Heap.get?_push_of_some _ e1)) ?_
  have hd2:((s1.heap.push { cls:=.type "dict_items",data:=.fields #[.ref d] }).push { cls:=.type "dict_itemiterator",data:=.fields #[.none,.bool false,.ref d,.int 0 0,.int ys.length 0,.int ep 0,.none,.none] }).get? d = some ob:=Heap.get?_push_of_some _ (Heap.get?_push_of_some _ e1)
  have I2:=I1.kept (t':=s1.toks) (h':=(s1.heap.push { cls:=.type "dict_items",data:=.fields #[.ref d] }).push { cls:=.type "dict_itemiterator",data:=.fields #[.none,.bool false,.ref d,.int 0 0,.int ys.length 0,.int ep 0,.none,.none] }) fun b u e => Heap.get?_push_of_some _ (Heap.get?_push_of_some _ e)
  have I3:=I2.write (x:=d) (e:=d) (o:=.frz ob (.dK kvs)) (t':=s1.toks) (h':=(s1.heap.push { cls:=.type "dict_items",data:=.fields #[.ref d] }).push { cls:=.type "dict_itemiterator",data:=.fields #[.none,.bool false,.ref d,.int 0 0,.int ys.length 0,.int ep 0,.none,.none] }) (by rw [hd]; trivial) (.inl rfl) (fun _ _ _ e => e) ⟨ob,hd2⟩
    ⟨hd2,z,hs,ys,rel,dd.at fun o e => Heap.get?_push_of_some _ (Heap.get?_push_of_some _ e)⟩
  have hn:H1 ((s1.heap.push { cls:=.type "dict_items",data:=.fields #[.ref d] }).objs.size) = none:=I1.hok.fresh (by rw [Heap.size_push]; exact Nat.le_succ _)
  refine ⟨_,[(s1.heap.push { cls:=.type "dict_items",data:=.fields #[.ref d] }).objs.size],_,_,_,rfl,I3,turn_items rel hat,⟨_,_,Heap.get?_push_size _ rfl⟩,fun b hb => ?_,q ob⟩
  obtain rfl:b = (s1.heap.push { cls:=.type "dict_items",data:=.fields #[.ref d] }).objs.size:=by simpa using hb
  refine I1.fpOk (by rw [Heap.size_push]; exact Nat.le_succ _) ?_
  rw [upd_ne (fun e => by rw [e,hd] at hn; cases hn)]
  exact hn
end
theorem for_items {d:Addr} {o:Obj} {kvs:List (Key × V)} {g:TG} {tb:TS} {D:Ends} {σ:St} {H:Hp} (Pv:Nat → St → Hp → Prop) (h0:Pv 0 σ H) (hl:∀ i σ H,i ≤ kvs.length → Pv i σ H → H d = some (.frz o (.dK kvs)))
    (hs:∀ i p a σ H,kvs[i]? = some p → H a = none → Pv i σ H → g (.ref a) σ (upd H a (.tup [kV p.1,p.2])) fun σ2 H2 => tb { D with nx:=Pv (i + 1),ct:=Pv (i + 1),bk:=D.nx } σ2 H2) (hd:∀ σ H,Pv kvs.length σ H → D.nx σ H) :
    ∃ W:Nat → Nat → St → Hp → Prop,(∃ m,W 0 m σ H) ∧ ∀ i m σ H,W i m σ H →
      ((Itd d o kvs).stop i H ∧ D.nx σ H) ∨ ((Itd d o kvs).go i H ∧ ∃ N:St → Hp → Prop,(∀ σ' H',N σ' H' → ∃ m',m' < m ∧ W (i + 1) m' σ' H') ∧ ∀ x H',(Itd d o kvs).yld i H x H' → g x σ H' fun σ2 H2 => tb { D with nx:=N,ct:=N,bk:=D.nx } σ2 H2):=by
  refine ⟨fun i m σ H => m = kvs.length - i ∧ i ≤ kvs.length ∧ Pv i σ H,⟨kvs.length,by simp,Nat.zero_le _,h0⟩,?_⟩
  rintro i m σ H ⟨rfl,hi,p⟩
  have q:=hl i σ H hi p
  by_cases hlt:i < kvs.length
  · refine .inr ⟨⟨q,hlt⟩,Pv (i + 1),fun σ' H' p' => ⟨kvs.length - (i + 1),by omega,rfl,hlt,p'⟩,fun x H' y => ?_⟩
    obtain ⟨b,z,hb,rfl,rfl,hz⟩:=y
    exact hs i z b σ H hz hb p
  · obtain rfl:i = kvs.length:=by omega
    exact .inl ⟨⟨q,Nat.le_refl _⟩,hd σ H p⟩
end L2
namespace L2
open PySem PySem.Spec PyProof.Rows
noncomputable def Itw (d:Addr) (o:Obj) (kvs:List (Key × V)):It :=
  ⟨fun i H => H d = some (.frz o (.dK kvs)) ∧ i < kvs.length,fun i H x H' => H' = H ∧ ∃ p,kvs[i]? = some p ∧ x = p.2,fun i H => H d = some (.frz o (.dK kvs)) ∧ kvs.length ≤ i⟩
theorem turn_values {P:Program} {w:World} {K:PySem.W.Frag} {tg:Expr} {d it:Addr} {o:Obj} {kvs:List (Key × V)} {ys:List (Key × Value)} {ep:Nat} (rel:KV kvs ys) (hat:∀ h:Heap,h.get? d = some o → h.DictAt (mixKind P w) d ys ep) :
    Turn P w K tg (Itw d o kvs) [it] it (fun i h => h.IsValIter it d i ys.length ep) where
  mem:=by simp
  obj:=fun i h st b hb => by
    obtain rfl:b = it:=by simpa using hb
    obtain ⟨o,e,c,hd⟩:=st
    exact ⟨o,e,fun v z => by rw [hd] at z; cases z⟩
  keep:=fun i h h' st k => by
    obtain ⟨o,e,r⟩:=st
    exact ⟨o,k it (by simp) _ e,r⟩
  item:=by
    intro X hP hw hK hc i pins s σ H E I hf st hg
    subst hP hw hK
    obtain ⟨hd,hi⟩:=hg
    obtain ⟨f0,f1,f2,f3,f4,f5⟩:=hf it (by simp)
    have ex:kvs[i]? = some kvs[i]:=List.getElem?_eq_getElem hi
    obtain ⟨⟨k1,y⟩,hy,ek,ry⟩:=pair_get rel ex
    replace ry:RelV kvs[i].2 y:=ry
    refine wpAny_pyNext_values_item st (hat _ (I.hok d _ hd).1) hy fun h' st' sb => ?_
    have I1:Inv X pins σ H { s with heap:=h' }:=I.turned (t':=s.toks) (fun b o hb e => (sb.2 b hb).trans e) f0 f1 f3 f4 f5
    obtain ⟨o',e,c,dt⟩:=id st'
    exact ⟨y,rfl,go_of (s:={ s with heap:=h' }) e c dt (by decide) ⟨kvs[i].2,H,I1,ry,⟨rfl,_,ex,rfl⟩,st',fun b hb => (hf b hb).1⟩⟩
  done:=by
    intro X hP hw hK hc i pins s σ H E I hf st hg
    subst hP hw hK
    obtain ⟨hd,hi⟩:=hg
    obtain ⟨f0,f1,f2,f3,f4,f5⟩:=hf it (by simp)
    have hl:kvs.length = ys.length:=rel.length
    exact wpAny_pyNext_values_end (I.ok.hd hc) st (hat _ (I.hok d _ hd).1) (List.getElem?_eq_none (by omega)) fun h' eb => ⟨rfl,I.turned (t':=s.toks) (fun b o hb q => eb b o hb q) f0 f1 f3 f4 f5⟩
  self:=fun _ _ _ _ _ st h => wpAny_pyIter_valiter st h
section
variable {X:Cx} {tg:Expr}
noncomputable def iValues (to:TE):TI:=fun σ H R => to σ H fun x H1 => ∃ d kvs,x = .ref d ∧ H1 d = some (.dK kvs) ∧ ∀ o,R (Itw d o kvs) (upd H1 d (.frz o (.dK kvs)))
theorem pi_values {o:Expr} {to:TE} {apos cpos:Pos} (ho:PE X o to) (hbase:attributeBase o "values" X.env (eval o X.env) = eval o X.env:=by rfl) (hline:(apos.endLine == cpos.line) = true:=by rfl) :
    PI X tg (.Call (.Attribute o "values" apos) [] [] cpos) (iValues to):=by
  intro pins s σ H R I h
  refine wpAny_Call_method0_late hbase hline (thn (ho pins s σ H _ I h) fun v s1 ⟨x,H1,I1,r1,d,kvs,ex,hd,q⟩ => ?_)
  subst ex
  obtain ⟨h1,h2⟩:=tyV_is (T:="dict") I1 r1 (.inr (.inr (.inl ⟨rfl,.inl ⟨kvs,hd⟩⟩)))
  cases r1
  obtain ⟨z,hs,ys,rel,dd⟩:=dk_of I1.hok hd
  refine ⟨"dict","dict.values",PySem.F.plainAttrs_dict,PySem.F.slot_dict_values,PySem.F.type_dict_values,h1,h2,Calls.callWith_builtin rfl (PySem.evalArgs_none (call_meetsIn PySem.F.slot_dict_values dd.typeIs PySem.F.entry_dict_values (PySem.F.args_dict_values_1 _) (meets_dict_values (mixKind X.prog X.w) d hs) ⟨⟨ys,dd⟩,?_⟩))⟩
  have hv:(s1.heap.push { cls:=.type "dict_values",data:=.fields #[.ref d] }).IsValuesView s1.heap.objs.size d:=⟨_,Heap.get?_push_size _ rfl,rfl,rfl⟩
  obtain ⟨ep,ob,en,e1,r1⟩:=dd.dictAt
  have hat:∀ h:Heap,h.get? d = some ob → h.DictAt (mixKind X.prog X.w) d ys ep:=fun h e => ⟨ob,en,e,r1⟩
  refine wpAny_pyIter_values (s:={ s1 with heap:=s1.heap.push { cls:=.type "dict_values",data:=.fields #[.ref d] } }) hv (hat _ (Heap.get?_push_of_some _ e1)) ?_
  have hd2:((s1.heap.push { cls:=.type "dict_values",data:=.fields #[.ref d] }).push { cls:=.type "dict_valueiterator",data:=.fields #[.ref d,.int 0 0,.int ys.length 0,.int ep 0] }).get? d = some ob:=Heap.get?_push_of_some _ (Heap.get?_push_of_some _ e1)
  have I2:=I1.kept (t':=s1.toks) (h':=(s1.heap.push { cls:=.type "dict_values",data:=.fields #[.ref d] }).push { cls:=.type "dict_valueiterator",data:=.fields #[.ref d,.int 0 0,.int ys.length 0,.int ep 0] }) fun b u e => Heap.get?_push_of_some _ (Heap.get?_push_of_some _ e)
  have I3:=I2.write (x:=d) (e:=d) (o:=.frz ob (.dK kvs)) (t':=s1.toks) (h':=(s1.heap.push { cls:=.type "dict_values",data:=.fields #[.ref d] }).push { cls:=.type "dict_valueiterator",data:=.fields #[.ref d,.int 0 0,.int ys.length 0,.int ep 0] }) (by rw [hd]; trivial) (.inl rfl) (fun _ _ _ e => e) ⟨ob,hd2⟩
    ⟨hd2,z,hs,ys,rel,dd.at fun o e => Heap.get?_push_of_some _ (Heap.get?_push_of_some _ e)⟩
  have hn:H1 ((s1.heap.push { cls:=.type "dict_values",data:=.fields #[.ref d] }).objs.size) = none:=I1.hok.fresh (by rw [Heap.size_push]; exact Nat.le_succ _)
  refine ⟨_,[(s1.heap.push { cls:=.type "dict_values",data:=.fields #[.ref d] }).objs.size],_,_,_,rfl,I3,turn_values rel hat,⟨_,Heap.get?_push_size _ rfl,rfl,rfl⟩,fun b hb => ?_,q ob⟩
  obtain rfl:b = (s1.heap.push { cls:=.type "dict_values",data:=.fields #[.ref d] }).objs.size:=by simpa using hb
  refine I1.fpOk (by rw [Heap.size_push]; exact Nat.le_succ _) ?_
  rw [upd_ne (fun e => by rw [e,hd] at hn; cases hn)]
  exact hn
end
theorem for_values {d:Addr} {o:Obj} {kvs:List (Key × V)} {g:TG} {tb:TS} {D:Ends} {σ:St} {H:Hp} (Pv:Nat → St → Hp → Prop) (h0:Pv 0 σ H) (hl:∀ i σ H,i ≤ kvs.length → Pv i σ H → H d = some (.frz o (.dK kvs)))
    (hs:∀ i p σ H,kvs[i]? = some p → Pv i σ H → g p.2 σ H fun σ2 H2 => tb { D with nx:=Pv (i + 1),ct:=Pv (i + 1),bk:=D.nx } σ2 H2) (hd:∀ σ H,Pv kvs.length σ H → D.nx σ H) :
    ∃ W:Nat → Nat → St → Hp → Prop,(∃ m,W 0 m σ H) ∧ ∀ i m σ H,W i m σ H →
      ((Itw d o kvs).stop i H ∧ D.nx σ H) ∨ ((Itw d o kvs).go i H ∧ ∃ N:St → Hp → Prop,(∀ σ' H',N σ' H' → ∃ m',m' < m ∧ W (i + 1) m' σ' H') ∧ ∀ x H',(Itw d o kvs).yld i H x H' → g x σ H' fun σ2 H2 => tb { D with nx:=N,ct:=N,bk:=D.nx } σ2 H2):=by
  refine ⟨fun i m σ H => m = kvs.length - i ∧ i ≤ kvs.length ∧ Pv i σ H,⟨kvs.length,by simp,Nat.zero_le _,h0⟩,?_⟩
  rintro i m σ H ⟨rfl,hi,p⟩
  have q:=hl i σ H hi p
  by_cases hlt:i < kvs.length
  · refine .inr ⟨⟨q,hlt⟩,Pv (i + 1),fun σ' H' p' => ⟨kvs.length - (i + 1),by omega,rfl,hlt,p'⟩,fun x H' y => ?_⟩
    obtain ⟨rfl,z,hz,rfl⟩:=y
    exact hs i z σ _ hz p
  · obtain rfl:i = kvs.length:=by omega
    exact .inl ⟨⟨q,Nat.le_refl _⟩,hd σ H p⟩
end L2
namespace L2
open PySem PySem.Spec PyProof.Rows
section
variable {X:Cx} {tg:Expr}
end
theorem pe_thaw {X:Cx} {e:Expr} {t:TE} (h:PE X e t):PE X e (fun σ H Q => t σ H fun v H' => ∃ d o u,H' d = some (.frz o u) ∧ (∀ o' u',X.H₀ d ≠ some (.frz o' u')) ∧ Q v (upd H' d u)) :=
  fun pins s σ H _ I q => thn (h pins s σ H _ I q) fun _ _ ⟨x,_,I',r,_,_,_,e,h0,q'⟩ => ⟨x,_,I'.thaw e h0,r,q'⟩
end L2
namespace L2
open PySem PySem.Spec PyProof.Rows
theorem comp_items {d:Addr} {o:Obj} {kvs:List (Key × V)} {n:Nat} {κ:List Nat} {g:TG} {tc:TT} {te:TE} {σ:St} {H:Hp} {Q:VK} (Pv:Nat → List V → Hp → Prop) (h0:Pv 0 [] H) (hz:kvs.length ≤ sizeLine) (hlen:∀ i ys H2,Pv i ys H2 → ys.length ≤ i)
    (hl:∀ i ys H2,Pv i ys H2 → H2 d = some (.frz o (.dK kvs)))
    (hs:∀ i p a ys H2 (N:List V → Hp → Prop),(∀ ys' H',Pv (i + 1) ys' H' → N ys' H') → kvs[i]? = some p → H2 a = none → Pv i ys H2 → g (.ref a) (blkSt n κ σ) (upd H2 a (.tup [kV p.1,p.2])) fun σ4 H4 => σ4.drop n = (blkSt n κ σ).drop n ∧ tc σ4 H4 fun b H5 => if b = true then te σ4 H5 fun v H6 => N (ys ++ [v]) H6 else N ys H5)
    (hQ:∀ ys H2 D,Pv kvs.length ys H2 → H2 D = none → Q (.ref D) (upd H2 D (.lst ys))) :
    CompRun n κ g tc te σ (Itd d o kvs) H Q:=by
  refine ⟨fun i m ys H2 => m = kvs.length - i ∧ i ≤ kvs.length ∧ Pv i ys H2,⟨kvs.length,rfl,Nat.zero_le _,h0⟩,?_⟩
  rintro i m ys H2 ⟨rfl,hi,p⟩
  have hd:=hl i ys H2 p
  by_cases hlt:i < kvs.length
  · refine .inr ⟨⟨hd,hlt⟩,Nat.lt_of_le_of_lt (hlen i ys H2 p) (Nat.lt_of_lt_of_le hlt hz),fun x H3 y => ?_⟩
    obtain ⟨a,z,ha,rfl,rfl,hz'⟩:=y
    exact hs i z a ys H2 (fun ys' H' => ∃ m',m' < kvs.length - i ∧ m' = kvs.length - (i + 1) ∧ i + 1 ≤ kvs.length ∧ Pv (i + 1) ys' H') (fun ys' H' p' => ⟨kvs.length - (i + 1),by omega,rfl,hlt,p'⟩) hz' ha p
  · obtain rfl:i = kvs.length:=by omega
    exact .inl ⟨⟨hd,Nat.le_refl _⟩,fun D hD => hQ ys H2 D p hD⟩
section
variable {X:Cx}
end
end L2
namespace L2
open PySem PySem.Spec PyProof.Rows
section
variable {X:Cx} {K:PySem.W.Frag}
theorem eqK (h:X.K = K) (hu:X.A.units + 64 < cLine):OpR X (compareOp .Eq) (rEqD K false):=by subst h; exact op_eqD hu
theorem neK (h:X.K = K) (hu:X.A.units + 64 < cLine):OpR X (compareOp .NotEq) (rEqD K true):=by subst h; exact op_neD hu
theorem ixLK (h:X.K = K):IxR X (rIxL K):=by subst h; exact ix_list
noncomputable def rCatA (K:PySem.W.Frag):R2:=fun x y H Q => ∃ a b xs ys,x = .ref a ∧ y = .ref b ∧ SqT K H a xs ∧ SqT K H b ys ∧ ys ≠ [] ∧ xs.length + ys.length ≤ sizeLine ∧
  ∀ p H',Same H H' → SqT K H' p (xs ++ ys) → Q (.ref p) H'
theorem op_catA:OpR X (binaryOp .Add) (rCatA X.K):=by
  intro pins s σ H x y v u Q I rx ry h
  obtain ⟨a,b,xs,ys,rfl,rfl,ha,hb,hy,hz,q⟩:=h
  by_cases hx:xs = []
  · subst hx
    cases rx
    cases ry
    obtain ⟨its,r1,p1,_⟩:=I.tuple ha
    obtain ⟨its2,r2,p2,_⟩:=I.tuple hb
    cases r1
    obtain ⟨o1,e1,c1,n1,d1⟩:=p1
    obtain ⟨o2,e2,c2,n2,d2⟩:=p2
    obtain ⟨oc1,od1,dt1,sl1⟩:=o1
    obtain ⟨oc2,od2,dt2,sl2⟩:=o2
    dsimp only at c1 d1 c2 d2
    subst c1 d1 c2 d2
    exact concat_meets ⟨_,e1,rfl⟩ ⟨_,e2,rfl⟩ noFill_tuple_add seq_tuple_add PySem.F.slot_tuple_add PySem.F.entry_tuple_add (PySem.F.args_tuple_add_2 _ _)
      (tuple_addW0 a b _ its2.toArray n1 n2 od1 od2 sl1 sl2 rfl) ⟨e1,e2,.ref b,H,I,rfl,q b H (fun _ _ e => e) hb⟩
  · refine op_catT pins s σ H _ _ v u Q I rx ry ⟨a,b,xs,ys,rfl,rfl,ha,hb,hx,hz,fun z => absurd z hy,fun _ p hp => q p _ (fun b u e => by rw [upd_ne (ne_of_none e hp)]; exact e) (SqT.of upd_same)⟩
theorem pg_two {i j:Nat} {x y:Str} {k:Nat} {px py pt:Pos} (hK:X.K = K) (hc:X.calm = true) (hN:X.N.Nodup) (hi:X.N[i]? = some x) (hx:Loc X.env.scope x) (hfx:X.fn x = true ∨ X.env.scope.names.lookup x = some .local)
    (hj:X.N[j]? = some y) (hy:Loc X.env.scope y) (hfy:X.fn y = true ∨ X.env.scope.names.lookup y = some .local):PG X (.Tuple [.Name x px,.Name y py] k pt) (gTup K 2 (gCons (gName i) (gCons (gName j) gNil))):=by
  subst hK
  exact pg_tup hc (pgs_cons (pg_name hN hi hx hfx) (pgs_cons (pg_name hN hj hy hfy) pgs_nil))
end
end L2
namespace L2
open PySem PySem.Spec PyProof.Rows
end L2
namespace L2
open PySem PySem.Spec PyProof.Rows
noncomputable def excInI (K:PySem.W.Frag) (C:Addr) (bmB:List Value) (newId:String):Bool:=match K.lookup C with | some ⟨.type "type",_,.cls cd,sl⟩ => (match cd.mro,sl.toList with | .ref C' :: bm,[_,_,_,_,some (.builtin n),_] => C' == C && n == newId && !cd.hasDel && PySem.W.tailIn K bmB bm | _,_ => false) | _ => false
structure ExcI (h:Heap) (C:Addr) (bmB:List Value) (newId:String):Prop where
  obj:∃ bm N nm q bs hdct sn sub ab col dd k0 k1 k2 k3 k5,h.get? C = some (excClassObj nm q C N bs bm hdct sn sub ab col dd k0 k1 k2 k3 k5 newId) ∧ OwnTail h bmB bm
theorem excI_of {K:PySem.W.Frag} {h:Heap} {C:Addr} {bmB:List Value} {newId:String} (kin:K.In h) (q:excInI K C bmB newId = true):ExcI h C bmB newId:=by
  refine ⟨?_⟩
  unfold excInI at q
  split at q
  next ddx cdx slx look =>
    split at q
    next C2 tl z0 z1 z2 z3 nn z5 hmro hsl =>
      simp only [Bool.not_eq_true',Bool.and_eq_true,beq_iff_eq] at q
      obtain ⟨⟨⟨e1,e2⟩,hdel⟩,htl⟩:=q
      obtain ⟨nm,bs,mro,ns,qn,hd,sn,sub,ab,col,del⟩:=cdx
      obtain ⟨sll⟩:=slx
      dsimp only at hmro hdel hsl
      subst e1 e2 hmro hdel hsl
      exact ⟨tl,ns,nm,qn,bs,hd,sn,sub,ab,col,ddx,z0,z1,z2,z3,z5,kin _ _ look,PySem.W.tail_of_in kin htl⟩
    next => cases q
  next => cases q
noncomputable abbrev rawExc (C:Addr) (d:Option Addr) (t:Addr):Obj:={ cls:=.ref C,dict:=d,data:=.fields #[.ref t,.none,.none,.none,.bool false,.none] }
noncomputable abbrev madeHp (h:Heap) (C:Addr) (us:List Value):Heap:=(h.push { cls:=.type "tuple",data:=.seq us.toArray }).push (rawExc C none h.objs.size)
section
variable {prog:Program} {w:World} {A:Around} {E:Value → Shared → Prop} {h:Heap} {g:Array GenState} {d:Drawn} {t:Nat} {os:OsState} {K:PySem.W.Frag} {C fI:Addr} {us:List Value}
theorem made_at:(madeHp h C us).get? (h.objs.size + 1) = some (rawExc C none h.objs.size):=by
  have:=Heap.get?_push_size (h.push { cls:=.type "tuple",data:=.seq us.toArray }) (o:=rawExc C none h.objs.size) rfl
  rwa [Heap.size_push] at this
theorem made_keeps:∀ b o,h.get? b = some o → (madeHp h C us).get? b = some o:=fun b o e => Heap.get?_push_of_some _ (Heap.get?_push_of_some _ e)
theorem exc_typeCall {Q:Fin → Shared → Prop} (X:K.In h) (q:excInI K C bmVE "ValueError.__new__" = true) (hi:PySem.W.findIn K (.ref C) "__init__" = some (some (.ref fI))) (hf:PySem.W.typeIn K (.ref fI) = some (.type "function")) (hl:us.length ≤ sizeLine)
    (hq:wpAny (model prog w) A (call (.ref fI) (.ref (h.objs.size + 1) :: us)) (fun r s' => r = .none ∧ Q (.done (.ret (.ref (h.objs.size + 1)))) s') E ⟨madeHp h C us,g,d,t,os⟩) :
    wpAny (model prog w) A (Builtin.«type.__call__» ⟨.ref C :: us,[]⟩) Q E ⟨h,g,d,t,os⟩:=by
  have F:=PySem.F.excBase_ValueError
  have X1:K.In (madeHp h C us):=X.keeps made_keeps
  have hget:=made_at (h:=h) (C:=C) (us:=us)
  obtain ⟨bm,N,nm,qq,bs,hdct,sn,sub,ab,col,dd,k0,k1,k2,k3,k5,hCl,T⟩:=(excI_of X q).obj
  have hC1:=made_keeps (h:=h) (C:=C) (us:=us) _ _ hCl
  have self:(Value.ref C :: bm).contains (.ref C) = true:=by simp
  repeat (first | with_reducible refine wpAny_loadPart_at hCl ?_ | with_reducible refine wpAny_madeBy_exc hCl ?_ | wp_step)
  refine codeAny_call_builtin_code (Code.quiet_builtin _ F.quiet) (wpAny_check_new_subU F (by decide +kernel) T hCl (codeAny_exc_new_subU F (by decide +kernel) F T hCl ?_ hl))
  show wpAny _ _ _ _ _ ⟨madeHp h C us,g,d,t,os⟩
  unfold isInstance
  repeat (first | with_reducible refine wpAny_loadPart_at hget ?_ | (with_reducible refine wpAny_isSubtype_exc hC1 ?_; rw [self]) | wp_step)
  show wpAny (model prog w) A (typeLookup (.ref C) _) _ _ _
  refine (PySem.W.looks_findIn X1 hi).at ?_
  refine wpAny_holding (wpAny_bind ((PySem.W.bind_fn X1 _ hf).at ?_))
  refine wpAny_bind (wpAny_mono hq (fun r s' ⟨hr,hQ⟩ => ?_) fun _ _ z => z)
  subst hr
  wp_walk
  exact hQ
theorem exc_call {Q:Value → Shared → Prop} (X:K.In h) (q:excInI K C bmVE "ValueError.__new__" = true) (hi:PySem.W.findIn K (.ref C) "__init__" = some (some (.ref fI))) (hf:PySem.W.typeIn K (.ref fI) = some (.type "function")) (hl:us.length ≤ sizeLine)
    (hq:wpAny (model prog w) (A.under (.builtin "type.__call__" ⟨.ref C :: us,[]⟩)) (call (.ref fI) (.ref (h.objs.size + 1) :: us)) (fun r s' => r = .none ∧ Q (.ref (h.objs.size + 1)) s') E ⟨madeHp h C us,g,d,t,os⟩) :
    wpAny (model prog w) A (call (.ref C) us) Q E ⟨h,g,d,t,os⟩:=by
  obtain ⟨bm,N,nm,qq,bs,hdct,sn,sub,ab,col,dd,k0,k1,k2,k3,k5,hCl,T⟩:=(excI_of X q).obj
  have tl:=tc_lookup
  have tb:=tc_bind (.ref C)
  have ty:Shared.TypeIs ⟨h,g,d,t,os⟩ (.ref C) "type":=⟨_,hCl,rfl⟩
  refine wpAny_call (codeAny_of_tree (show wpAny (model prog w) _ (callAny (.ref C) _) _ _ _ from ?_))
  repeat (any_goals (first | assumption | with_reducible refine wpAny_loadPart_at hCl ?_ | wp_step))
  exact ⟨rfl,codeAny_call_builtin_at (Code.quiet_builtin _ (by decide +kernel)) entry_typeCall (wpAny_check_type_call_sub hCl (exc_typeCall X q hi hf hl hq))⟩
end
section
variable {prog:Program} {w:World} {A:Around} {E:Value → Shared → Prop} {s:Shared} {env:Env} {K:PySem.W.Frag} {C fI:Addr}
theorem exc_raiseStmt {m:Sem Value} {Q:Flow → Shared → Prop} (q:excInI K C bmVE "ValueError.__new__" = true) (hno:A.handled = none)
    (h:wpAny (model prog w) A m (fun v s1 => ∃ e d t,v = .ref e ∧ K.In s1.heap ∧ s1.heap.get? e = some (rawExc C d t) ∧ E (.ref e) s1) E s):wpAny (model prog w) A (raiseStmt env (some m) none) Q E s:=by
  unfold raiseStmt
  refine wpAny_bind (wpAny_mono h (fun v s1 ⟨e,d,t,hv,X,he,hE⟩ => ?_) fun _ _ z => z)
  subst hv
  obtain ⟨bm,N,nm,qq,bs,hdct,sn,sub,ab,col,dd,k0,k1,k2,k3,k5,hCl,T⟩:=(excI_of X q).obj
  have be:(Value.ref C :: bm).contains (.type "BaseException") = true:=by rw [List.contains_cons,T.hasType PySem.F.excBase_ValueError.hasBase,Bool.or_true]
  obtain ⟨hp,gs,dr,tk,os⟩:=s1
  dsimp only at he hCl
  repeat (first | with_reducible refine wpAny_loadPart_at he ?_ | with_reducible refine wpAny_loadPart_at hCl ?_ | (with_reducible refine wpAny_isSubtype_exc hCl ?_; rw [be]) | wp_step)
  exact wpAny_raiseNew_none hno hE
theorem exc_Raise {x:Str} {npos cpos pos:Pos} {args:List Expr} {Q:Flow → Shared → Prop} (q:excInI K C bmVE "ValueError.__new__" = true) (hi:PySem.W.findIn K (.ref C) "__init__" = some (some (.ref fI))) (hf:PySem.W.typeIn K (.ref fI) = some (.type "function"))
    (hno:A.handled = none) (hpl:(backTo cpos (starEach args env)).any (·.1) = false)
    (h:wpAny (model prog w) A (eval (.Name x npos) env) (fun f s1 => f = .ref C ∧ wpAny (model prog w) A (evalArgs (.ref C) true (backTo cpos (starEach args env)) [])
      (fun a s2 => a.kw = [] ∧ a.pos.length ≤ sizeLine ∧ K.In s2.heap ∧ wpAny (model prog w) (A.under (.builtin "type.__call__" ⟨.ref C :: a.pos,[]⟩)) (call (.ref fI) (.ref (s2.heap.objs.size + 1) :: a.pos))
        (fun r s3 => r = .none ∧ K.In s3.heap ∧ (∃ d t,s3.heap.get? (s2.heap.objs.size + 1) = some (rawExc C d t)) ∧ E (.ref (s2.heap.objs.size + 1)) s3) E { s2 with heap:=madeHp s2.heap C a.pos }) E s1) E s) :
    wpAny (model prog w) A (exec (.Raise (some (.Call (.Name x npos) args [] cpos)) none pos) env) Q E s:=by
  rw [arm_exec_Raise]
  refine wpAny_bind (wpAny_standAt (exc_raiseStmt (env:=env) (K:=K) (C:=C) q hno ?_))
  refine wpAny_bind (wpAny_mono (wpAny_Call_ofName (wpAny_mono h (fun f s1 z => ?_) fun _ _ z => z)) (fun v s3 z => wpAny_bind (wpAny_standAt (wpAny_pure z))) fun _ _ z => z)
  obtain ⟨rfl,z⟩:=z
  unfold callWith
  refine wpAny_bind (wpAny_holding (wpAny_mono z (fun a s2 y => wpAny_bind (wpAny_standAt ?_)) fun _ _ z => z))
  obtain ⟨us,kw⟩:=a
  obtain ⟨hk,hl,X,y⟩:=y
  obtain rfl:kw = []:=hk
  obtain ⟨bm,N,nm,qq,bs,hdct,sn,sub,ab,col,dd,k0,k1,k2,k3,k5,hCl,T⟩:=(excI_of X q).obj
  obtain ⟨hp,gs,dr,tk,os⟩:=s2
  simp only [hpl]
  refine wpAny_bind (wpAny_keeperOf_exc hCl ?_)
  refine wpAny_bind (exc_call X q hi hf hl (wpAny_mono y (fun r s3 ⟨y1,y2,⟨d,t,y3⟩,y4⟩ => ⟨y1,wpAny_bind (wpAny_holding (wpAny_point (wpAny_pure ⟨_,d,t,rfl,y2,y3,y4⟩)))⟩) fun _ _ z => z))
end
end L2
namespace L2
open PySem PySem.Spec PyProof.Rows
noncomputable def cut (H:Hp) (x:Addr):Hp:=fun b => if b = x then none else H b
theorem cut_same {H:Hp} {x:Addr}:cut H x x = none:=by unfold cut; rw [if_pos rfl]
theorem cut_ne {H:Hp} {x b:Addr} (h:b ≠ x):cut H x b = H b:=by unfold cut; rw [if_neg h]
noncomputable def excRaw (e C:Addr) (d:Option Addr) (h:Heap):Prop:=∃ t,h.get? e = some (rawExc C d t)
theorem excRaw_ok {P:Program} {w:World} {H:Hp} {h:Heap} {e C:Addr} {d:Option Addr} (p:excRaw e C d h):ObjOk P w H h e (.ext (excRaw e C d)):=⟨p,let ⟨_,q⟩:=p; ⟨_,q⟩,fun _ _ ⟨t,q⟩ k => ⟨t,k _ q⟩⟩
section
variable {X:Cx} {pins:List (Addr × Obj)} {σ:St} {H:Hp} {s:Shared} {x:Addr}
theorem Inv.cut {φ:Heap → Prop} (I:Inv X pins σ H s) (hx:H x = some (.ext φ)):Inv X pins σ (L2.cut H x) s:=by
  have ne:∀ b u,(∀ ψ,u ≠ .ext ψ) → H b = some u → b ≠ x:=fun b u hu e z => by rw [z,hx] at e; exact hu _ (Option.some.inj e).symm
  have le:∀ b,H b = none → L2.cut H x b = none:=fun b e => by unfold L2.cut; split <;> first | rfl | exact e
  refine ⟨I.ok,I.os,I.bare,⟨I.base.keep,I.base.slot,fun b ob e n hb => le b (I.base.free b ob e n hb),I.base.there,fun b xs e => ?_,fun b ob u e => ?_,fun b ps e => ?_⟩,I.loc,I.cell,le _ I.free,fun y c e => le c (I.freeC y c e),fun p hp => ?_,fun b u e => ?_,I.len⟩
  · have z:=I.base.tups b xs e
    rw [cut_ne (ne _ _ (fun _ q => by cases q) z)]
    exact z
  · have z:=I.base.frzs b ob u e
    rw [cut_ne (ne _ _ (fun _ q => by cases q) z)]
    exact z
  · obtain ⟨m,z⟩:=I.base.tbls b ps e
    exact ⟨m,by rw [cut_ne (ne _ _ (fun _ q => by cases q) z)]; exact z⟩
  · obtain ⟨a1,a2,a3⟩:=I.pin p hp
    exact ⟨a1,le _ a2,a3⟩
  · by_cases eb:b = x
    · subst eb
      rw [cut_same] at e
      cases e
    · rw [cut_ne eb] at e
      refine (I.hok b u e).stay (fun _ _ _ q => q) (fun c q => ?_) fun c xs q => ?_
      · rw [cut_ne (ne _ _ (fun _ q => by cases q) q)]; exact q
      · rw [cut_ne (ne _ _ (fun _ q => by cases q) q)]; exact q
end
section
variable {P:Program} {w:World} {K:PySem.W.Frag} {mg:Str → Option Value} {base:Heap}
structure MkX (K:PySem.W.Frag) (C fI:Addr):Prop where
  ex:excInI K C bmVE "ValueError.__new__" = true
  init:PySem.W.findIn K (.ref C) "__init__" = some (some (.ref fI))
  fn:PySem.W.typeIn K (.ref fI) = some (.type "function")
end
end L2
namespace L2
open PySem PySem.Spec PyProof.Rows Builtin Builtin.ObjectAttr
noncomputable def refPass (l:List Value):Bool:=l.dropWhile (fun | .ref _ => true | _ => false) == bmVE
theorem refuse_exc (self:Value):∀ {l:List Value},refPass l = true → refuseLoop self "__setattr__" l = pure ()
  | [],e => by cases e
  | v :: r,e => by
    cases v with
    | ref c => rw [refuseLoop_ref]; exact refuse_exc self e
    | type n => rw [beq_iff_eq.mp (show (Value.type n :: r == bmVE) = true from e)]; exact PySem.F.store_ValueError.passes self
    | _ => cases e
structure ExcSet (K:PySem.W.Frag) (C:Addr):Prop where
  sa:PySem.W.findIn K (.ref C) "__setattr__" = some (some (.builtin "object.__setattr__"))
  po:(PySem.W.clsIn K C).any (fun cd => refPass cd.mro) = true
  hd:PySem.W.hasDictIn K C = true
  ob:PySem.W.mroIn K C (.type "object") = some true
section
variable {prog:Program} {w:World} {A:Around} {E:Value → Shared → Prop} {s:Shared} {K:PySem.W.Frag} {x C:Addr} {name:Str} {v:Value}
theorem osa_exc {ox:Obj} {od:Option Obj} {tk0:Tok} {R:Result → Shared → Prop} (X:K.In s.heap) (I:PySem.W.InstAt s.heap x ox C od) (c:ExcSet K C) (ht:PySem.W.takerIn K C name = some none)
    (h:∀ b,wpAny (model prog w) A.in1 (storeInOwnDict (.ref x) (.ref C) (.str name tk0) name v b)
      (fun fx s' => match fx with | .done f => R (.ok f) s' | .again c' => c'.quiet = true ∧ codeAny (model prog w) A c' R s') (fun e s' => R (.error e) s') s) :
    codeAny (model prog w) A (.call (.builtin "object.__setattr__") ⟨[.ref x,.str name tk0,v],[]⟩) R s:=by
  have S:=PySem.F.store_object
  obtain ⟨cd,hc,ho⟩:=PySem.W.any_some c.po
  have isO:PySem.W.Looks (model prog w) s.heap (isInstance (.ref x) (.type "object")) true:=I.type.andThen (PySem.W.looks_mroIn X c.ob)
  have mr:PySem.W.Looks (model prog w) s.heap (mroOf (.ref C)) cd.mro:=(PySem.W.looks_clsIn X hc).andThen .now
  refine codeAny_call_builtin S.slot.plain S.entry (@PySem.W.check_slot (model prog w) _ _ s "object.__setattr__" "object" "__setattr__" (.ref x) [.str name tk0,v] [] _ S.kind S.split isO (S.args (.ref x) (.str name tk0) v) ?_)
  obtain ⟨at0,ha,hr⟩:=Option.bind_eq_some_iff.mp ht
  have tk3:PySem.W.Looks (model prog w) s.heap (storeTaker? at0) none:=by
    cases at0 with
    | none => exact .now
    | some a =>
      obtain ⟨b,hb,hn⟩:=Option.map_eq_some_iff.mp hr
      refine (PySem.W.looks_takesIn X hb).andThen ?_
      cases b with
      | true => cases hn
      | false => exact .now
  rw [PySem.W.osa_eq,refuse_eq]
  refine wpAny_bind (wpAny_bind (I.type.here (wpAny_bind (mr.here ?_))))
  rw [refuse_exc _ ho]
  exact wpAny_pure (wpAny_bind (I.type.here (wpAny_bind ((PySem.W.looks_findIn X ha).here (wpAny_bind (tk3.here (h _)))))))
noncomputable def xdAt (dx:Addr) (fs:List (Str × V)) (h:Heap):Prop:=∃ mA,h.Ns1 dx mA ∧ (∀ f,RelO (fs.lookup f) (mA f)) ∧ PySem.Within mA (fs.map (·.1))
theorem set_exc0 {t:Addr} {Q:Unit → Shared → Prop} (X:K.In s.heap) (c:ExcSet K C) (ht:PySem.W.takerIn K C name = some none) (hx:s.heap.get? x = some (rawExc C none t))
    (h:∀ h',h'.get? x = some (rawExc C (some s.heap.objs.size) t) → h'.Ns1 s.heap.objs.size (fun y => if y = name then some v else none) → (∀ b o,b ≠ x → s.heap.get? b = some o → h'.get? b = some o) → Q () { s with heap:=h',toks:=s.toks + 2 }) :
    wpAny (model prog w) A (setAttr (.ref x) name v) Q E s:=by
  have J:PySem.W.InstAt s.heap x (rawExc C none t) C none:=⟨hx,rfl,rfl,True.intro⟩
  obtain ⟨cd,hc,hd⟩:=PySem.W.any_some c.hd
  refine PySem.W.set_plain X J c.sa (osa_exc (s:={ s with toks:=s.toks + 1 }) X J c ht fun b => ?_)
  obtain ⟨hh,gs,dr,tt,oss⟩:=s
  dsimp only at hx X h ⊢
  refine wpAny_bind (wpAny_pure (wpAny_bind (wpAny_bind (wpAny_loadPart hx (wpAny_bind ((PySem.W.looks_clsIn X hc).at ?_))))))
  rw [hd]
  have hx1:(hh.push { cls:=.type "dict",data:=.dict #[] }).get? x = some (rawExc C none t):=Heap.get?_push_of_some _ hx
  have nx:x ≠ hh.objs.size:=Nat.ne_of_lt (Heap.lt_size hx)
  refine wpAny_bind (wpAny_alloc' (wpAny_bind (wpAny_update' hx1 (wpAny_pure ?_))))
  have e1:((hh.push { cls:=.type "dict",data:=.dict #[] }).update x fun o => { cls:=o.cls,dict:=some hh.objs.size,data:=o.data,slots:=o.slots }).get? hh.objs.size = some { cls:=.type "dict",data:=.dict #[] } :=
    (Heap.get?_update_ne _ _ _ _ nx.symm).trans (Heap.get?_push_at rfl rfl)
  have e2:((hh.push { cls:=.type "dict",data:=.dict #[] }).update x fun o => { cls:=o.cls,dict:=some hh.objs.size,data:=o.data,slots:=o.slots }).Ns hh.objs.size (fun _ => none) :=
    ⟨_,#[],_,e1,rfl,fun e he => absurd he (by simp),fun _ => rfl⟩
  refine wpAny_bind (wpAny_pure (wpAny_bind (wpAny_nsSet1 (Heap.Ns1.of_empty e2) fun h' hn' hs => ?_)))
  obtain ⟨oD,esD,epD,hoD,hdD,hcD⟩:=hn'.count (PySem.Within.cons name v PySem.Within.nil)
  refine wpAny_bind (wpAny_lookBehind hoD (by rw [hdD]; exact pastItsLine_dict (Nat.le_trans hcD (by rw [List.length_cons,List.length_nil,sizeLine_eq]; omega))) (wpAny_pure ?_))
  exact h h' ((hs.2 x nx).trans (Heap.get?_update_self _ hx1 rfl)) hn' fun b o hb e => (hs.2 b (Nat.ne_of_lt (Heap.lt_size e))).trans ((Heap.get?_update_ne _ _ _ _ hb).trans (Heap.get?_push_of_some _ e))
theorem set_exc1 {t dx:Addr} {mA:Str → Option Value} {ns:List Str} {Q:Unit → Shared → Prop} (X:K.In s.heap) (c:ExcSet K C) (ht:PySem.W.takerIn K C name = some none) (hx:s.heap.get? x = some (rawExc C (some dx) t)) (hn:s.heap.Ns1 dx mA)
    (hw:PySem.Within mA ns) (hsz:ns.length ≤ sizeLine) (h:∀ h',h'.Ns1 dx (fun y => if y = name then some v else mA y) → Heap.SameBut dx s.heap h' → Q () { s with heap:=h',toks:=s.toks + 2 }) :
    wpAny (model prog w) A (setAttr (.ref x) name v) Q E s:=by
  have hdx:∃ od,s.heap.get? dx = some od:=let ⟨o,_,_,e,_⟩:=hn; ⟨o,e⟩
  obtain ⟨od,hod⟩:=hdx
  have J:PySem.W.InstAt s.heap x (rawExc C (some dx) t) C (some od):=⟨hx,rfl,rfl,hod⟩
  obtain ⟨cd,hc,hd⟩:=PySem.W.any_some c.hd
  refine PySem.W.set_plain X J c.sa (osa_exc (s:={ s with toks:=s.toks + 1 }) X J c ht fun b => ?_)
  obtain ⟨hh,gs,dr,tt,oss⟩:=s
  dsimp only at hx X h hn ⊢
  refine wpAny_bind (wpAny_pure (wpAny_bind (wpAny_bind (wpAny_loadPart hx (wpAny_bind ((PySem.W.looks_clsIn X hc).at ?_))))))
  rw [hd]
  refine wpAny_pure (a:=some dx) (wpAny_bind (wpAny_pure (wpAny_bind (wpAny_nsSet1 hn fun h' hn' hs => ?_))))
  obtain ⟨oD,esD,epD,hoD,hdD,hcD⟩:=hn'.count (PySem.Within.cons name v hw)
  exact wpAny_bind (wpAny_lookBehind hoD (by rw [hdD]; exact pastItsLine_dict (Nat.le_trans hcD (by rw [List.length_cons]; omega))) (wpAny_pure (h h' hn' hs)))
end
theorem xdAt_ok {P:Program} {w:World} {H:Hp} {h:Heap} {dx:Addr} {fs:List (Str × V)} (p:xdAt dx fs h):ObjOk P w H h dx (.ext (xdAt dx fs)):=by
  refine ⟨p,?_,fun h1 h2 q k => ?_⟩
  · obtain ⟨_,⟨o,_,_,e,_⟩,_⟩:=p
    exact ⟨o,e⟩
  · obtain ⟨mA,⟨o,es,ep,e,r⟩,z⟩:=q
    exact ⟨mA,⟨o,es,ep,k o e,r⟩,z⟩
section
variable {X:Cx} {pins:List (Addr × Obj)} {σ:St} {H H0:Hp} {s s0:Shared} {dx:Addr}
theorem Inv.trackNew {o:HO} (I0:Inv X pins σ H0 s0) (I:Inv X pins σ H s) (hd:s0.heap.objs.size ≤ dx) (hx:H dx = none) (ho:ObjOk X.prog X.w (upd H dx o) s.heap dx o):Inv X pins σ (upd H dx o) s:=by
  have ne:∀ b ob,s0.heap.get? b = some ob → b ≠ dx:=fun b ob e => Nat.ne_of_lt (Nat.lt_of_lt_of_le (Heap.lt_size e) hd)
  refine I.track (Heap.get?_none_of_le (Nat.le_trans I0.sz hd)) (Nat.ne_of_lt (Nat.lt_of_lt_of_le I0.lt hd)).symm (fun y c e => ?_) (fun p hp => ne _ _ (I0.pin p hp).1) hx ho
  obtain ⟨v,ob,h1,_⟩:=I0.cell y c e
  exact ne _ _ h1
end
section
variable {X:Cx} {o value:Expr} {f:Str} {pos pos':Pos} {ta tv:TE}
theorem ps_xfld0 (ha:PE X o ta) (hv:PE X value tv) (hs:swapsWith value (some (.Attribute o f pos')) pos.line X.env = pure false):PS X (.Assign [.Attribute o f pos'] value pos)
    (fun D σ H => tv σ H fun y H1 => ta σ H1 fun x H2 => ∃ e C,x = .ref e ∧ ExcSet X.K C ∧ PySem.W.takerIn X.K C f = some none ∧ H2 e = some (.ext (excRaw e C none)) ∧ ∀ dx,H2 dx = none → D.nx σ (upd (upd H2 e (.ext (excRaw e C (some dx)))) dx (.ext (xdAt dx [(f,y)])))):=by
  intro pins s σ H D I h
  refine plainObj_wpAny_Assign_Attribute (thn (hv pins s σ H _ I h) fun u s1 ⟨y,H1,I1,ry,q⟩ => thn (ha pins s1 σ H1 _ I1 q) fun ov s2 ⟨x,H2,I2,rx,e,C,ex,c,ht,he,q2⟩ => ?_) hs
  subst ex
  obtain rfl:ov = Value.ref e:=rx
  obtain ⟨⟨t,p⟩,_,_⟩:=(show ObjOk X.prog X.w H2 s2.heap e (.ext (excRaw e C none)) from I2.hok e _ he)
  refine set_exc0 I2.kIn c ht p fun h' p' n' k' => ?_
  have hn:H2 s2.heap.objs.size = none:=I2.hok.fresh (Nat.le_refl _)
  have ne:s2.heap.objs.size ≠ e:=(ne_of_none he hn).symm
  have I3:=I2.write (x:=e) (e:=e) (o:=.ext (excRaw e C (some s2.heap.objs.size))) (h':=h') (t':=s2.toks + 2) (by rw [he]; exact True.intro) (.inl rfl) (fun b ob hb z => k' b ob hb z) ⟨_,p'⟩ (excRaw_ok ⟨t,p'⟩)
  refine ⟨σ,_,I2.trackNew I3 (Nat.le_refl _) (by rw [upd_ne ne]; exact hn) (xdAt_ok ⟨_,n',fun g => ?_,fun g hg => ?_⟩),q2 _ hn⟩
  · show RelO (List.lookup g [(f,y)]) (if g = f then some u else none)
    by_cases z:g = f
    · subst z
      rw [if_pos rfl]
      show RelO (match g == g with | true => some y | false => none) (some u)
      rw [beq_self_eq_true]
      exact ry
    · rw [if_neg z]
      show RelO (match g == f with | true => some y | false => none) none
      rw [beq_false_of_ne z]
      exact True.intro
  · by_cases z:g = f
    · subst z
      exact .head _
    · exact absurd (show (if g = f then some u else none) = none by rw [if_neg z]) hg
theorem ps_xfld1 (ha:PE X o ta) (hv:PE X value tv) (hs:swapsWith value (some (.Attribute o f pos')) pos.line X.env = pure false):PS X (.Assign [.Attribute o f pos'] value pos)
    (fun D σ H => tv σ H fun y H1 => ta σ H1 fun x H2 => ∃ e C dx fs,x = .ref e ∧ ExcSet X.K C ∧ PySem.W.takerIn X.K C f = some none ∧ H2 e = some (.ext (excRaw e C (some dx))) ∧ H2 dx = some (.ext (xdAt dx fs)) ∧ fs.length < 1000 ∧ D.nx σ (upd H2 dx (.ext (xdAt dx (putF f y fs))))):=by
  intro pins s σ H D I h
  refine plainObj_wpAny_Assign_Attribute (thn (hv pins s σ H _ I h) fun u s1 ⟨y,H1,I1,ry,q⟩ => thn (ha pins s1 σ H1 _ I1 q) fun ov s2 ⟨x,H2,I2,rx,e,C,dx,fs,ex,c,ht,he,hdx,hl,q2⟩ => ?_) hs
  subst ex
  obtain rfl:ov = Value.ref e:=rx
  obtain ⟨⟨t,p⟩,_,_⟩:=(show ObjOk X.prog X.w H2 s2.heap e (.ext (excRaw e C (some dx))) from I2.hok e _ he)
  obtain ⟨⟨mA,n,r,wi⟩,_,_⟩:=(show ObjOk X.prog X.w H2 s2.heap dx (.ext (xdAt dx fs)) from I2.hok dx _ hdx)
  have hz:(fs.map (·.1)).length ≤ sizeLine:=by rw [List.length_map,sizeLine_eq]; omega
  refine set_exc1 I2.kIn c ht p n wi hz fun h' n' sb => ?_
  refine ⟨σ,_,I2.write (x:=dx) (e:=dx) (o:=.ext (xdAt dx (putF f y fs))) (h':=h') (t':=s2.toks + 2) (by rw [hdx]; exact True.intro) (.inl rfl) (fun b ob hb z => (sb.2 b hb).trans z) (let ⟨o,_,_,e,_⟩:=n'; ⟨o,e⟩) (xdAt_ok ⟨_,n',fun g => ?_,fun g hg => ?_⟩),q2⟩
  · show RelO ((putF f y fs).lookup g) (if g = f then some u else mA g)
    rw [lookup_putF]
    by_cases z:g = f
    · rw [if_pos z,if_pos z]; exact ry
    · rw [if_neg z,if_neg z]; exact r g
  · by_cases z:g = f
    · rw [z]; exact (keys_putF f y fs).1
    · refine (keys_putF f y fs).2 g (wi g fun zz => hg ?_)
      show (if g = f then some u else mA g) = none
      rw [if_neg z]
      exact zz
end
end L2
namespace L2
open PySem PySem.Spec PyProof.Rows Builtin Builtin.ObjectAttr
structure BaseI (K:PySem.W.Frag) (R:Addr):Prop where
  ga:PySem.W.specialIn K (.ref R) "__getattribute__" = some (some (.builtin "type.__getattribute__"))
  rd:PySem.W.readsIn K R (.type "type") = true
  fi:PySem.W.findCls K (.ref R) (.type "type") "__init__" = some (.val (.builtin "ValueError.__init__"))
theorem upd_id {H:Hp} {a:Addr} {o:HO} (h:H a = some o):upd H a o = H:=by
  funext b
  unfold upd
  split
  · next e => rw [e,h]
  · rfl
section
variable {X:Cx}
theorem init_run {pins:List (Addr × Obj)} {σ:St} {H:Hp} {s:Shared} {e C:Addr} {d:Option Addr} {us:List Value} {Q:Value → Shared → Prop} (I:Inv X pins σ H s) (hx:excInI X.K C bmVE "ValueError.__new__" = true) (he:H e = some (.ext (excRaw e C d))) (hl:us.length ≤ sizeLine)
    (h:∀ s',Inv X pins σ H s' → Q .none s'):wpAny (model X.prog X.w) X.A (call (.builtin "ValueError.__init__") (.ref e :: us)) Q X.xe s:=by
  have F:=PySem.F.excBase_ValueError
  obtain ⟨⟨t,p⟩,_,_⟩:=(show ObjOk X.prog X.w H s.heap e (.ext (excRaw e C d)) from I.hok e _ he)
  obtain ⟨bm,N,nm,qq,bs,hdct,sn,sub,ab,col,dd,k0,k1,k2,k3,k5,hCl,T⟩:=(excI_of I.kIn hx).obj
  have fin:∀ h' tk,h'.get? e = some (rawExc C d s.heap.objs.size) → (∀ b o,b ≠ e → s.heap.get? b = some o → h'.get? b = some o) → Q .none { s with heap:=h',toks:=tk }:=fun h' tk p' k' => by
    have I3:=I.write (x:=e) (e:=e) (o:=.ext (excRaw e C d)) (h':=h') (t':=tk) (by rw [he]; exact True.intro) (.inl rfl) (fun b ob hb z => k' b ob hb z) ⟨_,p'⟩ (excRaw_ok ⟨_,p'⟩)
    rw [upd_id he] at I3
    exact h _ I3
  obtain ⟨hh,g,dr,tt,os⟩:=s
  dsimp only at p hCl fin
  refine wpAny_call (codeAny_call_builtin F.init.plain F.initEntry (wpAny_check_init_subU F T hCl p rfl ?_))
  have p1:(hh.push { cls:=.type "tuple",data:=.seq us.toArray }).get? e = some (rawExc C d t):=Heap.get?_push_of_some _ p
  wp_walk
  refine fin _ _ ?_ fun b o hb z => ?_
  · rw [Heap.get?_update_self _ p1 rfl]
    rfl
  · rw [Heap.get?_update_other _ _ (Ne.symm hb)]
    exact Heap.get?_push_of_some _ z
theorem pe_baseInit {c:Str} {R:Addr} {p apos pos:Pos} {e₀:Expr} {es:List Expr} {t:TA} {pl:Sem Bool} (b:BaseI X.K R) (hg:Gl X c) (hm:X.mg c = some (.ref R)) (ha:PA X (e₀ :: es) t)
    (ht:eval (.Call (.Attribute (.Name c p) "__init__" apos) (e₀ :: es) [] pos) X.env = (do
      let ov ← eval (.Name c p) X.env
      standAt apos.atName
      let (f,first) ← holding [ov] (getMethod ov "__init__" pl)
      callWith pos f first (backTo pos (starEach (e₀ :: es) X.env)) (backToKw pos (keywordEach [] X.env))))
    (hd:(c == ("__debug__":Str)) = false:=by decide) (he:starEach (e₀ :: es) X.env = (false,eval e₀ X.env) :: starEach es X.env:=by rfl) (hpl:(backTo pos (starEach es X.env)).any (·.1) = false:=by rfl) :
    PE X (.Call (.Attribute (.Name c p) "__init__" apos) (e₀ :: es) [] pos) (fun σ H Q => t σ H fun vs H1 => ∃ e C d rest,vs = .ref e :: rest ∧ excInI X.K C bmVE "ValueError.__new__" = true ∧ H1 e = some (.ext (excRaw e C d)) ∧ rest.length ≤ sizeLine ∧ Q .non H1):=by
  intro pins s σ H Q I h
  refine PySem.W.methodCall_KW (pl:=pl) (ld_glob I hg hm (PySem.W.method_cls I.kIn b.ga (PySem.W.cls_value I.kIn b.rd b.fi rfl ?_)) hd) ht
  have hA:=ha pos pins { s with toks:=s.toks + 1 } σ H _ (I.tok _) h
  rw [he] at hA ⊢
  refine Calls.callWith_builtin (by show (false || (backTo pos (starEach es X.env)).any (·.1)) = false; rw [hpl] <;> rfl) (Calls.evalArgs_plain ?_)
  refine thn hA fun us s2 ⟨vs,H2,I2,r2,e,C,d,rest,ev,hx,hq,hl,q2⟩ => ?_
  subst ev
  cases r2 with
  | cons r1 rr =>
    obtain rfl:_ = Value.ref e:=r1
    exact init_run I2 hx hq (by rw [← rr.length]; exact hl) fun s' I3 => ⟨.non,H2,I3,rfl,q2⟩
end
section
variable {prog:Program} {w:World} {A:Around} {E:Value → Shared → Prop} {s:Shared} {K:PySem.W.Frag} {x D:Addr} {name:Str} {v:Value}
theorem exc_gaVal {tk:Tok} {R:Result → Shared → Prop} (be:PySem.W.mroIn K D (.type "BaseException") = some true) (X:K.In s.heap) (LT:PySem.W.Looks (model prog w) s.heap (typeOf (.ref x)) (.ref D)) (LF:PySem.W.Looks (model prog w) s.heap (find (.ref x) (.ref D) name) (.value v))
    (h:R (.ok (.ret v)) s):codeAny (model prog w) A (.call (.builtin "BaseException.__getattribute__") ⟨[.ref x,.str name tk],[]⟩) R s:=by
  obtain ⟨hh,gs,dr,tt,oss⟩:=s
  have LI:PySem.W.Looks (model prog w) hh (isInstance (.ref x) (.type "BaseException")) true:=LT.andThen (PySem.W.looks_mroIn (M:=model prog w) X be)
  have hk:builtinKind "BaseException.__getattribute__" = some Manifest.AttrKind.slot:=by decide +kernel
  have hsp:splitId "BaseException.__getattribute__" = some ("BaseException","__getattribute__"):=by decide +kernel
  refine codeAny_call_builtin PySem.F.attr_ValueError.ga.plain PySem.F.entry_bexc_ga ?_
  simp only [checkBuiltinCall,hk,hsp]
  have hargs:=PySem.F.args_bexc_ga (.ref x) (.str name tk)
  refine wpAny_bind (LI.at ?_)
  first
    | (rw [if_neg (by decide)]; refine wpAny_of_eq hargs ?_)
    | refine wpAny_of_eq hargs ?_
  show wpAny _ _ (Builtin.«object.__getattribute__» _) _ _ _
  exact wpAny_bind (wpAny_pure (wpAny_bind (wpAny_pure (wpAny_bind (LT.at (wpAny_bind (LF.at (wpAny_pure h))))))))
theorem exc_getAttr {b:Bool} {Q:Value → Shared → Prop} (c:ExcCls K D) (X:K.In s.heap) (LT:PySem.W.Looks (model prog w) s.heap (typeOf (.ref x)) (.ref D)) (LF:PySem.W.Looks (model prog w) s.heap (find (.ref x) (.ref D) name) (.value v)) (hv:PySem.W.handedIn v = true)
    (h:Q v { s with toks:=s.toks + 1 }):wpAny (model prog w) A (getAttr (.ref x) name b) Q E s:=by
  obtain ⟨hh,gs,dr,tt,oss⟩:=s
  have LG:=PySem.W.looks_findIn (M:=model prog w) X c.ga
  have LH:=PySem.W.looks_findIn (M:=model prog w) X c.gh
  have hb:=PySem.F.attr_ValueError.ga.bind (.ref x)
  refine wpAny_bind (wpAny_mkText (wpAny_holding (wpAny_bind (LT.at (wpAny_bind (LG.at ?_))))))
  show wpAny _ _ (getAttrByItsOwn (.ref x) (.str name tt) (.ref D) _ true b) _ _ _
  unfold getAttrByItsOwn hookBefore
  refine wpAny_bind (LH.at (wpAny_bind (wpAny_attempt (wpAny_holding ?_))))
  unfold callGetattribute
  rw [show (b && onTheHeap (Value.builtin "BaseException.__getattribute__")) = false from Bool.and_false b,if_neg (by decide)]
  unfold boundAndCalled
  refine wpAny_bind (wpAny_of_eq hb ?_)
  show wpAny _ _ (call (.builtin "BaseException.__getattribute__") [.ref x,.str name tt]) _ _ _
  exact wpAny_call (exc_gaVal (s:=⟨hh,gs,dr,tt + 1,oss⟩) c.be X LT LF (PySem.W.handed_on hv h))
theorem find_own {M:Model} {h:Heap} {ox od:Obj} (X:K.In h) (I:PySem.W.InstAt h x ox D (some od)) (hh:PySem.W.hasDictIn K D = true) (ha:PySem.W.findIn K (.ref D) name = some none) (hl:PySem.W.lookIn name od = some (some v)) :
    PySem.W.Looks M h (find (.ref x) (.ref D) name) (.value v):=by
  obtain ⟨cd,hc,hd⟩:=PySem.W.any_some hh
  have z1:=PySem.W.looks_findIn (M:=M) X ha
  have z2:PySem.W.Looks M h (inOwnDict name (.ref x)) (some v):=PySem.W.looks_own X I hc (by unfold PySem.W.ownOf; rw [hd]; exact hl)
  have z3:PySem.W.Looks M h (ownThenClass (.ref x) name none none) (.value v):=z2.andThen (PySem.W.Looks.tag .now)
  have z4:PySem.W.Looks M h (dataDescriptor? none none) none:=.now
  have z5:PySem.W.Looks M h (getOf none) none:=.now
  exact z1.andThen (z5.andThen (z4.andThen z3))
end
section
variable {X:Cx} {e:Expr} {f:Str} {pos:Pos} {ta:TE}
theorem pe_xget (he:PE X e ta) (hb:attributeBase e f X.env (eval e X.env) = eval e X.env):PE X (.Attribute e f pos)
    (fun σ H Q => ta σ H fun x H1 => ∃ a D dx fs v,x = .ref a ∧ ExcCls X.K D ∧ PySem.W.hasDictIn X.K D = true ∧ PySem.W.findIn X.K (.ref D) f = some none ∧ H1 a = some (.ext (excAt a (.ref D) (some dx))) ∧ H1 dx = some (.ext (xdAt dx fs)) ∧ fs.lookup f = some v ∧ Q v H1):=by
  intro pins s σ H Q I h
  refine attr_of hb (thn (he pins s σ H _ I h) fun u s1 ⟨x,H1,I1,rx,a,D,dx,fs,v,ex,c,hh,hf,ha,hx,l,q⟩ => ?_)
  subst ex
  obtain rfl:u = Value.ref a:=rx
  obtain ⟨p,_,_⟩:=(show ObjOk X.prog X.w H1 s1.heap a (.ext (excAt a (.ref D) (some dx))) from I1.hok a _ ha)
  obtain ⟨⟨mA,n,r,wi⟩,_,_⟩:=(show ObjOk X.prog X.w H1 s1.heap dx (.ext (xdAt dx fs)) from I1.hok dx _ hx)
  obtain ⟨od,hod,hl⟩:=lookIn_ns n
  obtain ⟨u,hu,ru⟩:=RelO.some_of (v:=v) (o:=mA f) (by rw [← l]; exact r f)
  have LT:=excAt_ty (model X.prog X.w) s1.heap p
  obtain ⟨o,vs,h1,h2,h3,h4⟩:=p
  have J:PySem.W.InstAt s1.heap a o D (some od):=⟨h1,h2,by unfold PySem.W.notCls; rw [h4],by rw [h3]; exact hod⟩
  exact exc_getAttr c I1.kIn LT (find_own I1.kIn J hh hf (by rw [hl,hu])) (handed_of ru) ⟨v,H1,I1.tok _,ru,q⟩
end
end L2
namespace L2
open PySem PySem.Spec PyProof.Rows
structure Shw (d:PyData) (n m:Nat):Prop where
  sh:d.showable = true
  nd:d.hasDict = false
  dp:d.depth ≤ m
  ln:d.shown.length ≤ n
structure Shws (ds:List PyData) (n m:Nat):Prop where
  sh:PyData.showableAll ds = true
  nd:PyData.hasDictAll ds = false
  dp:PyData.depthAll ds ≤ m
  ln:piled (PyData.shownAll ds) ≤ n
theorem Shw.le {d:PyData} {n m n' m':Nat} (h:Shw d n m) (hn:n ≤ n') (hm:m ≤ m'):Shw d n' m':=⟨h.sh,h.nd,Nat.le_trans h.dp hm,Nat.le_trans h.ln hn⟩
theorem shw_non (m:Nat):Shw .none 4 m:=⟨by simp only [PyData.showable],by simp only [PyData.hasDict],by simp only [PyData.depth]; omega,by simp only [PyData.shown]; exact Nat.le_refl 4⟩
theorem shw_str {y:Str} (h:PyData.strOk y = true) (m:Nat):Shw (.str y) (10 * y.length + 2) m:=by
  refine ⟨by simp only [PyData.showable],by simp only [PyData.hasDict],by simp only [PyData.depth]; omega,?_⟩
  simp only [PyData.shown]
  refine StrLaws.reprText_len y fun c hc => ?_
  have h1:y.cps.all (· < 0x110000) = true:=h
  rw [Array.all_eq_true_iff_forall_mem] at h1
  have h3:c < 0x110000:=by simpa using h1 c (by simpa using hc)
  exact Nat.lt_trans h3 (by decide)
theorem shw_int {i:Int} (h0:0 ≤ i) (h1:i ≤ 10 ^ 18) (m:Nat):Shw (.int i) 64 m:=by
  have hb:i.natAbs < 10 ^ 19:=by omega
  have hb2:i.natAbs < 2 ^ 64:=Nat.lt_of_le_of_lt (show i.natAbs ≤ 10 ^ 18 by omega) (by decide)
  refine ⟨?_,by simp only [PyData.hasDict],by simp only [PyData.depth]; omega,?_⟩
  · simp only [PyData.showable,decide_eq_true_eq]
    rcases Nat.eq_zero_or_pos i.natAbs with z | z
    · rw [z]; decide
    · exact Nat.lt_trans ((Nat.log2_lt (by omega)).mpr hb2) (by decide)
  · simp only [PyData.shown]
    have e:=int_text_length_le10 (k:=19) (by decide) hb
    show (Str.ofString (toString i)).length ≤ 64
    rw [PySem.ofString_length]
    omega
theorem shws_nil (m:Nat):Shws [] 0 m:=⟨by simp only [PyData.showableAll],by simp only [PyData.hasDictAll],by simp only [PyData.depthAll]; omega,by simp only [PyData.shownAll]; exact Nat.le_refl 0⟩
theorem shws_cons {d:PyData} {ds:List PyData} {n n' m:Nat} (h:Shw d n m) (r:Shws ds n' m):Shws (d :: ds) (n + 2 + n') m:=by
  refine ⟨?_,?_,?_,?_⟩
  · simp only [PyData.showableAll,h.sh,r.sh,Bool.and_self]
  · simp only [PyData.hasDictAll,h.nd,r.nd,Bool.or_self]
  · simp only [PyData.depthAll]
    exact Nat.max_le.mpr ⟨h.dp,r.dp⟩
  · simp only [PyData.shownAll]
    rw [piled_cons]
    have:=h.ln
    have:=r.ln
    omega
theorem shw_tup {ds:List PyData} {n m:Nat} (h:Shws ds n m):Shw (.tuple ds) (n + 3) (m + 1):=by
  refine ⟨by simp only [PyData.showable]; exact h.sh,by simp only [PyData.hasDict]; exact h.nd,by simp only [PyData.depth]; exact Nat.succ_le_succ h.dp,?_⟩
  simp only [PyData.shown]
  have hl:=h.ln
  generalize PyData.shownAll ds = ts at hl
  unfold tupleText
  rw [strLen_append,strLen_append]
  have e1:(("(":Str)).length = 1:=rfl
  have e3:((if ts.length == 1 then ",)" else ")":String):Str).length ≤ 2:=by split <;> decide
  have e2:(Str.join ", " ts).length ≤ piled ts:=by
    by_cases z:ts = []
    · subst z; exact Nat.zero_le _
    · have:=join_length_add ts z; omega
  omega
section
variable {X:Cx} {k:Nat} {pos:Pos} {e:Expr} {te:TE}
theorem pe_frD (hr:Room k X.A) (he:PE X e te):PE X (.FormattedValue e 114 none pos) (fun σ H Q => te σ H fun v H1 => ∃ d n,Dat X.K H1 v d ∧ Shw d n 60 ∧ n ≤ 2000000 ∧ ∀ z:Str,z.length ≤ 2000000 → Q (.str z) H1):=by
  intro pins s σ H Q I h
  refine wpAny_FormattedValue_repr (thn (he pins s σ H _ I h) fun u s1 ⟨v,H1,I1,r,d,n,hd,sh,hn,q⟩ => ?_)
  have hl:d.shown.length ≤ 2000000:=Nat.le_trans sh.ln hn
  have hz:d.shown.length ≤ sizeLine:=Nat.le_trans hl (by rw [sizeLine_eq]; omega)
  have fin:∀ h' t tk,(∀ b o,s1.heap.get? b = some o → h'.get? b = some o) → wpAny (model X.prog X.w) X.A (formatField (.str d.shown t) Str.empty) (EP X pins σ Q) X.xe { s1 with heap:=h',toks:=tk }:=fun h' t tk hk =>
    formatField_str (fun t' tk' => ⟨.str _,H1,(I1.kept (h':=h') (t':=tk) hk).tok _,⟨_,rfl⟩,q _ hl⟩) hz
  obtain ⟨as,ra⟩:=Dat.reads I1 hd r
  have hu:=hr.units
  have ref:∀ a,u = .ref a → wpAny (model X.prog X.w) X.A (pyReprObj u) (fun r s2 => wpAny (model X.prog X.w) X.A (formatField r Str.empty) (EP X pins σ Q) X.xe s2) X.xe s1:=fun a e => by
    subst e
    exact pyReprObj_of_reads ra sh.sh (PyData.noDict_hsm sh.nd) hr.gd (by have:=sh.dp; omega) (fun _ _ z => z) (fun h' u tk hk => fin h' u tk hk) hz
  cases hd with
  | non =>
    cases r
    simp only [PyData.shown] at fin
    exact pyReprObj_none (fin s1.heap _ _ fun _ _ z => z)
  | bl b =>
    cases r
    simp only [PyData.shown] at fin
    exact pyReprObj_bool (fin s1.heap _ _ fun _ _ z => z)
  | int i =>
    obtain ⟨t,rfl⟩:=r
    have hs:=sh.sh
    simp only [PyData.showable,decide_eq_true_eq] at hs
    simp only [PyData.shown] at fin
    exact pyReprObj_int hs (fin s1.heap _ _ fun _ _ z => z)
  | str x =>
    obtain ⟨t,rfl⟩:=r
    simp only [PyData.shown] at fin hz
    exact pyReprObj_str (fin s1.heap _ _ fun _ _ z => z) hz
  | tup _ _ => cases r; exact ref _ rfl
  | lst _ _ => cases r; exact ref _ rfl
end
end L2
namespace L2
open PySem PySem.Spec PyProof.Rows
section
variable {α β:Type}
variable {P:Shared → Prop}
end
section
variable {X:Cx} {st:Stmt} {rest:List Stmt} {t u:TS} {pos:Pos}
end
section
variable {X:Cx}
end
end L2
local macro_rules
  | `(sortPriv% $n:ident) => do
    if n.getId == `rn then return Lean.mkCIdent (Lean.mkPrivateNameCore `PySem.Builtin.Int.W0All `PySem.Builtin.readNumeral)
    if n.getId == `vl then return Lean.mkCIdent (Lean.mkPrivateNameCore `PySem.Builtin.Int.W0All `PySem.Builtin.Numeral.value)
    if n.getId == `nd then return Lean.mkCIdent (Lean.mkPrivateNameCore `PySem.Builtin.Int.W0All `PySem.Builtin.numeralDigits?)
    if n.getId == `bl then return Lean.mkCIdent (Lean.mkPrivateNameCore `PySem.Builtin.Int.W0All `PySem.Builtin.isBlank)
    Lean.Macro.throwUnsupported
namespace L2
open PySem
section
variable {prog:Program} {w:World} {A:Around} {E:Value → Shared → Prop} {s:Shared}
end
end L2
namespace L2
open PySem PySem.Spec PyProof.Rows
section
variable {X:Cx} {pos:Pos} {e:Expr} {es:List Expr} {te:TE}
theorem pss_no {X:Cx} {ss:List Stmt}:PSs X ss (fun _ _ _ => False):=fun _ _ _ _ _ _ h => h.elim
end
end L2
namespace L2
open PySem PySem.Spec PyProof.Rows
section
variable {prog:Program} {w:World} {A:Around} {R:Result → Shared → Prop} {I S:Addr} {fp wr:List Addr} {n:Nat} {P:Nat → Value → Prop} {St:Nat → Heap → Prop} {d:Value}
end
section
variable {X:Cx} {e:Expr} {es:List Expr} {kws:List Keyword} {t tk:TA} {p pos:Pos}
end
end L2
namespace L2
open PySem PySem.Spec PyProof.Rows
structure DKt (K:PySem.W.Frag) (w:World) (a:Addr) (ps:List (Str × Int)):Prop where
  ns:(a == sysModules) = false
  at_:∀ (P:Program) (h:Heap),K.In h → ∃ vs:List (Key × Value),KV (ps.map fun p => ((Sum.inr p.1:Key),V.int p.2)) vs ∧ h.DictOf (mixKind P w) a vs
section
variable {X:Cx} {o i:Expr} {pos:Pos} {td ty:TE}
end
end L2
namespace L2
open PySem PySem.Spec PyProof.Rows
section
variable {P:Program} {w:World} {K:PySem.W.Frag} {mg:Str → Option Value} {base:Heap}
theorem ps_raiseT {N:List Str} {qual:Str} {scope:Scope} {f:Addr} {cd:Value} {A:Around} {outer:List Env} {s:Shared} {H:Hp} {E:XK} {c:Str} {C fI:Addr} {k:Nat} {fd:FuncData} {ps:List Str} {sp:Sp} {e₀:Expr} {es:List Expr} {np cpos pos:Pos} {ta:TA}
    (M:MkX K C fI) (F:FnOk P w K mg base CX0 k fI fd ps sp) (hr:Room (k + 1) (A.deeper (envOfC qual scope s.heap.objs.size f cd))) (hb:Binds K fd ps [])
    (hg:Gl (cxOf (CX1 P w) P w K mg base N qual scope f cd A outer s H E) c) (hm:mg c = some (.ref C)) (ha:PA (cxOf (CX1 P w) P w K mg base N qual scope f cd A outer s H E) (e₀ :: es) ta)
    (hd:(c == ("__debug__":Str)) = false:=by decide) (he:starEach (e₀ :: es) (envOfC qual scope s.heap.objs.size f cd) = (false,eval e₀ (envOfC qual scope s.heap.objs.size f cd)) :: starEach es (envOfC qual scope s.heap.objs.size f cd):=by rfl)
    (hpl:(backTo cpos (starEach es (envOfC qual scope s.heap.objs.size f cd))).any (·.1) = false:=by rfl) :
    PS (cxOf (CX1 P w) P w K mg base N qual scope f cd A outer s H E) (.Raise (some (.Call (.Name c np) (e₀ :: es) [] cpos)) none pos)
      (fun _ σ H' => ta σ H' fun vs H1 => vs.length ≤ sizeLine ∧ ∀ e,H1 e = none → sp (.ref e :: vs) (upd H1 e (.ext (excRaw e C none))) (fun v H2 => v = .non ∧ ∃ d dd o u,H2 e = some (.ext (excRaw e C d)) ∧ H2 dd = some (.frz o u) ∧ (∀ o' u',H dd ≠ some (.frz o' u')) ∧ E (.ref C) d (cut (upd H2 dd u) e)) E0):=by
  intro pins s1 σ H1 D I h
  refine exc_Raise (K:=K) M.ex M.init M.fn (I.ok.hd rfl) ?_ (ld_glob I hg hm ⟨rfl,?_⟩ hd)
  · show (backTo cpos (starEach (e₀ :: es) (envOfC qual scope s.heap.objs.size f cd))).any (·.1) = false
    rw [he]
    show (false || (backTo cpos (starEach es (envOfC qual scope s.heap.objs.size f cd))).any (·.1)) = false
    rw [hpl]
    rfl
  · have h2:=ha cpos pins s1 σ H1 _ I h
    show wpAny _ _ (evalArgs (.ref C) true (backTo cpos (starEach (e₀ :: es) (envOfC qual scope s.heap.objs.size f cd))) []) _ _ _
    rw [show starEach (e₀ :: es) (cxOf (CX1 P w) P w K mg base N qual scope f cd A outer s H E).env = _ from he] at h2
    rw [he]
    refine Calls.evalArgs_plain (wpAny_mono h2 (fun us s2 ⟨vs,H2,I2,rv,hl,hw⟩ => ⟨rfl,?_,I2.kIn,?_⟩) fun _ _ z => z)
    · show us.length ≤ sizeLine
      rw [← rv.length]
      exact hl
    have hn:H2 (s2.heap.objs.size + 1) = none:=I2.hok.fresh (Nat.le_succ _)
    have hq:=hw _ hn
    have I3:=I2.laid (a:=s2.heap.objs.size + 1) (o:=.ext (excRaw (s2.heap.objs.size + 1) C none)) (h':=madeHp s2.heap C us) (t':=s2.toks) made_keeps (Nat.le_succ _) (excRaw_ok ⟨_,made_at⟩)
    have r2:Vals (V.ref (s2.heap.objs.size + 1) :: vs) (Value.ref (s2.heap.objs.size + 1) :: us):=.cons rfl rv
    have hlen:(Value.ref (s2.heap.objs.size + 1) :: us ++ []).length = ps.length:=by
      rw [List.append_nil,← r2.length]
      exact F.len _ _ _ _ hq
    have bd:=hb { s2 with heap:=madeHp s2.heap C us,toks:=s2.toks } (Value.ref (s2.heap.objs.size + 1) :: us) I3.kIn hlen
    rw [List.append_nil] at bd
    refine wpAny_call (codeAny_mono (F.run _ _ _ _ ⟨Value.ref (s2.heap.objs.size + 1) :: us,[]⟩ _ _ _ _ (hr.make C us []) (I3.env0.make C us []) bd r2 hq) fun r s' hq' => ?_)
    cases r with
    | error e => exact False.elim hq'
    | ok fl =>
      cases fl with
      | ret u =>
        obtain ⟨v,H3,I4,rv4,ev,dd,df,of,uf,hx4,hf,h0,hE⟩:=I3.after hq'
        subst ev
        obtain ⟨⟨tt,p4⟩,_,_⟩:=(show ObjOk P w H3 s'.heap _ (.ext (excRaw _ C dd)) from I4.hok _ _ hx4)
        refine ⟨rv4,I4.kIn,⟨dd,tt,p4⟩,?_⟩
        have I5:=I4.thaw hf h0
        have hx5:upd H3 df uf (s2.heap.objs.size + 1) = some (.ext (excRaw (s2.heap.objs.size + 1) C dd)):=by
          rw [upd_ne (fun z => by rw [z,hf] at hx4; cases hx4)]
          exact hx4
        exact Fly.first (I5.cut hx5) rfl rfl rfl p4 rfl rfl rfl rfl (Heap.get?_none_of_le (Nat.le_trans I2.sz (Nat.le_succ _))) cut_same fun s'' g gd => ⟨_,.ref C,dd,_,rfl,g,gd,hE⟩
      | next => exact False.elim hq'
      | brk => exact False.elim hq'
      | cont => exact False.elim hq'
end
end L2
namespace L2
open PySem PySem.Spec PyProof.Rows
section
variable {prog:Program} {w:World} {A:Around} {E:Value → Shared → Prop} {s:Shared}
theorem rawI_iter {v d:Addr} {es:Array DictEntry} {ep:Nat} {Q:Value → Shared → Prop} (hv:s.heap.IsItemsView v d) (hm:RawD s.heap d es ep)
    (hQ:Q (.ref s.heap.objs.size) { s with heap:=s.heap.push { cls:=.type "dict_itemiterator",data:=.fields #[.none,.bool false,.ref d,.int 0 0,.int es.size 0,.int ep 0,.none,.none] } }):wpAny (model prog w) A (pyIter (.ref v)) Q E s:=by
  obtain ⟨o,ho,hx,hdat⟩:=hm
  obtain ⟨ov,hov,hcv,hdv⟩:=id hv
  refine wpAny_pyIter_slot hv.typeIs F.slot_dict_items_iter (wpAny_call_entry F.slot_dict_items_iter hv.typeIs F.entry_dict_items_iter ?_ (F.args_dict_items_iter_1 _))
  unfold Builtin.«dict_items.__iter__» Builtin.Dict_items.dictOf Builtin.Dict_items.newIterator
  refine wpAny_bind (wpAny_pure (wpAny_bind (wpAny_bind (wpAny_field hov hdv rfl (wpAny_pure ?_)))))
  refine wpAny_bind (wpAny_bind (wpAny_dictEntries ho hdat (wpAny_bind (wpAny_dictEpoch ho hdat ?_))))
  exact wpAny_newObj_type (wpAny_pure ⟨_,rfl,"dict_itemiterator",_,⟨_,Heap.get?_push_size _ rfl,rfl⟩,F.slot_dict_itemiterator_next.lookup,hQ⟩) (show sizeOk (.fields #[.none,.bool false,.ref d,.int 0 0,.int es.size 0,.int ep 0,.none,.none]) from by size_fits)
theorem rawI_item {it d:Addr} {i ep:Nat} {es:Array DictEntry} {ok ov:Value} {Q:Option Value → Shared → Prop} (hit:IsItemIter s.heap it d i es.size ep ok ov) (hm:RawD s.heap d es ep) (hi:i < es.size)
    (hQ:∀ h',IsItemIterOut h' it d (i + 1) es.size ep es[i].key es[i].val s.heap.objs.size → h'.get? s.heap.objs.size = some { cls:=.type "tuple",data:=.seq #[es[i].key,es[i].val] } → h'.objs.size = s.heap.objs.size + 1 →
      (∀ (b:Addr) (o:Obj),b ≠ it → s.heap.get? b = some o → h'.get? b = some o) → Q (some (.ref s.heap.objs.size)) { s with heap:=h' }):wpAny (model prog w) A (pyNext (.ref it)) Q E s:=by
  have tyI:s.TypeIs (.ref it) "dict_itemiterator":=⟨_,hit,rfl⟩
  obtain ⟨od,hod,_,hdd⟩:=hm
  unfold pyNext
  refine wpAny_bind (wpAny_attempt (wpAny_callSpecial?_slot (name:=Str.ofString "__next__") tyI F.slot_dict_itemiterator_next (wpAny_call_entry F.slot_dict_itemiterator_next tyI F.entry_dict_itemiterator_next ?_ (F.args_dict_itemiterator_next_1 _))))
  refine wpAny_bind (wpAny_pure (wpAny_bind (wpAny_bind ?_)))
  refine wpAny_bind (wpAny_typeNameOfWhole_itemiter tyI (wpAny_pure ?_))
  refine wpAny_bind (wpAny_fieldsOf hit rfl ?_)
  show wpAny _ _ (if (Value.ref d == .none) = true then _ else _) _ _ s
  have ne0:¬ ((Value.ref d == Value.none) = true):=fun z => Bool.false_ne_true z
  rw [if_neg ne0]
  refine wpAny_bind (wpAny_pure (wpAny_bind (wpAny_dictEntries hod hdd ?_)))
  rw [if_neg (by simp)]
  refine wpAny_bind (wpAny_pure (wpAny_bind (wpAny_dictEpoch hod hdd ?_)))
  rw [if_neg (by simp)]
  refine wpAny_pure ?_
  simp only [show ¬ ((i:Int) < 0) from Int.not_lt.mpr (Int.natCast_nonneg i),if_false,Int.toNat_natCast,Array.getElem?_eq_getElem hi]
  refine wpAny_bind (wpAny_bind (wpAny_typeNameOfWhole_itemiter tyI (wpAny_pure ?_)))
  refine wpAny_bind (wpAny_isOneOf_itemiter tyI ?_)
  refine (show wpAny _ _ (setField (.ref it) 3 (rawInt ((i:Int) + 1)) >>= _) _ _ s from wpAny_bind (wpAny_setField_rec hit (by simp) fun h1 g1 b1 => ?_))
  have lt:it < s.heap.objs.size:=Heap.lt_size hit
  have ty1:Shared.TypeIs { s with heap:=h1 } (.ref it) "dict_itemiterator":=⟨_,g1,rfl⟩
  have sz1:h1.objs.size = s.heap.objs.size:=b1.1
  refine wpAny_bind (wpAny_holding (wpAny_bind (wpAny_isOneOf_itemiter ty1 ?_)))
  refine (show wpAny _ _ (Builtin.Dict_items.isOneOf (.ref it) ["dict_valueiterator","dict_reversevalueiterator"] >>= _) _ _ _ from wpAny_bind (wpAny_isOneOf_itemiter ty1 ?_))
  refine (show wpAny _ _ (Builtin.Dict_items.pairFromOwner (.ref it) 6 es[i].key es[i].val) _ _ _ from ?_)
  unfold Builtin.Dict_items.pairFromOwner Builtin.Dict_items.ownedTupleIsFree
  refine wpAny_bind (wpAny_newTuple ?_)
  have g2:=Heap.get?_push_of_some { cls:=Value.type "tuple",data:=Data.seq [es[i].key,es[i].val].toArray } g1
  refine wpAny_bind (wpAny_bind (wpAny_field g2 rfl rfl (wpAny_pure ?_)))
  refine (show wpAny _ _ (field (.ref it) 6 >>= _) _ _ _ from wpAny_bind (wpAny_field g2 rfl rfl ?_))
  refine wpAny_bind (wpAny_field g2 rfl rfl ?_)
  refine wpAny_bind (wpAny_setField_rec g2 (by simp) fun h3 g3 b3 => ?_)
  refine wpAny_bind (wpAny_setField_rec g3 (by simp) fun h4 g4 b4 => ?_)
  refine wpAny_bind (wpAny_setField_rec g4 (by simp) fun h5 g5 b5 => ?_)
  refine wpAny_bind (wpAny_setField_rec g5 (by simp) fun h6 g6 b6 => ?_)
  refine wpAny_bind (wpAny_letGo (wpAny_pure (wpAny_pure ⟨_,rfl,wpAny_pure ?_⟩)))
  have ns:∀ b:Addr,b ≠ it → h6.get? b = (h1.push { cls:=Value.type "tuple",data:=Data.seq [es[i].key,es[i].val].toArray }).get? b:=fun b hb => (b6.2 b hb).trans ((b5.2 b hb).trans ((b4.2 b hb).trans (b3.2 b hb)))
  have e1:h6.get? h1.objs.size = some { cls:=.type "tuple",data:=.seq #[es[i].key,es[i].val] }:=by
    rw [ns _ (fun z => by rw [sz1] at z; exact Nat.ne_of_gt lt z)]
    exact Heap.get?_push_size _ rfl
  have e2:h6.objs.size = s.heap.objs.size + 1:=by
    rw [b6.1,b5.1,b4.1,b3.1,Heap.size_push,sz1]
  have e3:∀ (b:Addr) (o:Obj),b ≠ it → s.heap.get? b = some o → h6.get? b = some o:=fun b o hb q => by
    rw [ns b hb]
    exact Heap.get?_push_of_some _ ((b1.2 b hb).trans q)
  have g6':IsItemIterOut h6 it d (i + 1) es.size ep es[i].key es[i].val h1.objs.size:=g6
  rw [sz1] at e1 g6' ⊢
  exact hQ h6 g6' e1 e2 e3
theorem rawI_end {it d:Addr} {i ep:Nat} {es:Array DictEntry} {ok ov:Value} {Q:Option Value → Shared → Prop} (hh:A.handled = none) (hit:IsItemIter s.heap it d i es.size ep ok ov) (hm:RawD s.heap d es ep) (hi:es.size ≤ i)
    (hF:∀ h',Heap.ExtBut it s.heap h' → Q none { s with heap:=h' }):wpAny (model prog w) A (pyNext (.ref it)) Q E s:=by
  have tyI:s.TypeIs (.ref it) "dict_itemiterator":=⟨_,hit,rfl⟩
  obtain ⟨od,hod,_,hdd⟩:=hm
  unfold pyNext
  refine wpAny_bind (wpAny_attempt (wpAny_callSpecial?_slot (name:=Str.ofString "__next__") tyI F.slot_dict_itemiterator_next (wpAny_call_entry F.slot_dict_itemiterator_next tyI F.entry_dict_itemiterator_next ?_ (F.args_dict_itemiterator_next_1 _))))
  refine wpAny_bind (wpAny_pure (wpAny_bind (wpAny_bind ?_)))
  refine wpAny_bind (wpAny_typeNameOfWhole_itemiter tyI (wpAny_pure ?_))
  refine wpAny_bind (wpAny_fieldsOf hit rfl ?_)
  show wpAny _ _ (if (Value.ref d == .none) = true then _ else _) _ _ s
  have ne0:¬ ((Value.ref d == Value.none) = true):=fun z => Bool.false_ne_true z
  rw [if_neg ne0]
  refine wpAny_bind (wpAny_pure (wpAny_bind (wpAny_dictEntries hod hdd ?_)))
  rw [if_neg (by simp)]
  refine wpAny_bind (wpAny_pure (wpAny_bind (wpAny_dictEpoch hod hdd ?_)))
  rw [if_neg (by simp)]
  refine wpAny_pure ?_
  simp only [show ¬ ((i:Int) < 0) from Int.not_lt.mpr (Int.natCast_nonneg i),if_false,Int.toNat_natCast,Array.getElem?_eq_none hi]
  refine wpAny_bind (wpAny_bind (wpAny_typeNameOfWhole_itemiter tyI (wpAny_pure ?_)))
  refine (show wpAny _ _ (setField (.ref it) 2 .none >>= _) _ _ s from wpAny_bind (wpAny_setField hit rfl (by simp) ?_))
  refine (show wpAny _ _ (newExc (.type "StopIteration") [] >>= _) _ _ _ from wpAny_bind ?_)
  simp only [newExc,newTuple]
  refine wpAny_bind (wpAny_newObj_type (dict:=none) ?_ (by size_fits))
  refine wpAny_bind (m:=firstArgMember _ _) (wpAny_of_eq (a:=Value.none) (by first | rfl | (simp only [firstArgMember]; rfl)) (wpAny_newObj_type ?_ (by size_fits)))
  simp only [raiseNew]
  refine wpAny_bind (m:=_) (wpAny_handled ?_)
  rw [(show A.in1.handled = none from hh)]
  refine wpAny_bind (wpAny_pure (wpAny_throw (wpAny_bind ?_)))
  refine wpAny_isInstance (b:=true) (T:="StopIteration") ⟨_,Heap.get?_push_size _ rfl,rfl⟩ isSubtype_stop ?_
  exact wpAny_pure (hF _ (((Heap.SameBut.update ..).extBut.push _).push _))
end
end L2
namespace L2
open PySem PySem.Spec PyProof.Rows
theorem dt_raw {P:Program} {w:World} {H:Hp} {h:Heap} {a:Addr} {kvs:List (List Key × V)} {es:Array DictEntry} {ep:Nat} (x:ObjOk P w H h a (.dT kvs)) (r:RawD h a es ep):kvs.length = es.size ∧ ∀ (i:Nat) (p:List Key × V),kvs[i]? = some p → ∃ (k:Addr) (v:Value) (hi:i < es.size),es[i].key = .ref k ∧ es[i].val = v ∧ H k = some (.tup (p.1.map kV)) ∧ RelV p.2 v:=by
  obtain ⟨z,hd,ys,rel,o,es2,ep2,e,ex,dt,eqs,_⟩:=x
  obtain ⟨o',e',_,dt'⟩:=r
  rw [e] at e'
  cases e'
  rw [dt] at dt'
  cases dt'
  have hl2:kvs.length = ys.length:=Paired.length rel
  have hlen:es.size = ys.length:=by
    have:=congrArg List.length eqs
    rw [List.length_map] at this
    simpa using this
  refine ⟨by rw [hl2,hlen],fun i p hp => ?_⟩
  obtain ⟨q,hq,h1,h2,h3⟩:=pair_get rel hp
  have hi:i < es.size:=by
    rw [hlen]
    exact (List.getElem?_eq_some_iff.mp hq).1
  have e1:es.toList[i]? = some es[i]:=by simp [hi]
  rw [eqs,List.getElem?_map,hq] at e1
  have e2:=Option.some.inj e1
  exact ⟨q.2.1,q.2.2,hi,by rw [← e2]; rfl,by rw [← e2]; rfl,h2,h3⟩
theorem meets_items_raw {prog:Program} {w:World} (d:Addr) (hs:(d == sysModules) = false):MeetsIn prog w (Builtin.«dict.items» { pos:=[.ref d] }) fun _ R s => (∃ es ep,RawD s.heap d es ep) ∧ R (.ok (.ret (.ref s.heap.objs.size))) { s with heap:=s.heap.push { cls:=.type "dict_items",data:=.fields #[.ref d] } }:=by
  refine MeetsIn.of_wp fun A R s h => ?_
  obtain ⟨⟨es,ep,o,e,ex,dt⟩,h⟩:=h
  unfold Builtin.«dict.items» Builtin.Dict.noArgs Builtin.Dict.showsAll
  refine wpAny_bind (wpAny_bind (wpAny_notOrdered_dict (show s.TypeIs (.ref d) "dict" from ⟨o,e,ex.1⟩) ?_))
  refine (show wpAny _ _ (Builtin.Dict.nameIsSure "items" _ false >>= _) _ _ s from wpAny_bind (wpAny_of_eq (a:=()) rfl ?_))
  refine (show wpAny _ _ (pure (Value.ref d) >>= _) _ _ s from wpAny_bind (wpAny_pure (wpAny_pure ?_)))
  rw [if_neg (fun z => Bool.false_ne_true (hs.symm.trans z))]
  exact wpAny_bind (wpAny_pure (wpAny_bind (wpAny_newObj_type (wpAny_pure ⟨_,rfl,h⟩) (by show 1 ≤ sizeLine + 2; omega))))
section
variable {X:Cx}
end
end L2
namespace L2
open PySem PySem.Spec PyProof.Rows
section
variable {X:Cx}
end
end L2
namespace L2
open PySem PySem.Spec PyProof.Rows PySem.Calls
section
variable {prog:Program} {w:World} {K:Type} [DecidableEq K] {knd:HeapKind prog w K} {A:Around} {E:Value → Shared → Prop} {s:Shared}
end
section
variable {X:Cx}
end
end L2
namespace L2
open PySem PySem.Spec PyProof.Rows PySem.W
section
variable {prog:Program} {w:World} {A:Around} {E:Value → Shared → Prop} {s:Shared}
theorem rawO_item {it d a:Addr} {f:Bool} {i ep:Nat} {es:Array DictEntry} {ok ov:Value} {oa:Obj} {Q:Option Value → Shared → Prop} (hit:KdxIt s.heap it d i es.size ep ok ov a f) (ha:s.heap.get? a = some oa) (hai:a ≠ it) (hm:RawD s.heap d es ep) (hi:i < es.size)
    (hQ:∀ h',KdxIt h' it d (i + 1) es.size ep ok ov a true → h'.get? s.heap.objs.size = some { cls:=.type "tuple",data:=.seq #[es[i].key,es[i].val] } → h'.objs.size = s.heap.objs.size + 1 →
      (∀ (b:Addr) (o:Obj),b ≠ it → s.heap.get? b = some o → h'.get? b = some o) → Q (some (.ref s.heap.objs.size)) { s with heap:=h' }):wpAny (model prog w) A (pyNext (.ref it)) Q E s:=by
  obtain ⟨hp,g,dr,tk,os⟩:=s
  have tyI:Shared.TypeIs ⟨hp,g,dr,tk,os⟩ (.ref it) "dict_itemiterator":=⟨_,hit,rfl⟩
  obtain ⟨od,hod,_,hdd⟩:=hm
  unfold pyNext
  refine wpAny_bind (wpAny_attempt (wpAny_callSpecial?_slot (name:=Str.ofString "__next__") tyI F.slot_dict_itemiterator_next (wpAny_call_entry F.slot_dict_itemiterator_next tyI F.entry_dict_itemiterator_next ?_ (F.args_dict_itemiterator_next_1 _))))
  refine wpAny_bind (wpAny_pure (wpAny_bind (wpAny_bind ?_)))
  refine wpAny_bind (wpAny_typeNameOfWhole_itemiter tyI (wpAny_pure ?_))
  refine wpAny_bind (wpAny_fieldsOf hit rfl ?_)
  simp only [show Builtin.Dict_items.ownsTuple "dict_itemiterator" = true from by decide,if_true]
  show wpAny _ _ (if (Value.ref d == .none) = true then _ else _) _ _ _
  have ne0:¬ ((Value.ref d == Value.none) = true):=fun z => Bool.false_ne_true z
  rw [if_neg ne0]
  refine wpAny_bind (wpAny_pure (wpAny_bind (wpAny_dictEntries hod hdd ?_)))
  rw [if_neg (by simp)]
  refine wpAny_bind (wpAny_pure (wpAny_bind (wpAny_dictEpoch hod hdd ?_)))
  rw [if_neg (by simp)]
  refine wpAny_pure ?_
  simp only [show ¬ ((i:Int) < 0) from Int.not_lt.mpr (Int.natCast_nonneg i),if_false,Int.toNat_natCast,Array.getElem?_eq_getElem hi]
  refine wpAny_bind (wpAny_bind (wpAny_typeNameOfWhole_itemiter tyI (wpAny_pure ?_)))
  refine wpAny_bind (wpAny_isOneOf_itemiter tyI ?_)
  refine (show wpAny _ _ (setField (.ref it) 3 (rawInt ((i:Int) + 1)) >>= _) _ _ _ from wpAny_bind (wpAny_setField_rec hit (by simp) fun h1 g1 b1 => ?_))
  replace b1:Heap.SameBut it hp h1:=b1
  replace g1:KdxIt h1 it d (i + 1) es.size ep ok ov a f:=by
    have e:((i + 1:Nat):Int) = (i:Int) + 1:=by omega
    unfold KdxIt; rw [e]; simpa [rawInt] using g1
  have ty1:Shared.TypeIs ⟨h1,g,dr,tk,os⟩ (.ref it) "dict_itemiterator":=⟨_,g1,rfl⟩
  refine wpAny_bind (wpAny_holding (wpAny_bind (wpAny_isOneOf_itemiter ty1 ?_)))
  refine (show wpAny _ _ (Builtin.Dict_items.isOneOf (.ref it) ["dict_valueiterator","dict_reversevalueiterator"] >>= _) _ _ _ from wpAny_bind (wpAny_isOneOf_itemiter ty1 ?_))
  refine (show wpAny _ _ (Builtin.Dict_items.pairFromOwner (.ref it) 6 es[i].key es[i].val) _ _ _ from ?_)
  unfold Builtin.Dict_items.pairFromOwner
  refine wpAny_bind (wpAny_newTuple ?_)
  have sz1:h1.objs.size = hp.objs.size:=b1.1
  have lt:it < hp.objs.size:=Heap.lt_size hit
  obtain ⟨h2,eh2⟩:∃ h2,h2 = h1.push { cls:=.type "tuple",data:=.seq #[es[i].key,es[i].val] }:=⟨_,rfl⟩
  have g2:KdxIt h2 it d (i + 1) es.size ep ok ov a f:=by rw [eh2]; exact Heap.get?_push_of_some _ g1
  have t2:h2.get? hp.objs.size = some { cls:=.type "tuple",data:=.seq #[es[i].key,es[i].val] }:=by rw [eh2,← sz1]; exact Heap.get?_push_size _ rfl
  have z2:h2.objs.size = hp.objs.size + 1:=by rw [eh2,Heap.size_push,sz1]
  have k2:∀ (b:Addr) (o:Obj),b ≠ it → hp.get? b = some o → h2.get? b = some o:=fun b o hb e => by rw [eh2]; exact Heap.get?_push_of_some _ (b1.extBut b o hb e)
  have a2:h2.get? a = some oa:=k2 a oa hai ha
  refine (show wpAny _ _ (Builtin.Dict_items.ownedTupleIsFree (.ref it) >>= _) _ _ (⟨h1.push { cls:=.type "tuple",data:=.seq #[es[i].key,es[i].val] },g,dr,tk,os⟩:Shared) from ?_)
  rw [sz1,← eh2]
  refine wpAny_bind ?_
  unfold Builtin.Dict_items.ownedTupleIsFree
  refine wpAny_bind (wpAny_field g2 rfl (x:=rawInt a) rfl (show wpAny _ _ (loadIfAlive ((a:Int).toNat) >>= _) _ _ _ from ?_))
  rw [Int.toNat_natCast]
  refine wpAny_bind (kdx_alive a2 ?_)
  simp only [Option.isNone_some,Bool.false_eq_true,if_false]
  refine wpAny_bind (wpAny_field g2 rfl (x:=.bool f) rfl ?_)
  have fin:∀ h3:Heap,KdxIt h3 it d (i + 1) es.size ep ok ov a true → Heap.SameBut it h2 h3 → Q (some (.ref hp.objs.size)) ⟨h3,g,dr,tk,os⟩:=fun h3 g3 b3 =>
    hQ h3 g3 (b3.extBut _ _ (Nat.ne_of_gt lt) t2) (by rw [b3.1]; exact z2) fun b o hb e => b3.extBut b o hb (k2 b o hb e)
  cases f with
  | true =>
    rw [if_neg (show ¬ ((Value.bool true != Value.bool true) = true) from Bool.false_ne_true)]
    refine wpAny_pure ?_
    simp only [Bool.false_eq_true,if_false]
    exact wpAny_pure (wpAny_pure ⟨_,rfl,wpAny_pure (fin h2 g2 (Heap.SameBut.refl _ _))⟩)
  | false =>
    rw [if_pos (show (Value.bool false != Value.bool true) = true from rfl)]
    refine wpAny_bind (wpAny_setField_rec g2 (by simp) fun h3 g3 b3 => ?_)
    refine wpAny_pure ?_
    simp only [Bool.false_eq_true,if_false]
    exact wpAny_pure (wpAny_pure ⟨_,rfl,wpAny_pure (fin h3 g3 b3)⟩)
theorem rawO_end {it d a:Addr} {f:Bool} {i ep:Nat} {es:Array DictEntry} {ok ov:Value} {Q:Option Value → Shared → Prop} (hh:A.handled = none) (hit:KdxIt s.heap it d i es.size ep ok ov a f) (hm:RawD s.heap d es ep) (hi:es.size ≤ i)
    (hF:∀ h',Heap.ExtBut it s.heap h' → Q none { s with heap:=h' }):wpAny (model prog w) A (pyNext (.ref it)) Q E s:=by
  have tyI:s.TypeIs (.ref it) "dict_itemiterator":=⟨_,hit,rfl⟩
  obtain ⟨od,hod,_,hdd⟩:=hm
  unfold pyNext
  refine wpAny_bind (wpAny_attempt (wpAny_callSpecial?_slot (name:=Str.ofString "__next__") tyI F.slot_dict_itemiterator_next (wpAny_call_entry F.slot_dict_itemiterator_next tyI F.entry_dict_itemiterator_next ?_ (F.args_dict_itemiterator_next_1 _))))
  refine wpAny_bind (wpAny_pure (wpAny_bind (wpAny_bind ?_)))
  refine wpAny_bind (wpAny_typeNameOfWhole_itemiter tyI (wpAny_pure ?_))
  refine wpAny_bind (wpAny_fieldsOf hit rfl ?_)
  show wpAny _ _ (if (Value.ref d == .none) = true then _ else _) _ _ s
  have ne0:¬ ((Value.ref d == Value.none) = true):=fun z => Bool.false_ne_true z
  rw [if_neg ne0]
  refine wpAny_bind (wpAny_pure (wpAny_bind (wpAny_dictEntries hod hdd ?_)))
  rw [if_neg (by simp)]
  refine wpAny_bind (wpAny_pure (wpAny_bind (wpAny_dictEpoch hod hdd ?_)))
  rw [if_neg (by simp)]
  refine wpAny_pure ?_
  simp only [show ¬ ((i:Int) < 0) from Int.not_lt.mpr (Int.natCast_nonneg i),if_false,Int.toNat_natCast,Array.getElem?_eq_none hi]
  refine wpAny_bind (wpAny_bind (wpAny_typeNameOfWhole_itemiter tyI (wpAny_pure ?_)))
  refine (show wpAny _ _ (setField (.ref it) 2 .none >>= _) _ _ s from wpAny_bind (wpAny_setField hit rfl (by simp) ?_))
  refine (show wpAny _ _ (newExc (.type "StopIteration") [] >>= _) _ _ _ from wpAny_bind ?_)
  simp only [newExc,newTuple]
  refine wpAny_bind (wpAny_newObj_type (dict:=none) ?_ (by size_fits))
  refine wpAny_bind (m:=firstArgMember _ _) (wpAny_of_eq (a:=Value.none) (by first | rfl | (simp only [firstArgMember]; rfl)) (wpAny_newObj_type ?_ (by size_fits)))
  simp only [raiseNew]
  refine wpAny_bind (m:=_) (wpAny_handled ?_)
  rw [(show A.in1.handled = none from hh)]
  refine wpAny_bind (wpAny_pure (wpAny_throw (wpAny_bind ?_)))
  refine wpAny_isInstance (b:=true) (T:="StopIteration") ⟨_,Heap.get?_push_size _ rfl,rfl⟩ isSubtype_stop ?_
  exact wpAny_pure (hF _ (((Heap.SameBut.update ..).extBut.push _).push _))
theorem rawX_item {it d S:Addr} {i ep:Nat} {es:Array DictEntry} {Q:Option Value → Shared → Prop} (hst:KdxSt s.heap it d S i es.size ep) (hS:S < s.heap.objs.size) (hm:RawD s.heap d es ep) (hi:i < es.size)
    (hQ:∀ h',KdxSt h' it d S (i + 1) es.size ep → h'.get? s.heap.objs.size = some { cls:=.type "tuple",data:=.seq #[es[i].key,es[i].val] } → h'.objs.size = s.heap.objs.size + 1 →
      (∀ (b:Addr) (o:Obj),b ≠ it → s.heap.get? b = some o → h'.get? b = some o) → Q (some (.ref s.heap.objs.size)) { s with heap:=h' }):wpAny (model prog w) A (pyNext (.ref it)) Q E s:=by
  rcases hst with ⟨rfl,ok,ov,hit⟩ | ⟨ok,ov,a,f,oa,hit,ha,hai,haS⟩
  · exact rawI_item hit hm hi fun h' io t z k => hQ h' (.inr ⟨_,_,_,false,_,io,t,Nat.ne_of_gt (Heap.lt_size hit),Nat.ne_of_gt hS⟩) t z k
  · exact rawO_item hit ha hai hm hi fun h' io t z k => hQ h' (.inr ⟨ok,ov,a,true,oa,io,k a oa hai ha,hai,haS⟩) t z k
theorem rawX_end {it d S:Addr} {i ep:Nat} {es:Array DictEntry} {Q:Option Value → Shared → Prop} (hh:A.handled = none) (hst:KdxSt s.heap it d S i es.size ep) (hm:RawD s.heap d es ep) (hi:es.size ≤ i)
    (hF:∀ h',Heap.ExtBut it s.heap h' → Q none { s with heap:=h' }):wpAny (model prog w) A (pyNext (.ref it)) Q E s:=by
  rcases hst with ⟨rfl,ok,ov,hit⟩ | ⟨ok,ov,a,f,oa,hit,_,_,_⟩
  · exact rawI_end hh hit hm hi hF
  · exact rawO_end hh hit hm hi hF
structure RawG (es:Array DictEntry) (lo:Addr) (h:Heap) (as:List Addr):Prop where
  rise:as.Pairwise (· < ·)
  up:∀ a ∈ as,lo < a
  at':∀ (j:Nat) (a:Addr),as[j]? = some a → ∃ en,es[j]? = some en ∧ h.get? a = some { cls:=.type "tuple",data:=.seq #[en.key,en.val] }
theorem RawG.there {es:Array DictEntry} {lo:Addr} {h:Heap} {as:List Addr} (g:RawG es lo h as) {a:Addr} (ha:a ∈ as):a < h.objs.size:=by
  obtain ⟨j,hj⟩:=List.mem_iff_getElem?.mp ha
  obtain ⟨_,_,e⟩:=g.at' j a hj
  exact Heap.lt_size e
end
section
variable {prog:Program} {w:World} {A:Around} {s:Shared} {R:Result → Shared → Prop} {es:Array DictEntry} {ep:Nat}
theorem rawX_loop {S I d:Addr} (hh:A.handled = none) (hSI:S < I) (hSd:d ≠ S) (hId:d ≠ I) (hn:es.size ≤ sizeLine) (res:Value) {h1:Heap}
    (hR:∀ h' tk acc c as,(∀ b o,b ≠ S → b ≠ I → h1.get? b = some o → h'.get? b = some o) → h'.get? S = some { cls:=.type "list",dict:=none,data:=.seq acc c,slots:=#[] } → as.length = es.size → RawG es I h' as →
      acc.toList = as.map Value.ref → R (.ok (.ret res)) { s with heap:=h',toks:=tk }) :
    ∀ (k i:Nat) (h:Heap) (tk c:Nat) (acc:Array Value) (as:List Addr),es.size - i = k → i ≤ es.size → KdxSt h I d S i es.size ep → RawD h d es ep → (∀ b o,b ≠ S → b ≠ I → h1.get? b = some o → h.get? b = some o) →
      h.get? S = some { cls:=.type "list",dict:=none,data:=.seq acc c,slots:=#[] } → acc.toList = as.map Value.ref → as.length = i → RawG es I h as → I < h.objs.size →
      codeAny (model prog w) A (.builtin "list.extend.loop" ⟨[.ref S,.ref I,res],[]⟩) R { s with heap:=h,toks:=tk }:=by
  have hne:S ≠ I:=Nat.ne_of_lt hSI
  intro k
  induction k with
  | zero =>
    intro i h tk c acc as hk hi hst hD keep hS hacc hal hG hIs
    refine codeAny_builtin PySem.F.entry_extend_loop ?_
    rw [Around.under_plainId PySem.F.plain_extend_loop _]
    refine (show wpAny _ A.in1 (pyNext (.ref I) >>= _) _ _ _ from wpAny_bind (rawX_end (s:={ s with heap:=h,toks:=tk }) (A:=A.in1) hh hst hD (by omega) fun h' he => ?_))
    refine wpAny_pure (hR h' tk acc c as (fun b o q1 q2 e => he b o q2 (keep b o q1 q2 e)) (he S _ hne hS) (by omega) ⟨hG.rise,hG.up,fun j a hj => ?_⟩ hacc)
    obtain ⟨en,e1,e2⟩:=hG.at' j a hj
    exact ⟨en,e1,he a _ (Nat.ne_of_gt (hG.up a (List.mem_of_getElem? hj))) e2⟩
  | succ k ih =>
    intro i h tk c acc as hk hi hst hD keep hS hacc hal hG hIs
    have lt:i < es.size:=by omega
    have sz:acc.size = i:=by rw [← Array.length_toList,hacc,List.length_map,hal]
    refine codeAny_builtin PySem.F.entry_extend_loop ?_
    rw [Around.under_plainId PySem.F.plain_extend_loop _]
    refine (show wpAny _ A.in1 (pyNext (.ref I) >>= _) _ _ _ from wpAny_bind (rawX_item (s:={ s with heap:=h,toks:=tk }) (S:=S) hst (Heap.lt_size hS) hD lt fun h' st' ht hz kp => ?_))
    replace ht:h'.get? h.objs.size = some { cls:=.type "tuple",data:=.seq #[es[i].key,es[i].val] }:=ht
    replace kp:∀ (b:Addr) (o:Obj),b ≠ I → h.get? b = some o → h'.get? b = some o:=kp
    have hS':=kp S _ hne hS
    have up:∀ b o,b ≠ S → h'.get? b = some o → (h'.update S (Obj.mapSeq (·.push (Value.ref h.objs.size)))).get? b = some o:=fun b o hb e => (Heap.get?_update_other _ _ (Ne.symm hb)).trans e
    have lS:S < h.objs.size:=Heap.lt_size hS
    refine (show wpAny _ A.in1 (updateSeq S (·.push (Value.ref h.objs.size)) >>= _) _ _ _ from wpAny_bind ?_)
    refine wpAny_updateSeq hS' rfl (wpAny_pure ⟨plainId_quiet PySem.F.plain_extend_loop _,ih (i + 1) _ tk _ (acc.push (Value.ref h.objs.size)) (as ++ [h.objs.size]) (by omega) lt (st'.keep up (Ne.symm hne)) (hD.at fun o e => up d o hSd (kp d o hId e))
      (fun b o q1 q2 e => up b o q1 (kp b o q2 (keep b o q1 q2 e))) (Heap.get?_update_self _ hS' rfl) (by rw [Array.toList_push,hacc,List.map_append]; rfl) (by rw [List.length_append,hal]; rfl) ⟨?_,?_,?_⟩ ?_⟩) (by rw [sz]; omega) (by show (acc.push (Value.ref h.objs.size)).size ≤ sizeLine + 1; rw [Array.size_push,sz]; omega)
    · refine List.pairwise_append.mpr ⟨hG.rise,List.pairwise_singleton _ _,fun a ha b hb => ?_⟩
      rw [List.mem_singleton.mp hb]
      exact hG.there ha
    · intro a ha
      rcases List.mem_append.mp ha with ha | ha
      · exact hG.up a ha
      · rw [List.mem_singleton.mp ha]
        exact hIs
    · intro j b hj
      by_cases q:j < as.length
      · rw [List.getElem?_append_left q] at hj
        obtain ⟨en,e1,e2⟩:=hG.at' j b hj
        have hb:=hG.up b (List.mem_of_getElem? hj)
        exact ⟨en,e1,up b _ (Nat.ne_of_gt (Nat.lt_trans hSI hb)) (kp b _ (Nat.ne_of_gt hb) e2)⟩
      · rw [List.getElem?_append_right (by omega)] at hj
        have q0:j - as.length = 0:=by
          have:=(List.getElem?_eq_some_iff.mp hj).1
          simp only [List.length_singleton] at this
          omega
        rw [q0] at hj
        have hb:h.objs.size = b:=Option.some.inj hj
        subst hb
        have ej:j = i:=by omega
        subst ej
        exact ⟨es[j],Array.getElem?_eq_getElem lt,up _ _ (Nat.ne_of_gt lS) ht⟩
    · exact Nat.lt_trans hIs (Heap.lt_size (up _ _ (Nat.ne_of_gt lS) ht))
end
section
variable {prog:Program} {w:World} {A:Around} {E:Value → Shared → Prop} {s:Shared} {r d:Addr} {es:Array DictEntry} {ep:Nat}
theorem rawX_extend {R:Result → Shared → Prop} (hh:A.handled = none) (hv:s.heap.IsItemsView r d) (hm:RawD s.heap d es ep) (S:Addr) (hSr:S ≠ r) (hSd:d ≠ S) (res:Value) (c0:Nat) (hS:s.heap.get? S = some { cls:=.type "list",data:=.seq #[] c0 })
    (hR:∀ h' tk acc c as,(∀ b o,b ≠ S → s.heap.get? b = some o → h'.get? b = some o) → h'.get? S = some { cls:=.type "list",dict:=none,data:=.seq acc c,slots:=#[] } → as.length = es.size → RawG es s.heap.objs.size h' as →
      acc.toList = as.map Value.ref → R (.ok (.ret res)) { s with heap:=h',toks:=tk }) (hn:es.size ≤ sizeLine) :
    wpAny (model prog w) A.in1 (Builtin.List.listExtendWith (.ref S) (.ref r) res)
      (fun fin s' => match fin with | .done f => R (.ok f) s' | .again c' => c'.quiet = true ∧ codeAny (model prog w) A c' R s') (fun e s' => R (.error e) s') s:=by
  have lS:S < s.heap.objs.size:=Heap.lt_size hS
  have ld:d < s.heap.objs.size:=hm.lt
  obtain ⟨itO,eIt⟩:∃ o:Obj,o = { cls:=.type "dict_itemiterator",data:=.fields #[.none,.bool false,.ref d,.int 0 0,.int es.size 0,.int ep 0,.none,.none] }:=⟨_,rfl⟩
  have key:∀ (h:Heap) (c1 tk:Nat),(∀ b o,b ≠ S → (s.heap.push itO).get? b = some o → h.get? b = some o) → h.get? S = some { cls:=.type "list",data:=.seq #[] c1 } →
      codeAny (model prog w) A (.builtin "list.extend.loop" ⟨[.ref S,.ref s.heap.objs.size,res],[]⟩) R { s with heap:=h,toks:=tk }:=by
    intro h c1 tk hk hS1
    have hI:=hk s.heap.objs.size _ (Nat.ne_of_gt lS) (Heap.get?_push_size _ (by rw [eIt]; rfl))
    rw [eIt] at hI
    exact rawX_loop (es:=es) (ep:=ep) (s:=s) (h1:=s.heap) hh lS hSd (Nat.ne_of_lt ld) hn res (fun h' tk' acc c as k' S' l g q => hR h' tk' acc c as (fun b o hb e => k' b o hb (Nat.ne_of_lt (Heap.lt_size e)) e) S' l g q)
      es.size 0 h tk c1 #[] [] (Nat.sub_zero _) (Nat.zero_le _) (.inl ⟨rfl,.none,.none,hI⟩) (hm.at fun o e => hk d o hSd (Heap.get?_push_of_some _ e)) (fun b o hb _ e => hk b o hb (Heap.get?_push_of_some _ e)) hS1 rfl rfl
      ⟨List.Pairwise.nil,(fun _ ha => nomatch ha),(fun j a hj => by simp at hj)⟩ (Heap.lt_size hI)
  unfold Builtin.List.listExtendWith
  refine wpAny_bind (wpAny_typeOf (T:="dict_items") hv.typeIs ?_)
  have q1:Builtin.List.listSameRef (.ref S) (.ref r) = false:=by simp [Builtin.List.listSameRef,hSr]
  simp only [q1,show (Value.type "dict_items" == Value.type "list") = false from by decide,show (Value.type "dict_items" == Value.type "tuple") = false from by decide,Bool.or_false,Bool.false_eq_true,if_false]
  refine wpAny_bind (rawI_iter hv hm ?_)
  rw [← eIt]
  have hS1:=Heap.get?_push_of_some itO hS
  refine wpAny_bind (wpAny_holding (kdx_hint (let ⟨o,ho,hc,_⟩:=hv; ⟨o,Heap.get?_push_of_some _ ho,hc⟩) ?_))
  refine wpAny_ite_split (fun _ => ?_) (fun _ => wpAny_pure ⟨plainId_quiet PySem.F.plain_extend_loop _,key _ c0 _ (fun b o _ e => e) hS1⟩)
  refine wpAny_bind (wpAny_rule (wpAny_bind ?_))
  refine (show wpAny _ _ (updateSeq S (·.push .none) >>= fun _ => updateSeq S (·.pop)) _ _ _ from wpAny_bind (wpAny_updateSeq hS1 rfl ?_))
  have hS2:=Heap.get?_update_self (Obj.mapSeq (·.push Value.none)) hS1 rfl
  refine wpAny_updateSeq (hz:=by seq_fits) hS2 rfl ?_
  have hS3:=Heap.get?_update_self (Obj.mapSeq (·.pop)) hS2 rfl
  exact wpAny_pure ⟨plainId_quiet PySem.F.plain_extend_loop _,key _ _ _ (fun b o hb e => (Heap.get?_update_other _ _ (Ne.symm hb)).trans ((Heap.get?_update_other _ _ (Ne.symm hb)).trans e)) hS3⟩
theorem rawX_call {Q:Value → Shared → Prop} (hh:A.handled = none) (hv:s.heap.IsItemsView r d) (hm:RawD s.heap d es ep) (hn:es.size ≤ sizeLine)
    (hQ:∀ h' tk acc c as,(∀ b o,s.heap.get? b = some o → h'.get? b = some o) → h'.get? s.heap.objs.size = some { cls:=.type "list",dict:=none,data:=.seq acc c,slots:=#[] } → as.length = es.size → RawG es s.heap.objs.size h' as →
      acc.toList = as.map Value.ref → Q (.ref s.heap.objs.size) { s with heap:=h',toks:=tk }) :
    wpAny (model prog w) A (call (.type "list") [.ref r]) Q E s:=by
  refine callType_codes (Q₁:=fun obj s₁ => obj = .ref s.heap.objs.size ∧ s₁ = { s with heap:=s.heap.push { cls:=.type "list",data:=.seq #[] } }) PySem.F.called_list (PySem.F.typeCall_list_1 _) PySem.F.entry_list_init (code_list_new _ ⟨rfl,rfl⟩) fun obj s₁ h₁ => ?_
  obtain ⟨rfl,rfl⟩:=h₁
  have hS:(s.heap.push { cls:=.type "list",data:=.seq #[] }).get? s.heap.objs.size = some { cls:=.type "list",data:=.seq #[] }:=Heap.get?_push_size _ rfl
  have lr:r < s.heap.objs.size:=let ⟨_,ho,_⟩:=hv; Heap.lt_size ho
  have ld:d < s.heap.objs.size:=hm.lt
  refine ⟨⟨_,hS,rfl⟩,PySem.F.args_list_init_2 _ _,?_⟩
  refine (show wpAny _ _ (do let old ← Builtin.List.listItems (.ref s.heap.objs.size); Builtin.List.listUpdate (.ref s.heap.objs.size) (fun _ => #[]); letGo old.toList.reverse; Builtin.List.listExtendWith (.ref s.heap.objs.size) (.ref r) .none) _ _ _ from wpAny_bind ?_)
  unfold Builtin.List.listItems
  refine wpAny_bind (wpAny_seqItems hS rfl (wpAny_pure ?_))
  refine (show wpAny _ _ (updateSeq s.heap.objs.size (fun _ => #[]) >>= fun _ => letGo (#[]:Array Value).toList.reverse >>= fun _ => Builtin.List.listExtendWith (.ref s.heap.objs.size) (.ref r) .none) _ _ _ from wpAny_bind (wpAny_updateSeq hS rfl ?_))
  have hS2:=Heap.get?_update_self (Obj.mapSeq (fun _ => (#[]:Array Value))) hS rfl
  have oth:∀ b o,b ≠ s.heap.objs.size → s.heap.get? b = some o → ((s.heap.push { cls:=.type "list",data:=.seq #[] }).update s.heap.objs.size (Obj.mapSeq (fun _ => (#[]:Array Value)))).get? b = some o :=
    fun b o hb e => (Heap.get?_update_other _ _ (Ne.symm hb)).trans (Heap.get?_push_of_some _ e)
  refine wpAny_bind (wpAny_letGo ?_)
  refine rawX_extend (A:=A.in1) (es:=es) (ep:=ep) hh (let ⟨o,ho,x⟩:=hv; ⟨o,oth r o (Nat.ne_of_lt lr) ho,x⟩) (hm.at fun o e => oth d o (Nat.ne_of_lt ld) e) _ (Nat.ne_of_gt lr) (Nat.ne_of_lt ld) .none _ hS2 (fun h' tk acc c as hk S' l g q => ?_) hn
  exact ⟨rfl,hQ h' tk acc c as (fun b o e => hk b o (Nat.ne_of_lt (Heap.lt_size e)) (oth b o (Nat.ne_of_lt (Heap.lt_size e)) e)) S' l ⟨g.rise,fun a ha => Nat.lt_trans (Heap.lt_size hS2) (g.up a ha),g.at'⟩ q⟩
end
end L2
namespace L2
open PySem PySem.Spec PyProof.Rows
noncomputable def layV (H:Hp):List Addr → List (List V) → Hp
  | a :: as,p :: ps => upd (layV H as ps) a (.tup p)
  | _,_ => H
theorem layV_old {H:Hp} {b:Addr}:∀ {as:List Addr} {ps:List (List V)},b ∉ as → layV H as ps b = H b
  | [],_,_ => rfl
  | _ :: _,[],_ => rfl
  | a :: as,p :: ps,h => by
    show upd (layV H as ps) a _ b = H b
    rw [upd_ne (fun e => h (by rw [e]; exact List.mem_cons_self))]
    exact layV_old fun z => h (List.mem_cons_of_mem _ z)
theorem layV_at {H:Hp}:∀ {as:List Addr} {ps:List (List V)} {b:Addr} {u:HO},b ∈ as → as.length = ps.length → layV H as ps b = some u → ∃ (j:Nat) (p:List V),as[j]? = some b ∧ ps[j]? = some p ∧ u = .tup p
  | [],_,_,_,h,_,_ => nomatch h
  | _ :: _,[],_,_,_,h,_ => nomatch h
  | a :: as,p :: ps,b,u,hb,hl,h => by
    by_cases e:b = a
    · subst e
      have h':upd (layV H as ps) b (.tup p) b = some u:=h
      rw [upd_same] at h'
      cases h'
      exact ⟨0,p,rfl,rfl,rfl⟩
    · have h':upd (layV H as ps) a (.tup p) b = some u:=h
      rw [upd_ne e] at h'
      obtain ⟨j,p',h1,h2,h3⟩:=layV_at ((List.mem_cons.mp hb).resolve_left e) (Nat.succ.inj hl) h'
      exact ⟨j + 1,p',h1,h2,h3⟩
theorem layV_all {H:Hp}:∀ {as:List Addr} {ps:List (List V)},as.Pairwise (· < ·) → as.length = ps.length → ∀ {j:Nat} {a:Addr},as[j]? = some a → ∃ p,ps[j]? = some p ∧ layV H as ps a = some (.tup p)
  | [],_,_,_,j,a,h => by simp at h
  | _ :: _,[],_,h,_,_,_ => nomatch h
  | a :: as,p :: ps,hr,hl,0,b,h => by
    have e:a = b:=Option.some.inj h
    subst e
    exact ⟨p,rfl,upd_same⟩
  | a :: as,p :: ps,hr,hl,j + 1,b,h => by
    cases hr with
    | cons h1 h2 =>
    have h':as[j]? = some b:=h
    obtain ⟨q,e1,e2⟩:=layV_all (H:=H) h2 (Nat.succ.inj hl) h'
    refine ⟨q,e1,?_⟩
    show upd (layV H as ps) a _ b = _
    rw [upd_ne (Nat.ne_of_gt (h1 b (List.mem_of_getElem? h')))]
    exact e2
theorem keysT {R:List Key × V → List Key × Addr × Value → Prop}:∀ {kvs:List (List Key × V)} {ys:List (List Key × Addr × Value)},Paired (fun p q => p.1 = q.1 ∧ R p q) kvs ys → kvs.map (·.1) = ys.map (·.1)
  | _,_,.nil => rfl
  | _,_,.cons a t => by rw [List.map_cons,List.map_cons,a.1,keysT t]
section
variable {X:Cx}
noncomputable def rItemsT:V → List V → Hp → VK → Prop:=fun x vs H Q => ∃ d kvs,x = .ref d ∧ vs = [] ∧ H d = some (.dT kvs) ∧ ∀ v,H v = none → Q (.ref v) (upd H v (.ext (itemsAt v d)))
theorem mt_itemsT:MtR X "dict.items" rItemsT:=by
  intro pins s σ H x vs v us Q I rx rv h
  obtain ⟨d,kvs,rfl,rfl,hd,q⟩:=h
  cases rx
  cases rv
  obtain ⟨z,hs,ys,rel,ob,en,ep,e1,ex,dt,eqs,nd⟩:=I.hok d _ hd
  refine call_meetsIn PySem.F.slot_dict_items (show s.TypeIs (.ref d) "dict" from ⟨ob,e1,ex.1⟩) PySem.F.entry_dict_items (PySem.F.args_dict_items_1 _) (meets_items_raw d hs) ⟨⟨en,ep,ob,e1,ex,dt⟩,?_⟩
  have hv:(s.heap.push { cls:=.type "dict_items",data:=.fields #[.ref d] }).IsItemsView s.heap.objs.size d:=⟨_,Heap.get?_push_size _ rfl,rfl,rfl⟩
  refine ⟨.ref s.heap.objs.size,_,I.laid (t':=s.toks) (o:=.ext (itemsAt s.heap.objs.size d)) (fun b o e => Heap.get?_push_of_some _ e) (Nat.le_refl _) ⟨hv,⟨_,Heap.get?_push_size _ rfl⟩,fun h1 h2 p k => ?_⟩,rfl,q _ (I.hok.fresh (Nat.le_refl _))⟩
  obtain ⟨o,ho,r⟩:=p
  exact ⟨o,k o ho,r⟩
theorem call_list_itemsT (hc:X.calm = true):CallR X (.type "list") (fun xs H Q => ∃ v d kvs,xs = [.ref v] ∧ H v = some (.ext (itemsAt v d)) ∧ H d = some (.dT kvs) ∧
    ∀ (H2:Hp) (as:List Addr) (l:Addr),Same H H2 → H l = none → H2 l = some (.lst (as.map V.ref)) → Paired (fun (p:List Key × V) (a:Addr) => ∃ k,H2 k = some (.tup (p.1.map kV)) ∧ H2 a = some (.tup [.ref k,p.2])) kvs as → Q (.ref l) H2):=by
  intro pins s σ H xs us Q I r h
  obtain ⟨v,d,kvs,rfl,hv,hd,q⟩:=h
  obtain ⟨u,rfl,ru⟩:=vals1 r
  cases ru
  have hob:=I.hok d _ hd
  obtain ⟨z,hs,ys,rel,ob,en,ep,e1,ex,dt,eqs,nd⟩:=id hob
  have raw:RawD s.heap d en ep:=⟨ob,e1,ex,dt⟩
  obtain ⟨hn,hall⟩:=dt_raw hob raw
  have hview:s.heap.IsItemsView v d:=(I.hok v _ hv).1
  refine rawX_call (I.ok.hd hc) hview raw (by rw [← hn]; exact z) fun h' tk acc c as hk hS hlen hG hacc => ?_
  have pick:∀ p:List Key × V,∃ k:Addr,p ∈ kvs → ∃ i:Nat,kvs[i]? = some p ∧ H k = some (.tup (p.1.map kV)) ∧ ∀ (j:Nat),kvs[j]? = some p → ∃ hi:j < en.size,en[j].key = .ref k ∧ RelV p.2 en[j].val:=fun p => by
    by_cases hp:p ∈ kvs
    · obtain ⟨i,hi⟩:=List.mem_iff_getElem?.mp hp
      obtain ⟨k,y,lt,a1,a2,a3,a4⟩:=hall i p hi
      refine ⟨k,fun _ => ⟨i,hi,a3,fun j hj => ?_⟩⟩
      have ej:j = i:=by
        have n1:(ys.map (·.1)).Nodup:=nd
        have n2:(kvs.map (·.1)) = ys.map (·.1):=keysT rel
        have b1:(kvs.map (·.1))[j]? = some p.1:=by rw [List.getElem?_map,hj]; rfl
        have b2:(kvs.map (·.1))[i]? = some p.1:=by rw [List.getElem?_map,hi]; rfl
        rw [n2] at b1 b2
        exact (List.getElem?_inj (List.getElem?_eq_some_iff.mp b1).1 n1).mp (b1.trans b2.symm)
      subst ej
      exact ⟨lt,a1,by rw [a2]; exact a4⟩
    · exact ⟨0,fun h => absurd h hp⟩
  have kof:=fun p => Classical.choose_spec (pick p)
  generalize hkf:(fun p => Classical.choose (pick p)) = kf
  have kof':∀ p,p ∈ kvs → ∃ i:Nat,kvs[i]? = some p ∧ H (kf p) = some (.tup (p.1.map kV)) ∧ ∀ (j:Nat),kvs[j]? = some p → ∃ hi:j < en.size,en[j].key = .ref (kf p) ∧ RelV p.2 en[j].val:=fun p hp => by
    rw [← hkf]
    exact kof p hp
  clear kof hkf pick
  obtain ⟨ts,ets⟩:∃ ts:List (List V),ts = kvs.map fun p => [V.ref (kf p),p.2]:=⟨_,rfl⟩
  have hlt:as.length = ts.length:=by rw [hlen,ets,List.length_map,hn]
  have hge:∀ a ∈ as,s.heap.objs.size ≤ a:=fun a ha => Nat.le_of_lt (hG.up a ha)
  have hnS:s.heap.objs.size ∉ as:=fun ha => Nat.lt_irrefl _ (hG.up _ ha)
  have vr:∀ ks:List Addr,Vals (ks.map V.ref) (ks.map Value.ref):=fun ks => by
    induction ks with
    | nil => exact .nil
    | cons k ks ih => exact .cons rfl ih
  have old:∀ b,b < s.heap.objs.size → upd (layV H as ts) s.heap.objs.size (.lst (as.map V.ref)) b = H b:=fun b hb => by
    rw [upd_ne (Nat.ne_of_lt hb)]
    exact layV_old fun ha => absurd (hge b ha) (Nat.not_le_of_lt hb)
  have I2:Inv X pins σ (upd (layV H as ts) s.heap.objs.size (.lst (as.map V.ref))) { s with heap:=h',toks:=tk }:=by
    refine I.laids (t':=tk) hk old fun b u hb hu => ?_
    by_cases e:b = s.heap.objs.size
    · subst e
      rw [upd_same] at hu
      cases hu
      refine ⟨by rw [List.length_map,hlen,← hn]; exact z,as.map Value.ref,c,vr as,?_⟩
      rw [hS,← hacc]
    · rw [upd_ne e] at hu
      by_cases ha:b ∈ as
      · obtain ⟨j,p,h1,h2,rfl⟩:=layV_at ha hlt hu
        rw [ets,List.getElem?_map] at h2
        obtain ⟨pp,hpp,rfl⟩:=Option.map_eq_some_iff.mp h2
        obtain ⟨en',h3,h5⟩:=hG.at' j b h1
        obtain ⟨_,_,_,hj⟩:=kof' pp (List.mem_of_getElem? hpp)
        obtain ⟨lt,a1,a2⟩:=hj j hpp
        rw [Array.getElem?_eq_getElem lt] at h3
        have h3':=Option.some.inj h3
        subst h3'
        exact ⟨by show 2 ≤ sizeLine; decide,[en[j].key,en[j].val],.cons (by rw [a1]; exact rfl) (.cons a2 .nil),_,h5,rfl,_,rfl⟩
      · rw [layV_old ha] at hu
        rw [I.hok.fresh hb] at hu
        cases hu
  have sm:Same H (upd (layV H as ts) s.heap.objs.size (.lst (as.map V.ref))):=fun b u hb => by
    have lt:b < s.heap.objs.size:=Nat.lt_of_not_le fun z => by rw [I.hok.fresh z] at hb; cases hb
    rw [old b lt]
    exact hb
  refine ⟨.ref s.heap.objs.size,_,I2,rfl,q _ as s.heap.objs.size sm (I.hok.fresh (Nat.le_refl _)) upd_same ?_⟩
  have each:∀ (j:Nat) (p:List Key × V) (a:Addr),kvs[j]? = some p → as[j]? = some a → ∃ k,upd (layV H as ts) s.heap.objs.size (.lst (as.map V.ref)) k = some (.tup (p.1.map kV)) ∧ upd (layV H as ts) s.heap.objs.size (.lst (as.map V.ref)) a = some (.tup [.ref k,p.2]):=fun j p a hp ha => by
    obtain ⟨_,_,a3,_⟩:=kof' p (List.mem_of_getElem? hp)
    refine ⟨kf p,sm _ _ a3,?_⟩
    obtain ⟨t,h1,h2⟩:=layV_all (H:=H) hG.rise hlt ha
    rw [ets,List.getElem?_map,hp] at h1
    have h1':=Option.some.inj h1
    rw [upd_ne (fun z => hnS (by rw [← z]; exact List.mem_of_getElem? ha)),h2,← h1']
  have go:∀ (qs:List (List Key × V)) (bs:List Addr) (m:Nat),qs.length = bs.length → (∀ (j:Nat) p,qs[j]? = some p → kvs[m + j]? = some p) → (∀ (j:Nat) b,bs[j]? = some b → as[m + j]? = some b) →
      Paired (fun (p:List Key × V) (a:Addr) => ∃ k,upd (layV H as ts) s.heap.objs.size (.lst (as.map V.ref)) k = some (.tup (p.1.map kV)) ∧ upd (layV H as ts) s.heap.objs.size (.lst (as.map V.ref)) a = some (.tup [.ref k,p.2])) qs bs:=fun qs => by
    induction qs with
    | nil =>
      intro bs m hl _ _
      cases bs with
      | nil => exact .nil
      | cons _ _ => cases hl
    | cons p qs ih =>
      intro bs m hl h1 h2
      cases bs with
      | nil => cases hl
      | cons b bs =>
        refine .cons (each m p b (h1 0 p rfl) (h2 0 b rfl)) (ih bs (m + 1) (Nat.succ.inj hl) (fun j x hx => ?_) fun j x hx => ?_)
        · have:=h1 (j + 1) x hx
          rw [show m + 1 + j = m + (j + 1) by omega]
          exact this
        · have:=h2 (j + 1) x hx
          rw [show m + 1 + j = m + (j + 1) by omega]
          exact this
  exact go kvs as 0 (by rw [hlen,hn]) (fun j p hp => by rw [Nat.zero_add]; exact hp) fun j b hb => by rw [Nat.zero_add]; exact hb
end
section
variable {prog:Program} {w:World} {A:Around} {E:Value → Shared → Prop} {s:Shared}
end
section
variable {X:Cx} {l:Expr} {tl:TE} {p p2 pos pos2:Pos}
end
end L2
namespace L2
open PySem PySem.Spec PyProof.Rows
noncomputable def leS (a b:Str):Bool:=!ltCps b.cps.toList a.cps.toList
noncomputable def srt (ks:List Str):List Str:=ks.mergeSort leS
theorem leS_iff {a b:Str}:leS a b = true ↔ a.cps.toList ≤ b.cps.toList:=by
  unfold leS
  rw [ltCps_eq]
  simp
theorem leS_trans {a b c:Str} (h:leS a b = true) (g:leS b c = true):leS a c = true:=leS_iff.mpr (List.le_trans (leS_iff.mp h) (leS_iff.mp g))
theorem leS_total (a b:Str):(leS a b || leS b a) = true:=by
  rcases List.le_total a.cps.toList b.cps.toList with h | h
  · rw [leS_iff.mpr h]; rfl
  · rw [leS_iff.mpr h]; simp
theorem leS_anti {a b:Str} (h:leS a b = true) (g:leS b a = true):a = b:=by
  have e:=List.le_antisymm (leS_iff.mp h) (leS_iff.mp g)
  obtain ⟨⟨x⟩⟩:=a
  obtain ⟨⟨y⟩⟩:=b
  exact congrArg (fun l:List Nat => Str.mk ⟨l⟩) e
theorem srt_perm (ks:List Str):(srt ks).Perm ks:=List.mergeSort_perm ks leS
theorem srt_len (ks:List Str):(srt ks).length = ks.length:=(srt_perm ks).length_eq
theorem srt_mem {ks:List Str} {k:Str}:k ∈ srt ks ↔ k ∈ ks:=(srt_perm ks).mem_iff
theorem rising_pw:∀ (p:Str) (l:List Str),risingS p l = true → (p :: l).Pairwise (fun a b => leS a b = true)
  | p,[],_ => by simp
  | p,x :: r,h => by
    have h':(leS p x && risingS x r) = true:=h
    rw [Bool.and_eq_true] at h'
    have ih:=rising_pw x r h'.2
    refine List.pairwise_cons.mpr ⟨fun y hy => ?_,ih⟩
    rcases List.mem_cons.mp hy with rfl | hy
    · exact h'.1
    · exact leS_trans h'.1 (List.rel_of_pairwise_cons ih hy)
theorem sorted_pw:∀ (l:List Str),sortedS l = true → l.Pairwise (fun a b => leS a b = true)
  | [],_ => .nil
  | x :: r,h => rising_pw x r h
theorem srt_is {ks ks':List Str} (hp:ks'.Perm ks) (hs:sortedS ks' = true):ks' = srt ks :=
  (hp.trans (srt_perm ks).symm).eq_of_pairwise (le:=fun a b => leS a b = true) (fun _ _ _ _ h g => leS_anti h g) (sorted_pw _ hs) (List.pairwise_mergeSort (le:=leS) (fun _ _ _ h g => leS_trans h g) leS_total ks)
theorem strs_vals:∀ {vs:List Value} {ss:List Str},StrsAre vs ss → Vals (ss.map V.str) vs
  | _,_,.nil => .nil
  | _,_,.cons y t h => .cons ⟨t,rfl⟩ (strs_vals h)
theorem strsA_of:∀ {ss:List Str} {vs:List Value},Vals (ss.map V.str) vs → StrsAre vs ss
  | [],_,.nil => .nil
  | _ :: _,_,.cons ⟨t,e⟩ h => by
    subst e
    exact .cons _ t (strsA_of h)
theorem gathered {prog:Program} {w:World} {A:Around} {E:Value → Shared → Prop} {s:Shared} {T:String} {r d:Addr} {n:Nat} {P:Nat → Value → Prop} {OK:Heap → Prop} {R:List Value → Shared → Prop}
    (K:PySem.W.KdlSrc prog w T r d n P OK) (hh:A.handled = none) (hok:OK s.heap) (hn:n ≤ sizeLine)
    (h:∀ (g:Heap) (tk:Nat) (acc:Array Value),(∀ b o,s.heap.get? b = some o → g.get? b = some o) → s.heap.objs.size ≤ g.objs.size → ItemsOf P acc n → R acc.toList { s with heap:=g,toks:=tk }) :
    wpAny (model prog w) A (collect (.ref r)) R E s:=by
  have lt:=K.there _ hok
  unfold collect
  refine wpAny_bind (wpAny_runValue (codeAny_builtin entry_proto_collect' ?_))
  rw [Around.under_plainId PySem.F.plain_proto_collect]
  refine (show wpAny _ A.in1 (newList [] >>= fun l => again (.builtin "list.__iadd__" ⟨[l,.ref r],[]⟩)) _ _ s from wpAny_bind (wpAny_newObj_type (wpAny_pure ⟨plainId_quiet PySem.F.plain_list_iadd _,codeAny_builtin entry_list_iadd' ?_⟩)))
  rw [Around.under_plainId PySem.F.plain_list_iadd]
  have new:(s.heap.push { cls:=.type "list",data:=.seq ([]:List Value).toArray }).get? s.heap.objs.size = some { cls:=.type "list",data:=.seq #[] }:=Heap.get?_push_size _ rfl
  refine (show wpAny _ A.in1 (Builtin.List.listExtendWith (.ref s.heap.objs.size) (.ref r) (.ref s.heap.objs.size)) _ _ _ from wpAny_mono (PySem.W.kdl_extend (A:=A) (s:={ s with heap:=s.heap.push { cls:=.type "list",data:=.seq ([]:List Value).toArray } })
    (R:=fun (q:Result) (s':Shared) => ∃ (g:Heap) (tk:Nat) (acc:Array Value) (c:Nat),q = .ok (.ret (.ref s.heap.objs.size)) ∧ s' = { s with heap:=g,toks:=tk } ∧ (∀ b o,s.heap.get? b = some o → g.get? b = some o) ∧ g.get? s.heap.objs.size = some { cls:=.type "list",dict:=none,data:=.seq acc c,slots:=#[] } ∧ ItemsOf P acc n)
    K hh (K.keep _ _ hok fun b _ o e => Heap.get?_push_of_some _ e) s.heap.objs.size (Nat.ne_of_gt lt.1) (Nat.ne_of_gt lt.2) (.ref s.heap.objs.size) 0 new (fun g tk acc c hk hS ha => ⟨g,tk,acc,c,rfl,rfl,fun b o e => hk b o (Nat.ne_of_lt (Heap.lt_size e)) (Heap.get?_push_of_some _ e),hS,ha⟩) hn) (fun fin s' x => ?_) fun e s' x => ?_)
  · cases fin with
    | done f =>
      obtain ⟨g,tk,acc,c,e,rfl,hk,hS,ha⟩:=x
      cases e
      exact (show wpAny _ A (load s.heap.objs.size >>= _) _ _ _ from wpAny_bind (wpAny_load hS (wpAny_pure (h g tk acc hk (Nat.le_of_lt (Heap.lt_size hS)) ha))))
    | again c1 =>
      refine ⟨x.1,codeAny_mono x.2 fun q s2 y => ?_⟩
      obtain ⟨g,tk,acc,c,rfl,rfl,hk,hS,ha⟩:=y
      exact (show wpAny _ A (load s.heap.objs.size >>= _) _ _ _ from wpAny_bind (wpAny_load hS (wpAny_pure (h g tk acc hk (Nat.le_of_lt (Heap.lt_size hS)) ha))))
  · obtain ⟨_,_,_,_,e',_⟩:=x
    cases e'
section
variable {X:Cx}
theorem call_sorted_dK (hc:X.calm = true):CallR X (.builtin "sorted") (fun xs H Q => ∃ a kvs ks,xs = [.ref a] ∧ H a = some (.dK kvs) ∧ kvs.map (·.1) = ks.map Sum.inr ∧ ks.length < 64 ∧ ∀ l,H l = none → Q (.ref l) (upd H l (.lst ((srt ks).map V.str)))):=by
  intro pins s σ H xs us Q I r h
  obtain ⟨a,kvs,ks,rfl,ha,hks,h64,q⟩:=h
  obtain ⟨u,rfl,ru⟩:=vals1 r
  cases ru
  obtain ⟨z,hd,ys,rel,o,es,ep,e,ex,dt,_,prs,_⟩:=dk_of I.hok ha
  have hl1:=prs.length
  have hl2:kvs.length = ys.length:=rel.length
  have hlen:es.size = kvs.length:=by rw [hl2,← hl1]; simp
  have hkl:kvs.length = ks.length:=by have:=congrArg List.length hks; rwa [List.length_map,List.length_map] at this
  refine Calls.call_function_entry kind_sorted plain_sorted entry_sorted (args_sorted1 _) ?_
  unfold Builtin.«sorted»
  refine wpAny_bind (m:=checkCount "sorted" 1 1 _) (wpAny_pure ?_)
  refine wpAny_bind (gathered (kdl_raw hd) (I.ok.hd hc) ⟨o,e,ex,dt⟩ (by rw [hlen]; exact z) fun h' tk acc' hk le hacc => ?_)
  have al:acc'.toList.length = kvs.length:=by rw [Array.length_toList,hacc.1,hlen]
  have vr:Vals (ks.map V.str) acc'.toList:=by
    have:∀ (ks:List V) (us:List Value),ks.length = us.length → (∀ (j:Nat) (k:V) (u:Value),ks[j]? = some k → us[j]? = some u → RelV k u) → Vals ks us:=fun ks => by
      induction ks with
      | nil =>
        intro us hl _
        cases us with
        | nil => exact .nil
        | cons _ _ => cases hl
      | cons k ks ih =>
        intro us hl hh
        cases us with
        | nil => cases hl
        | cons u us => exact .cons (hh 0 k u rfl rfl) (ih us (Nat.succ.inj hl) fun j k' u' h1 h2 => hh (j + 1) k' u' h1 h2)
    have e0:(ks.map V.str) = kvs.map fun p => kV p.1:=by
      have t:ks.map V.str = (ks.map Sum.inr).map kV:=by rw [List.map_map]; rfl
      rw [t,← hks,List.map_map]
      rfl
    rw [e0]
    refine this _ _ (by rw [List.length_map,al]) fun j k u h1 h2 => ?_
    rw [List.getElem?_map] at h1
    obtain ⟨p,hp,rfl⟩:=Option.map_eq_some_iff.mp h1
    obtain ⟨⟨k1,y⟩,hy,ek,_⟩:=pair_get rel hp
    replace ek:p.1 = k1:=ek
    obtain ⟨en,hen,hu⟩:=hacc.2 j u (by rw [← h2]; simp)
    have e1:es.toList[j]? = some en:=by rw [← hen]; simp
    rw [hu,ek]
    exact key_rel (prs.get? e1 hy).1
  have hS:=strsA_of vr
  refine wpAny_bind (wpAny_newList ?_ (by rw [al]; exact z))
  have hoL:(h'.push { cls:=.type "list",data:=.seq acc'.toList.toArray }).get? h'.objs.size = some (seqObj "list" acc'.toList.toArray 0):=Heap.get?_push_size _ rfl
  refine wpAny_bind (wpAny_holding (wpAny_call_entry slot_list_sort ⟨_,hoL,rfl⟩ entry_list_sort (list_sort_treeK strKind_oneLt hoL hS.keysOf (fun v₁ v₂ rest e => keyKind_strs (by rw [← e]; exact hS)) (by rw [al,hkl]; exact h64) fun st' a1 a2 => ⟨_,rfl,?_⟩) (args_list_sort _)))
  obtain ⟨ss',b1,b2,b3⟩:=sorted_out_str hS a1 a2
  have es':=srt_is b2 b3
  subst es'
  obtain ⟨ep2,at2⟩:=sortedHeap_at (out:=(arrOf st').map (·.2)) hoL
  have keep:∀ b u,s.heap.get? b = some u → (sortedHeap (h'.push { cls:=.type "list",data:=.seq acc'.toList.toArray }) h'.objs.size acc'.toList ((arrOf st').map (·.2))).get? b = some u:=fun b u hb => by
    have g:=hk b u hb
    have lt:=Heap.lt_size g
    rw [sortedHeap_old (Nat.ne_of_lt lt) (by rw [size_push']; exact Nat.lt_succ_of_lt lt)]
    exact Heap.get?_push_of_some _ g
  refine wpAny_pure ⟨_,rfl,.ref h'.objs.size,_,I.laid (o:=.lst ((srt ks).map V.str)) keep le ?_,rfl,q _ (I.hok.fresh le)⟩
  refine ⟨by rw [List.length_map,srt_len,← hkl]; exact z,_,ep2,strs_vals b1,?_⟩
  rw [at2]
end
end L2
namespace L2
open PySem PySem.Spec PyProof.Rows
theorem upl_entry:entryFor table "dict.update.loop" = some Builtin.«dict.update.loop»:=entryFor_of_tree (by kernel_rfl)
theorem upl_plain:plainId "dict.update.loop" = true:=by decide +kernel
theorem nokeys_list:typeLookup (.type "list") "keys" = pure none:=by rw [typeLookup_type,builtinLookup_eq_fast]; kernel_rfl
noncomputable def putsT (acc:List (List Key × V)) (ps:List (List Key × V)):List (List Key × V):=ps.foldl (fun r p => putK r p.1 p.2) acc
section
variable {prog:Program} {w:World} {A:Around} {E:Value → Shared → Prop} {s:Shared} {a:Addr} {xs:Array Value} {k:Nat} {sl:Array (Option Value)}
theorem listKeys_none {Q:Option Value → Shared → Prop} (hx:s.heap.get? a = some { cls:=.type "list",dict:=none,data:=.seq xs k,slots:=sl }) (hA:A.handled = none)
    (h:∀ h' tk,(∀ b o,s.heap.get? b = some o → h'.get? b = some o) → Q none { s with heap:=h',toks:=tk }):wpAny (model prog w) A (getAttr? (.ref a) "keys") Q E s:=by
  obtain ⟨hp,g,d,tk,os⟩:=s
  have hT:∀ tk',(⟨hp,g,d,tk',os⟩:Shared).TypeIs (.ref a) "list":=fun _ => ⟨_,hx,rfl⟩
  have f1:=sub_AttributeError
  have f3:=F.slot_list_getattribute.lookup
  have f4:=F.slot_list_getattribute.bind (.ref a)
  have f5:=am_list_getattr_none
  unfold getAttr? getAttrBy? getAttrBy
  repeat (any_goals (first | assumption | exact hT _ | ((with_reducible show wpAny _ _ (call (Value.builtin "list.__getattribute__") _ _) _ _ _); refine call_meets F.slot_list_getattribute (hT _) am_entry_list_getattribute (F.args_list_getattribute_2 _ _) (meets_getattribute_miss_list a xs k sl "keys" _ nokeys_list (by decide +kernel)) ⟨hx,hA,fun h' tk' e hx' => ?_⟩) | wp_step))
  obtain ⟨t',u',he⟩:=hx'.there
  show wpAny _ _ (getattributeRaised _ _ _ _ _ _ _) _ _ _
  unfold getattributeRaised
  repeat (any_goals (first | assumption | wp_step))
  exact h _ _ hx'.of.keeps
end
section
variable {X:Cx} {pins:List (Addr × Obj)} {σ:St}
theorem upl_run {A:Around} (hh:A.handled = none) (hu:A.units + 2 < cLine) {l it d:Addr} {R:Result → Shared → Prop} {as:List Addr} {ps:List (List Key × V)} {H:Hp} (hd:H d = none) (hdi:d ≠ it) (hl:H l = some (.lst (as.map V.ref)))
    (hps:Paired (fun (p:List Key × V) (a:Addr) => ∃ k,H k = some (.tup (p.1.map kV)) ∧ H a = some (.tup [.ref k,p.2])) ps as) (fo:FpOk X pins H it):∀ (n i:Nat) (s:Shared) (acc:List (List Key × V)) (t:Tok),as.length - i = n → i ≤ as.length →
      Inv X pins σ (upd H d (.dT acc)) s → s.heap.IsListIter it l i → acc.length + n < sizeLine → (∀ s',Inv X pins σ (upd H d (.dT (putsT acc (ps.drop i)))) s' → R (.ok (.ret .none)) s') →
      codeAny (model X.prog X.w) A (.builtin "dict.update.loop" ⟨[.ref d,.ref it,.int i t,.none],[]⟩) R s:=by
  have hlen:ps.length = as.length:=hps.length
  have hnd:∀ {b:Addr} {o:HO},H b = some o → b ≠ d:=fun e z => by rw [z,hd] at e; cases e
  obtain ⟨f0,f1,f2,f3,f4,f5⟩:=fo
  intro n
  induction n with
  | zero =>
    intro i s acc t hn hi I st hz hR
    have hl':upd H d (.dT acc) l = some (.lst (as.map V.ref)):=by rw [upd_ne (hnd hl)]; exact hl
    obtain ⟨its,rv,p,_⟩:=I.list (a:=l) (xs:=as.map V.ref) (.inl (.inl hl'))
    have hlv:=rv.length
    rw [List.length_map] at hlv
    refine codeAny_builtin upl_entry ?_
    rw [Around.under_plainId upl_plain]
    refine (show wpAny _ A.in1 (pyNext (.ref it) >>= _) _ _ s from wpAny_bind (wpAny_pyNext_list_end hh st p.isList (by simp; omega) fun h' eb => ?_))
    have I1:=I.turned (t':=s.toks) (h':=h') (fun b o hb e => eb b o hb e) (by rw [upd_ne (Ne.symm hdi)]; exact f0) f1 f3 f4 f5
    have e:ps.drop i = []:=List.drop_eq_nil_of_le (by omega)
    rw [e] at hR
    exact (show wpAny _ _ (Builtin.Dict.addKeywords d [] >>= _) _ _ _ from wpAny_bind (wpAny_pure (wpAny_pure (hR _ I1))))
  | succ n ih =>
    intro i s acc t hn hi I st hz hR
    have hl':upd H d (.dT acc) l = some (.lst (as.map V.ref)):=by rw [upd_ne (hnd hl)]; exact hl
    obtain ⟨its,rv,p,_⟩:=I.list (a:=l) (xs:=as.map V.ref) (.inl (.inl hl'))
    have hia:i < as.length:=by omega
    have hip:i < ps.length:=by omega
    obtain ⟨a,ha,k,hk,hak⟩:=pair_get hps (List.getElem?_eq_getElem hip)
    obtain ⟨u,hu',ru⟩:=rv.get (show (as.map V.ref)[i]? = some (V.ref a) by rw [List.getElem?_map,ha]; rfl)
    cases ru
    refine codeAny_builtin upl_entry ?_
    rw [Around.under_plainId upl_plain]
    refine (show wpAny _ A.in1 (pyNext (.ref it) >>= _) _ _ s from wpAny_bind (wpAny_pyNext_list_item st p.isList (x:=.ref a) (by simpa using hu') fun h' st' sb => ?_))
    have I1:=I.turned (t':=s.toks) (h':=h') (fun b o hb e => (sb.2 b hb).trans e) (by rw [upd_ne (Ne.symm hdi)]; exact f0) f1 f3 f4 f5
    obtain ⟨kvs2,rkv,⟨ob,eo,co,nn,od⟩,_⟩:=I1.tuple (a:=a) (xs:=[.ref k,ps[i].2]) (.inl (.inl (by rw [upd_ne (hnd hak)]; exact hak)))
    obtain ⟨u1,u2,ekv,r1,r2⟩:=vals2 rkv
    cases r1
    subst ekv
    refine (show wpAny _ A.in1 (holding [.ref a] _ >>= _) _ _ _ from wpAny_bind (wpAny_holding ?_))
    refine wpAny_bind (wpAny_tryCatch ?_)
    unfold Builtin.Dict.pairItems
    refine wpAny_bind (wpAny_typeOf (T:="tuple") ⟨ob,eo,co⟩ ?_)
    rw [if_pos (by decide)]
    refine wpAny_bind (wpAny_seqItems eo od (wpAny_pure ?_))
    refine (show wpAny _ A.in1 (holding [.ref k,u2] (dictSet d (.ref k) u2)) _ _ _ from wpAny_holding ?_)
    obtain ⟨z,hds,xs,rel,dd⟩:=dt_of I1.hok (upd_same (H:=H) (a:=d) (o:=.dT acc))
    have hz2:xs.length ≤ sizeLine:=by rw [← Paired.length rel]; exact z
    have hlp:(putK acc ps[i].1 ps[i].2).length ≤ acc.length + 1:=length_putK acc _ _
    refine wpAny_dictSet_heap (hsz:=hz2) (knd:=tupleKind (mixKind X.prog X.w)) (k:=ps[i].1) (tupleKind_room_in1 (by omega)) (key_of I1.hok (by rw [upd_ne (hnd hk)]; exact hk)) dd fun h2 dd' hs => ?_
    obtain ⟨q,es,ep,hq,g2,g3,g4,_,g5⟩:=dd'
    have I2:=d_write (t':=s.toks + (tupleKind (mixKind X.prog X.w)).draws ps[i].1) (ob:=.dT (putK acc ps[i].1 ps[i].2)) I1 (by rw [upd_same]; exact True.intro) hs ⟨q,hq⟩ ⟨by omega,hds,_,(rel.put ps[i].1 (show upd H d (.dT acc) k = some (.tup (ps[i].1.map kV)) by rw [upd_ne (hnd hk)]; exact hk) r2).keeps fun c ys ec => by
      rw [upd_ne (ne_of ec (upd_same (H:=H) (a:=d) (o:=.dT acc)) (fun z => nomatch z))]
      exact ec,q,es,ep,hq,g2,g3,g4,g5⟩
    rw [upd_upd] at I2
    refine wpAny_pure ⟨plainId_quiet upl_plain _,ih (i + 1) _ (putK acc ps[i].1 ps[i].2) 0 (by omega) (by omega) I2 (st'.at fun o e => (hs.2 it (Ne.symm hdi)).trans e) (by omega) fun s' I' => hR s' ?_⟩
    rw [List.drop_eq_getElem_cons hip]
    exact I'
theorem call_dict_pairsT (hc:X.calm = true) (hu:X.A.units + 8 < cLine):CallR X (.type "dict") (fun xs H Q => ∃ l as ps,xs = [.ref l] ∧ H l = some (.lst (as.map V.ref)) ∧ Paired (fun (p:List Key × V) (a:Addr) => ∃ k,H k = some (.tup (p.1.map kV)) ∧ H a = some (.tup [.ref k,p.2])) ps as ∧ ps.length < sizeLine ∧
    ∀ d,H d = none → Q (.ref d) (upd H d (.dT (putsT [] ps)))):=by
  intro pins s σ H xs us Q I r h
  obtain ⟨l,as,ps,rfl,hl,hps,hz,q⟩:=h
  obtain ⟨u,rfl,ru⟩:=vals1 r
  cases ru
  have hlen:ps.length = as.length:=hps.length
  refine callType_codes (Q₁:=fun obj s₁ => obj = .ref s.heap.objs.size ∧ s₁ = { s with heap:=s.heap.push { cls:=.type "dict",data:=.dict #[] } }) F.kt_called_dict (F.kt_typeCall_dict_1 _) F.entry_dict_init (kt_code_dict_new _ ⟨rfl,rfl⟩) ?_
  rintro obj s₁ ⟨rfl,rfl⟩
  have hdn:H s.heap.objs.size = none:=I.hok.fresh (Nat.le_refl _)
  have gd:(s.heap.push { cls:=.type "dict",data:=.dict #[] }).get? s.heap.objs.size = some { cls:=.type "dict",data:=.dict #[] }:=Heap.get?_push_size _ rfl
  have I1:Inv X pins σ (upd H s.heap.objs.size (.dT [])) { s with heap:=s.heap.push { cls:=.type "dict",data:=.dict #[] } }:=I.laid (a:=s.heap.objs.size) (o:=.dT []) (t':=s.toks) (fun _ _ q => Heap.get?_push_of_some _ q) (Nat.le_refl _) (dt_empty s.heap I.big)
  have hld:l ≠ s.heap.objs.size:=fun z => by rw [z,hdn] at hl; cases hl
  obtain ⟨its,rv,p,_⟩:=I1.list (a:=l) (xs:=as.map V.ref) (.inl (.inl (by rw [upd_ne hld]; exact hl)))
  refine ⟨⟨_,gd,rfl⟩,F.args_dict_init_2 _ _,?_⟩
  unfold Builtin.«dict.__init__»
  refine wpAny_bind ?_
  unfold Builtin.Dict.selfAndRest
  refine wpAny_bind (wpAny_notOrdered_dict (show Shared.TypeIs _ (.ref s.heap.objs.size) "dict" from ⟨_,gd,rfl⟩) ?_)
  refine (show wpAny _ _ (pure (s.heap.objs.size,[Value.ref l])) _ _ _ from wpAny_pure ?_)
  show wpAny _ _ (Builtin.Dict.updateFrom "dict.__init__" s.heap.objs.size (.ref l) [] .none) _ _ _
  unfold Builtin.Dict.updateFrom
  refine wpAny_bind (wpAny_typeOf p.isList.typeIs ?_)
  rw [if_pos (by decide)]
  obtain ⟨⟨cl,dc,da,sl⟩,n0,gl,e1,e2,e3⟩:=id p
  simp only at e1 e2 e3
  subst e1 e2 e3
  refine wpAny_bind (listKeys_none gl (I.ok.hd hc) fun h' tk hk => ?_)
  rw [if_pos (by decide)]
  have I2:=I1.kept (t':=tk) (h':=h') fun b o e => hk b o e
  have le:s.heap.objs.size < h'.objs.size:=Heap.lt_size (hk _ _ gd)
  refine wpAny_bind (wpAny_rule ?_)
  refine wpAny_bind (wpAny_pyIter_list (p.isList.at fun o e => hk l o e) ?_)
  have I3:=I2.kept (t':=tk) (h':=h'.push { cls:=.type "list_iterator",data:=.fields #[.ref l,.int 0 0] }) fun b o e => Heap.get?_push_of_some _ e
  have fo:FpOk X pins H h'.objs.size:=I2.fpOk (Nat.le_refl _) (I.hok.fresh (Nat.le_of_lt le))
  refine wpAny_pure ⟨plainId_quiet upl_plain _,upl_run (X:=X) (pins:=pins) (σ:=σ) (A:=X.A.in1) (I.ok.hd hc) (by show X.A.units + 1 + 2 < cLine; omega) hdn (Nat.ne_of_lt le) hl hps fo as.length 0 _ [] 0 (Nat.sub_zero _) (Nat.zero_le _) I3 ⟨_,Heap.get?_push_size _ rfl,rfl,rfl⟩ (by rw [List.length_nil]; omega) fun s' I' => ⟨rfl,.ref s.heap.objs.size,_,I',rfl,?_⟩⟩
  rw [List.drop_zero]
  exact q _ hdn
end
end L2
namespace L2
open PySem PySem.Spec PyProof.Rows
section
variable {prog:Program} {w:World} {A:Around} {E:Value → Shared → Prop} {s:Shared} {K:Type} [DecidableEq K] {knd:HeapKind prog w K}
theorem setdef_heap {d a:Addr} {xs:List (K × Addr × Value)} {k:K} {v:Value} {Q:Value → Shared → Prop} (hu:knd.room A) (hkey:knd.is s.heap k a) (hm:s.heap.DictOfH knd d xs) (hsz:xs.length ≤ sizeLine)
    (h1:∀ old,(atKey xs k).map (·.2) = some old → Q old { s with toks:=s.toks + knd.draws k })
    (h2:atKey xs k = none → ∀ h',h'.DictOfH knd d (storedH xs k a v) → Heap.SameBut d s.heap h' → Q v { s with heap:=h',toks:=s.toks + knd.draws k }) :
    wpAny (model prog w) A (dictSetDefault d (.ref a) v) Q E s:=by
  obtain ⟨o,es,ep,ho,hc,hd,he,his,hn⟩:=hm
  unfold dictSetDefault
  try with_reducible refine wpAny_holding ?_
  refine wpAny_bind (knd.pyHash hu hkey (wpAny_bind (wpAny_dictFind_heap (s:={ s with toks:=s.toks + knd.draws k }) hu hkey ho hd he his hn (fun hno => ?_) fun j p hj => ?_)))
  · have hnot:k ∉ xs.map (·.1):=not_mem_keys_of_get hno
    have hat:=atKey_none_of_get hno
    refine wpAny_bind (wpAny_rule (wpAny_bind (wpAny_updateDictKeys (hz:=by have e:=size_of_entries he; omega) (s:={ s with toks:=s.toks + knd.draws k }) ho hd (wpAny_pure (h2 hat _ ⟨_,_,ep + 1,Heap.get?_update_self _ ho (Obj.isFreed_of_dict (Obj.data_mapDictKeys hd _)),hc.mapDictKeys _,Obj.data_mapDictKeys hd _,?_,?_,?_⟩ (Heap.SameBut.update ..))))))
    · rw [storedH_new hat]
      simp [he,entryOfKey]
    · rw [storedH_new hat]
      intro x hx
      rcases List.mem_append.mp hx with hx | hx
      · exact knd.keeps (his x hx) ho hd (Heap.SameBut.update ..)
      · rw [List.mem_singleton.mp hx]
        exact knd.keeps hkey ho hd (Heap.SameBut.update ..)
    · rw [storedH_new hat,List.map_append]
      refine List.nodup_append.mpr ⟨hn,by simp,fun x hx y hy z => ?_⟩
      have hy':y = k:=List.mem_singleton.mp hy
      rw [z,hy'] at hx
      exact hnot hx
  · refine wpAny_bind (wpAny_dictEntries (s:={ s with toks:=s.toks + knd.draws k }) ho hd ?_)
    rw [entry_at he j,hj]
    exact wpAny_bind (wpAny_rule (wpAny_pure (h1 _ (by rw [atKey_of_get hn hj]; rfl))))
end
section
variable {X:Cx}
noncomputable def tDSetT (td ty tx:TE):TE:=fun σ H Q => td σ H fun x H1 => ∃ a,x = .ref a ∧ IsD H1 a ∧ ty σ H1 fun y H2 => tx σ H2 fun z H3 => ∃ kvs k b,H3 a = some (.dT kvs) ∧ y = .ref b ∧ H3 b = some (.tup (k.map kV)) ∧ kvs.length < sizeLine ∧
  ((∃ v,valV kvs k = some v ∧ Q v H3) ∨ (valV kvs k = none ∧ Q z (upd H3 a (.dT (putK kvs k z)))))
theorem pe_dsetT (hu:X.A.units + 1 < cLine) {o e f:Expr} {apos cpos:Pos} {td ty tx:TE} (ho:PE X o td) (he:PE X e ty) (hf:PE X f tx) (m:M2 X o "setdefault" apos e f cpos):PE X (.Call (.Attribute o "setdefault" apos) [e,f] [] cpos) (tDSetT td ty tx):=by
  intro pins s σ H Q I h
  refine wpAny_Call_method m.base m.few m.line PySem.F.plainAttrs_dict PySem.F.slot_dict_setdefault PySem.F.type_dict_setdefault (thn (ho pins s σ H _ I h) fun u s1 ⟨x,H1,I1,rx,a,ex,d,q1⟩ => ?_)
  subst ex
  obtain rfl:u = Value.ref a:=rx
  obtain ⟨t1,t2,_⟩:=isD_at I1 d
  refine ⟨t1,t2,?_⟩
  rw [m.trees]
  refine Calls.callWith_builtin rfl (Calls.evalArgs_plain (Calls.spliced_cons (thn (he pins s1 σ H1 _ I1 q1) fun iv s2 ⟨y,H2,I2,ry,q2⟩ =>
    Calls.spliced_cons (thn (hf pins s2 σ H2 _ I2 q2) fun fv s3 ⟨z,H3,I3,rz,kvs,k,b,ea,ey,eb,hz,q3⟩ => Calls.spliced_nil ?_))))
  subst ey
  cases (show iv = Value.ref b from ry)
  obtain ⟨hzl,hd,xs,rel,dd⟩:=dt_of I3.hok ea
  have tI:s3.TypeIs (.ref a) "dict":=dd.typeIs
  refine wpAny_call (codeAny_call_builtin PySem.F.slot_dict_setdefault.plain PySem.F.entry_dict_setdefault (PySem.F.slot_dict_setdefault.check _ _ _ _ _ _ _ _ tI (PySem.F.args_dict_setdefault_3 _ _ _) ?_))
  unfold Builtin.«dict.setdefault» Builtin.Dict.keyAndDefault
  refine wpAny_bind (wpAny_bind (wpAny_notOrdered_dict tI (show wpAny _ _ (pure (a,Value.ref b,some fv)) _ _ s3 from wpAny_pure ?_)))
  show wpAny _ _ (if (a == sysModules) = true then _ else (dictSetDefault a (.ref b) fv >>= _)) _ _ s3
  rw [if_neg (by rw [hd]; exact Bool.false_ne_true)]
  refine wpAny_bind (setdef_heap (tupleKind_room_in1 hu) (key_of I3.hok eb) dd (by rw [← Paired.length rel]; exact hzl) (fun v hv => wpAny_pure ?_) fun hn h' dd' hs => wpAny_pure ?_)
  · rcases q3 with ⟨v',hv',q⟩ | ⟨hv',_⟩
    · obtain ⟨w',hw,rw'⟩:=RelO.some_of (v:=v') (o:=(atKey xs k).map (·.2)) (by rw [← hv']; exact rel.val k)
      rw [hw] at hv
      cases hv
      exact ⟨v',H3,I3.tok _,rw',q⟩
    · have z:=rel.val k
      rw [hv',hv] at z
      exact absurd z (by intro z; cases z)
  · rcases q3 with ⟨v',hv',_⟩ | ⟨hv',q⟩
    · have z:=rel.val k
      rw [hv',hn] at z
      exact absurd z (by intro z; cases z)
    · have hl:(putK kvs k z).length ≤ sizeLine:=by have:=length_putK kvs k z; omega
      obtain ⟨q',es,ep,hq,g2,g3,g4,_,g5⟩:=dd'
      refine ⟨z,_,d_write (ob:=.dT (putK kvs k z)) I3 (by rw [ea]; exact True.intro) hs ⟨q',hq⟩ ⟨hl,hd,_,(rel.put k eb rz).keeps fun c ys ec => ?_,q',es,ep,hq,g2,g3,g4,g5⟩,rz,q⟩
      rw [upd_ne (ne_of ec ea (fun z => nomatch z))]
      exact ec
end
end L2
namespace K29
open PySem L2 Kk
noncomputable def top (i:Nat):Stmt:=PySem.Challenge.pw_sealhouse_k29_faces_of_sixteen.main.body.getD i (.Pass ⟨0,0,0,0⟩)
noncomputable abbrev sWords:Stmt:=top 7
noncomputable abbrev sNames:Stmt:=top 8
noncomputable abbrev sPut:Stmt:=top 9
noncomputable abbrev sBounded:Stmt:=top 10
noncomputable abbrev sNormal:Stmt:=top 11
noncomputable abbrev sToldKind:Stmt:=top 12
noncomputable abbrev sOwn:Stmt:=top 15
noncomputable abbrev sPutFace:Stmt:=top 16
noncomputable abbrev sPutFun:Stmt:=top 17
noncomputable abbrev sFaceOf:Stmt:=top 18
noncomputable abbrev sFitted:Stmt:=top 19
noncomputable abbrev sLeast:Stmt:=top 20
noncomputable abbrev sCell:Stmt:=top 22
noncomputable abbrev sWord:Stmt:=top 23
noncomputable abbrev sWordsL:Stmt:=top 24
noncomputable abbrev sItems:Stmt:=top 25
noncomputable abbrev sPutL:Stmt:=top 26
noncomputable abbrev sRows:Stmt:=top 27
noncomputable abbrev sLeastL:Stmt:=top 28
noncomputable abbrev sSame:Stmt:=top 29
noncomputable abbrev sRefused:Stmt:=top 30
noncomputable abbrev sLaw:Stmt:=top 31
theorem small {n:Nat} (h:n ≤ 1000):n ≤ sizeLine:=Nat.le_of_lt (small1000 h)
theorem same_new {H:Hp} {p:Addr} (h:H p = none) (o:HO):Same H (upd H p o):=fun b u q => by rw [upd_ne (ne_of_none q h)]; exact q
noncomputable def sumW (ks:List Kd):Nat:=(ks.map Kd.words).sum
theorem words_pos (k:Kd):0 < k.words:=by
  have:=words_leaves k
  have:=leaves_pos k
  omega
theorem sumW_app (a b:List Kd):sumW (a ++ b) = sumW a + sumW b:=by
  unfold sumW
  rw [List.map_append,List.sum_append]
theorem sumW_one (k:Kd):sumW [k] = k.words:=Nat.add_zero _
theorem len_sumW:∀ ks:List Kd,ks.length ≤ sumW ks
  | [] => Nat.le_refl _
  | k :: ks => by
    have h1:=len_sumW ks
    have h2:=words_pos k
    show ks.length + 1 ≤ k.words + sumW ks
    omega
theorem snoc {K:PySem.W.Frag} {H:Hp}:∀ {us:List V} {v:V} {ks:List Kd},KdsAt K H (us ++ [v]) ks → ∃ ls k,ks = ls ++ [k] ∧ KdsAt K H us ls ∧ KdAt K H v k
  | [],v,_,.cons a .nil => ⟨[],_,rfl,.nil,a⟩
  | u :: us,v,_,.cons a b => by
    obtain ⟨ls,k,rfl,h1,h2⟩:=snoc (us:=us) b
    exact ⟨_ :: ls,k,rfl,.cons a h1,h2⟩
theorem snoc_get {us:List V} {v:V}:(us ++ [v])[(us ++ [v]).length - 1]? = some v:=by simp
theorem one {K:PySem.W.Frag} {H:Hp} {v:V} {k:Kd} (h:KdAt K H v k):KdsAt K H [v] [k]:=.cons h .nil
noncomputable def spWords (K:PySem.W.Frag):Sp:=fun vs H Q _ => ∃ (x:V) (k:Kd),vs = [x] ∧ KdAt K H x k ∧ k.words ≤ 900 ∧ ∀ H',Same H H' → Q (.int k.words) H'
section
variable {P:Program} {w:World} {K:PySem.W.Frag} {mg:Str → Option Value} {base:Heap}
theorem scWords:FnScope ["kind","words","left","here"] ["kind"] (defScope sWords):=⟨rfl,rfl,rfl,by decide +kernel,rfl,by decide +kernel,by decide +kernel⟩
theorem ok_words {f:Addr} {fd:FuncData} (F:Fun K "words_in" "words_in" sWords f fd) (ml:mg "len" = none):FnOk P w K mg base CX0 1 f fd ["kind"] (spWords K):=by
  refine F.ok scWords (fun vs H Q E h => ?_) (fun cdv A outer s H vs Q E hr h => ?_)
  · obtain ⟨x,k,rfl,_⟩:=h
    rfl
  obtain ⟨x,k,rfl,hk,h9,q⟩:=h
  refine ⟨_,pss_cons (ps_set (i:=1) scWords.nd rfl (Or.inl rfl) pe_int)
    (pss_cons (ps_set (i:=2) scWords.nd rfl (Or.inl rfl) (pe_lst (pa_cons (pv 0) pa_nil)))
    (pss_cons (ps_while PassesOwn.never (pt_cmpR op_gt (pe_callB call_len_seq rfl ml PySem.boot_len (pa_cons (pv 2) pa_nil)) pe_int (nomark _))
      (pss_cons (ps_set (i:=3) scWords.nd rfl (Or.inl rfl) (pe_bm0 PySem.F.plainAttrs_list PySem.F.slot_list_pop PySem.F.type_list_pop mt_pop (pv 2)))
      (pss_cons (ps_aug (i:=1) scWords.nd rfl (Or.inl rfl) pe_int ip_add)
      (pss_one (ps_if (pt_cmpR op_eq (pe_ix ix_tup (pv 3) pe_int (fun _ _ => rfl)) pe_str (nomark _))
        (pss_cons (ps_expr (pe_bm PySem.F.plainAttrs_list PySem.F.slot_list_append PySem.F.type_list_append mt_append (pv 2) (pa_cons (pe_ix ix_tup (pv 3) pe_int (fun _ _ => rfl)) pa_nil)))
        (pss_one (ps_expr (pe_bm PySem.F.plainAttrs_list PySem.F.slot_list_append PySem.F.type_list_append mt_append (pv 2) (pa_cons (pe_ix ix_tup (pv 3) pe_int (fun _ _ => rfl)) pa_nil))))) pss_nil)))))
    (pss_one (ps_ret (pv 1))))),?_⟩
  refine ⟨_,rfl,(by show 1 ≤ sizeLine; decide),fun l hl => ?_⟩
  have sL:∀ o,Same H (upd H l o):=same_new hl
  refine while_by (fun σ H2 => ∃ (vs:List V) (ks:List Kd) (n:Nat) (h:Option V),σ = [some x,some (.int n),some (.ref l),h] ∧ H2 = upd H l (.lst vs) ∧ KdsAt K H vs ks ∧ n + sumW ks = k.words)
    (fun σ _ => match σ with | [_,some (.int n),_,_] => k.words - n.toNat | _ => 0) ⟨[x],[k],0,none,rfl,rfl,one hk,by rw [sumW_one]; omega⟩ ?_ ?_
  · rintro σ H2 ⟨vs,ks,n,h,rfl,rfl,hv,hn⟩
    refine ⟨_,rfl,l,_,rfl,.inl (SqL.of upd_same),_,_,rfl,rfl,_,rfl,?_⟩
    refine ite2 (fun c => ?_) (fun c => ?_)
    · have c':(0:Int) < (vs.length:Int):=of_decide_eq_true c
      have hne:vs ≠ []:=fun e => by rw [e] at c'; exact absurd c' (by decide)
      obtain ⟨us,v,rfl⟩:∃ us v,vs = us ++ [v]:=⟨_,_,(List.dropLast_concat_getLast hne).symm⟩
      obtain ⟨ls,j,rfl,hu,hj⟩:=snoc hv
      rw [sumW_app,sumW_one] at hn
      have hjp:=words_pos j
      refine ⟨_,rfl,?_,l,_,v,rfl,rfl,upd_same,snoc_get,?_⟩
      · exact .inl ⟨rfl,_,SqL.of upd_same⟩
      rw [upd_upd,List.dropLast_concat]
      have hl2:=len_sumW ls
      have hul:=hu.length
      refine ⟨_,rfl,_,_,rfl,rfl,?_⟩
      have e1:((n:Int) + 1) = ((n + 1:Nat):Int):=by omega
      cases hj with
      | @num p m t =>
        refine ⟨_,rfl,_,_,_,_,rfl,rfl,(sL _).tup t,(show atI [V.str "num",.int m] 0 = some (.str "num") from rfl),rfl,_,rfl,ite2 (fun c => absurd c (by decide +kernel)) (fun _ => ?_)⟩
        have hw:(Kd.num m).words = 1:=rfl
        rw [hw] at hn
        refine ⟨⟨us,ls,n + 1,_,by rw [← e1] <;> rfl,rfl,hu,by omega⟩,?_⟩
        show k.words - ((n:Int) + 1).toNat < k.words - (n:Int).toNat
        omega
      | @name p q t h =>
        refine ⟨_,rfl,_,_,_,_,rfl,rfl,(sL _).tup h,(show atI [V.str "name",.str q,.str t] 0 = some (.str "name") from rfl),rfl,_,rfl,ite2 (fun c => absurd c (by decide +kernel)) (fun _ => ?_)⟩
        have hw:(Kd.name q t).words = 1:=rfl
        rw [hw] at hn
        refine ⟨⟨us,ls,n + 1,_,by rw [← e1] <;> rfl,rfl,hu,by omega⟩,?_⟩
        show k.words - ((n:Int) + 1).toNat < k.words - (n:Int).toNat
        omega
      | @pair p y z a b t ha hb =>
        have hw:(Kd.pair a b).words = 1 + a.words + b.words:=rfl
        rw [hw] at hn hjp
        have h1:=words_pos a
        have h2:=words_pos b
        refine ⟨_,rfl,_,_,_,_,rfl,rfl,(sL _).tup t,(show atI [V.str "pair",y,z] 0 = some (.str "pair") from rfl),rfl,_,rfl,ite2 (fun _ => ?_) (fun c => absurd (by decide +kernel) c)⟩
        refine ⟨_,rfl,.inl ⟨rfl,_,SqL.of upd_same⟩,_,rfl,_,_,_,_,rfl,rfl,(sL _).tup t,(show atI [V.str "pair",y,z] 1 = some y from rfl),l,_,_,rfl,rfl,upd_same,Nat.lt_of_lt_of_le (Nat.lt_succ_self _) (small (by omega)),?_⟩
        rw [upd_upd]
        refine ⟨_,rfl,.inl ⟨rfl,_,SqL.of upd_same⟩,_,rfl,_,_,_,_,rfl,rfl,(sL _).tup t,(show atI [V.str "pair",y,z] 2 = some z from rfl),l,_,_,rfl,rfl,upd_same,Nat.lt_of_lt_of_le (Nat.lt_succ_self _) (small (by rw [List.length_append]; show us.length + 1 + 1 ≤ 1000; omega)),?_⟩
        rw [upd_upd]
        refine ⟨⟨us ++ [y] ++ [z],ls ++ [a] ++ [b],n + 1,_,by rw [← e1] <;> rfl,rfl,(hu.append (one ha)).append (one hb),by rw [sumW_app,sumW_app,sumW_one,sumW_one]; omega⟩,?_⟩
        show k.words - ((n:Int) + 1).toNat < k.words - (n:Int).toNat
        omega
    · have c':¬ (0:Int) < (vs.length:Int):=of_decide_eq_false (Bool.eq_false_iff.mpr c)
      have hv0:vs = []:=List.length_eq_zero_iff.mp (by omega)
      subst hv0
      cases hv
      have e:n = k.words:=hn
      subst e
      exact ⟨_,rfl,q _ (sL _)⟩
  · rintro σ H2 Q1 Q2 hq ⟨v,e1,a,xs,e2,hs,i,j,e3,e4,b,e5,h⟩
    exact ⟨v,e1,a,xs,e2,hs,i,j,e3,e4,b,e5,hq _ _ h⟩
end
theorem while_rel {c:TT} {tb:TS} {D:Ends} {σ:St} {H:Hp} (W:Nat → St → Hp → Prop) (m:Nat) (h0:W m σ H)
    (hs:∀ m σ H,W m σ H → c σ H fun b H1 => if b = true then tb { D with nx:=fun σ' H' => ∃ m',m' < m ∧ W m' σ' H',ct:=fun σ' H' => ∃ m',m' < m ∧ W m' σ' H',bk:=D.nx } σ H1 else D.nx σ H1)
    (mono:∀ σ H Q Q',(∀ b H1,Q b H1 → Q' b H1) → c σ H Q → c σ H Q'):tWhile c tb D σ H:=by
  refine ⟨W,⟨m,h0⟩,fun m σ H p => mono σ H _ _ (fun b H1 q => ?_) (hs m σ H p)⟩
  cases b with
  | true => exact ⟨_,fun σ' H' z => z,q⟩
  | false => exact q
noncomputable def Kd.names:Kd → List (Str × Str)
  | .num _ => []
  | .name q t => [(q,t)]
  | .pair a b => Kd.names a ++ Kd.names b
noncomputable def addN (acc:List (Str × Str)) (n:Str × Str):List (Str × Str):=if n ∈ acc then acc else acc ++ [n]
noncomputable def firsts (acc l:List (Str × Str)):List (Str × Str):=l.foldl addN acc
noncomputable def restN (ks:List Kd):List (Str × Str):=(ks.reverse.map Kd.names).flatten
theorem restN_snoc (ls:List Kd) (j:Kd):restN (ls ++ [j]) = Kd.names j ++ restN ls:=by
  unfold restN
  rw [List.reverse_concat,List.map_cons,List.flatten_cons]
noncomputable def keyN (n:Str × Str):List Key:=[.inr n.1,.inr n.2]
theorem keyN_inj {m n:Str × Str} (h:keyN m = keyN n):m = n:=by
  cases m; cases n
  simp [keyN] at h
  exact Prod.ext h.1 h.2
theorem put_keys {kvs:List (List Key × V)} {dn:List (Str × Str)} {n:Str × Str} {v:V} (h:kvs.map (·.1) = dn.map keyN):(putK kvs (keyN n) v).map (·.1) = (addN dn n).map keyN:=by
  have e:(kvs.any fun kv => decide (kv.1 = keyN n)) = true ↔ n ∈ dn:=by
    rw [List.any_eq_true]
    constructor
    · rintro ⟨p,hp,q⟩
      have m:p.1 ∈ kvs.map (·.1):=List.mem_map.mpr ⟨p,hp,rfl⟩
      rw [h] at m
      obtain ⟨z,hz,ez⟩:=List.mem_map.mp m
      exact keyN_inj (ez.trans (of_decide_eq_true q)) ▸ hz
    · intro hn
      have m:keyN n ∈ dn.map keyN:=List.mem_map.mpr ⟨n,hn,rfl⟩
      rw [← h] at m
      obtain ⟨p,hp,ep⟩:=List.mem_map.mp m
      exact ⟨p,hp,decide_eq_true ep⟩
  unfold putK addN
  by_cases hn:n ∈ dn
  · rw [if_pos (e.mpr hn),if_pos hn,← h,List.map_map]
    refine List.map_congr_left fun p _ => ?_
    show (if p.1 = keyN n then (p.1,v) else p).1 = p.1
    split <;> rfl
  · rw [if_neg (fun z => hn (e.mp z)),if_neg hn,List.map_append,List.map_append,h]
    rfl
theorem addN_len (dn:List (Str × Str)) (n:Str × Str):(addN dn n).length ≤ dn.length + 1:=by
  unfold addN
  split
  · omega
  · rw [List.length_append]
    exact Nat.le_refl _
theorem paired_names {H:Hp}:∀ {kvs:List (List Key × V)} {dn:List (Str × Str)} {as:List Addr},kvs.map (·.1) = dn.map keyN →
    Paired (fun (p:List Key × V) (k:Addr) => H k = some (.tup (p.1.map kV))) kvs as → Paired (fun (n:Str × Str) (a:Addr) => H a = some (.tup [.str n.1,.str n.2])) dn as
  | [],[],_,_,.nil => .nil
  | p :: kvs,n :: dn,_,h,.cons a b => by
    have h1:p.1 = keyN n:=(List.cons.inj h).1
    rw [h1] at a
    exact .cons a (paired_names (List.cons.inj h).2 b)
theorem paired_same {H H':Hp} (e:Same H H'):∀ {dn:List (Str × Str)} {as:List Addr},Paired (fun (n:Str × Str) (a:Addr) => H a = some (.tup [.str n.1,.str n.2])) dn as → Paired (fun (n:Str × Str) (a:Addr) => H' a = some (.tup [.str n.1,.str n.2])) dn as
  | _,_,.nil => .nil
  | _,_,.cons a b => .cons (e _ _ a) (paired_same e b)
theorem sput {H H2:Hp} {a:Addr} {o:HO} (e:Same H H2) (h:H a = none):Same H (upd H2 a o):=fun b u q => by rw [upd_ne (ne_of_none q h)]; exact e b u q
noncomputable def spNames (K:PySem.W.Frag):Sp:=fun vs H Q _ => ∃ (x:V) (k:Kd),vs = [x] ∧ KdAt K H x k ∧ k.words ≤ 900 ∧
  ∀ H' l (as:List Addr),Same H H' → H l = none → H' l = some (.lst (as.map V.ref)) → Paired (fun (n:Str × Str) (a:Addr) => H' a = some (.tup [.str n.1,.str n.2])) (firsts [] (Kd.names k)) as → Q (.ref l) H'
theorem bootList:bootBuiltins "list" = some (.type "list"):=by decide +kernel
section
variable {P:Program} {w:World} {K:PySem.W.Frag} {mg:Str → Option Value} {base:Heap}
theorem scNames:FnScope ["kind","met","left","here"] ["kind"] (defScope sNames):=⟨rfl,rfl,rfl,by decide +kernel,rfl,by decide +kernel,by decide +kernel⟩
theorem ok_names {f:Addr} {fd:FuncData} (F:Fun K "names_in" "names_in" sNames f fd) (ml:mg "len" = none) (mi:mg "list" = none):FnOk P w K mg base CX0 1 f fd ["kind"] (spNames K):=by
  refine F.ok scNames (fun vs H Q E h => ?_) (fun cdv A outer s H vs Q E hr h => ?_)
  · obtain ⟨x,k,rfl,_⟩:=h
    rfl
  obtain ⟨x,k,rfl,hk,h9,q⟩:=h
  have hu:=Nat.lt_of_le_of_lt (Nat.add_le_add_left (show 1 ≤ 64 by decide) _) hr.units
  refine ⟨_,pss_cons (ps_set (i:=1) scNames.nd rfl (Or.inl rfl) pe_dnewT)
    (pss_cons (ps_set (i:=2) scNames.nd rfl (Or.inl rfl) (pe_lst (pa_cons (pv 0) pa_nil)))
    (pss_cons (ps_while PassesOwn.never (pt_cmpR op_gt (pe_callB call_len_seq rfl ml PySem.boot_len (pa_cons (pv 2) pa_nil)) pe_int (nomark _))
      (pss_cons (ps_set (i:=3) scNames.nd rfl (Or.inl rfl) (pe_bm0 PySem.F.plainAttrs_list PySem.F.slot_list_pop PySem.F.type_list_pop mt_pop (pv 2)))
      (pss_one (ps_if (pt_cmpR op_eq (pe_ix ix_tup (pv 3) pe_int (fun _ _ => rfl)) pe_str (nomark _))
        (pss_cons (ps_expr (pe_bm PySem.F.plainAttrs_list PySem.F.slot_list_append PySem.F.type_list_append mt_append (pv 2) (pa_cons (pe_ix ix_tup (pv 3) pe_int (fun _ _ => rfl)) pa_nil)))
        (pss_one (ps_expr (pe_bm PySem.F.plainAttrs_list PySem.F.slot_list_append PySem.F.type_list_append mt_append (pv 2) (pa_cons (pe_ix ix_tup (pv 3) pe_int (fun _ _ => rfl)) pa_nil)))))
        (pss_one (ps_if (pt_cmpR op_eq (pe_ix ix_tup (pv 3) pe_int (fun _ _ => rfl)) pe_str (nomark _))
          (pss_one (ps_dput hu (pv 1) (pe_tup (pa_cons (pe_ix ix_tup (pv 3) pe_int (fun _ _ => rfl)) (pa_cons (pe_ix ix_tup (pv 3) pe_int (fun _ _ => rfl)) pa_nil))) pe_bl rfl)) pss_nil))))))
    (pss_one (ps_ret (pe_callTy (call_list_dT rfl) rfl mi bootList (pa_cons (pv 1) pa_nil)))))),?_⟩
  refine fun d hd => ⟨_,rfl,(by show 1 ≤ sizeLine; decide),fun l hl => ?_⟩
  have hdl:d ≠ l:=fun e => by rw [e] at hl; rw [upd_same] at hl; cases hl
  have hl0:H l = none:=by rw [upd_ne (Ne.symm hdl)] at hl; exact hl
  refine while_rel (fun m σ H2 => ∃ (vs:List V) (ks:List Kd) (kvs:List (List Key × V)) (dn:List (Str × Str)) (h:Option V),σ = [some x,some (.ref d),some (.ref l),h] ∧ Same H H2 ∧ H2 l = some (.lst vs) ∧ H2 d = some (.dT kvs) ∧
      KdsAt K H vs ks ∧ kvs.map (·.1) = dn.map keyN ∧ firsts dn (restN ks) = firsts [] (Kd.names k) ∧ dn.length + sumW ks ≤ k.words ∧ m = sumW ks) (sumW [k])
    ⟨[x],[k],[],[],none,rfl,sput (same_new hd _) hl0,upd_same,by rw [upd_ne hdl]; exact upd_same,one hk,rfl,by show firsts [] (Kd.names k ++ []) = _; rw [List.append_nil],by rw [sumW_one]; show 0 + _ ≤ _; omega,rfl⟩ ?_ ?_
  · rintro m σ H2 ⟨vs,ks,kvs,dn,h,rfl,sH,hL,hD,hv,hkeys,hf,hn,rfl⟩
    refine ⟨_,rfl,l,_,rfl,.inl (SqL.of hL),_,_,rfl,rfl,_,rfl,?_⟩
    refine ite2 (fun c => ?_) (fun c => ?_)
    · have c':(0:Int) < (vs.length:Int):=of_decide_eq_true c
      have hne:vs ≠ []:=fun e => by rw [e] at c'; exact absurd c' (by decide)
      obtain ⟨us,v,rfl⟩:∃ us v,vs = us ++ [v]:=⟨_,_,(List.dropLast_concat_getLast hne).symm⟩
      obtain ⟨ls,j,rfl,hus,hj⟩:=snoc hv
      rw [restN_snoc] at hf
      rw [sumW_app,sumW_one] at hn ⊢
      have hjp:=words_pos j
      refine ⟨_,rfl,.inl ⟨rfl,_,SqL.of hL⟩,l,_,v,rfl,rfl,hL,snoc_get,?_⟩
      rw [List.dropLast_concat]
      have hl2:=len_sumW ls
      have hul:=hus.length
      have sH1:Same H (upd H2 l (.lst us)):=sput sH hl0
      have hD1:upd H2 l (.lst us) d = some (.dT kvs):=by rw [upd_ne hdl]; exact hD
      cases hj with
      | @num p m t =>
        refine ⟨_,rfl,_,_,_,_,rfl,rfl,sH1.tup t,(show atI [V.str "num",.int m] 0 = some (.str "num") from rfl),rfl,_,rfl,ite2 (fun c => absurd c (by decide +kernel)) (fun _ => ?_)⟩
        refine ⟨_,rfl,_,_,_,_,rfl,rfl,sH1.tup t,(show atI [V.str "num",.int m] 0 = some (.str "num") from rfl),rfl,_,rfl,ite2 (fun c => absurd c (by decide +kernel)) (fun _ => ?_)⟩
        exact ⟨sumW ls,by omega,us,ls,kvs,dn,_,rfl,sH1,upd_same,hD1,hus,hkeys,hf,by omega,rfl⟩
      | @name p n t h =>
        refine ⟨_,rfl,_,_,_,_,rfl,rfl,sH1.tup h,(show atI [V.str "name",.str n,.str t] 0 = some (.str "name") from rfl),rfl,_,rfl,ite2 (fun c => absurd c (by decide +kernel)) (fun _ => ?_)⟩
        refine ⟨_,rfl,_,_,_,_,rfl,rfl,sH1.tup h,(show atI [V.str "name",.str n,.str t] 0 = some (.str "name") from rfl),rfl,_,rfl,ite2 (fun _ => ?_) (fun c => absurd (by decide +kernel) c)⟩
        refine ⟨_,rfl,_,rfl,_,_,_,_,rfl,rfl,sH1.tup h,(show atI [V.str "name",.str n,.str t] 1 = some (.str n) from rfl),_,rfl,_,_,_,_,rfl,rfl,sH1.tup h,(show atI [V.str "name",.str n,.str t] 2 = some (.str t) from rfl),(by show 2 ≤ sizeLine; decide),fun b hb => ?_⟩
        have hbd:d ≠ b:=ne_of_none hD1 hb
        have hbl:l ≠ b:=ne_of_none upd_same hb
        have hb0:H b = none:=by
          cases e:H b with
          | none => rfl
          | some o => rw [sH1 b o e] at hb; cases hb
        have hlen:kvs.length = dn.length:=by have:=congrArg List.length hkeys; rw [List.length_map,List.length_map] at this; exact this
        have hw:(Kd.name n t).words = 1:=rfl
        rw [hw] at hn
        refine ⟨d,_,rfl,DPut.t (k:=keyN (n,t)) (by rw [upd_ne hbd]; exact hD1) (by rw [upd_same] <;> rfl) (Nat.lt_of_lt_of_le (Nat.lt_succ_self _) (small (by omega))),?_⟩
        have al:=addN_len dn (n,t)
        refine ⟨sumW ls,by omega,us,ls,_,addN dn (n,t),_,rfl,sput (sput sH1 hb0) hd,?_,upd_same,hus,put_keys hkeys,hf,by omega,rfl⟩
        rw [upd_ne (Ne.symm hdl),upd_ne hbl,upd_same]
      | @pair p y z a b t ha hb =>
        have hw:(Kd.pair a b).words = 1 + a.words + b.words:=rfl
        rw [hw] at hn hjp ⊢
        have h1:=words_pos a
        have h2:=words_pos b
        refine ⟨_,rfl,_,_,_,_,rfl,rfl,sH1.tup t,(show atI [V.str "pair",y,z] 0 = some (.str "pair") from rfl),rfl,_,rfl,ite2 (fun _ => ?_) (fun c => absurd (by decide +kernel) c)⟩
        refine ⟨_,rfl,.inl ⟨rfl,_,SqL.of upd_same⟩,_,rfl,_,_,_,_,rfl,rfl,sH1.tup t,(show atI [V.str "pair",y,z] 2 = some z from rfl),l,_,_,rfl,rfl,upd_same,Nat.lt_of_lt_of_le (Nat.lt_succ_self _) (small (by omega)),?_⟩
        rw [upd_upd]
        refine ⟨_,rfl,.inl ⟨rfl,_,SqL.of upd_same⟩,_,rfl,_,_,_,_,rfl,rfl,(sput sH hl0).tup t,(show atI [V.str "pair",y,z] 1 = some y from rfl),l,_,_,rfl,rfl,upd_same,Nat.lt_of_lt_of_le (Nat.lt_succ_self _) (small (by rw [List.length_append]; show us.length + 1 + 1 ≤ 1000; omega)),?_⟩
        rw [upd_upd]
        have es:sumW (ls ++ [b] ++ [a]) = sumW ls + b.words + a.words:=by rw [sumW_app,sumW_app,sumW_one,sumW_one]
        refine ⟨sumW (ls ++ [b] ++ [a]),by rw [es]; omega,us ++ [z] ++ [y],ls ++ [b] ++ [a],kvs,dn,_,rfl,sput sH hl0,upd_same,by rw [upd_ne hdl]; exact hD,(hus.append (one hb)).append (one ha),hkeys,?_,by rw [es]; omega,rfl⟩
        rw [restN_snoc,restN_snoc,← List.append_assoc]
        exact hf
    · have c':¬ (0:Int) < (vs.length:Int):=of_decide_eq_false (Bool.eq_false_iff.mpr c)
      have hv0:vs = []:=List.length_eq_zero_iff.mp (by omega)
      subst hv0
      cases hv
      refine ⟨_,rfl,d,kvs,rfl,hD,fun as o ho pr => ?_⟩
      have ef:dn = firsts [] (Kd.names k):=hf
      subst ef
      have so:Same H2 (upd H2 o (.lst (as.map V.ref))):=same_new ho _
      have ho0:H o = none:=by
        cases e:H o with
        | none => rfl
        | some u => rw [sH o u e] at ho; cases ho
      refine q _ o as (fun b u e => so b u (sH b u e)) ho0 upd_same (paired_same so (paired_names hkeys pr))
  · rintro σ H2 Q1 Q2 hq ⟨v,e1,a,xs,e2,hs,i,j,e3,e4,b,e5,h⟩
    exact ⟨v,e1,a,xs,e2,hs,i,j,e3,e4,b,e5,hq _ _ h⟩
end
end K29
namespace K29
open PySem L2 Kk
theorem at_int {ns:List Int} {i:Int} (h0:0 ≤ i) (h1:i < ns.length):∃ v:Int,atI (ns.map V.int) i = some (.int v):=by
  have hk:i.toNat < List.length ns:=by omega
  have e:i = ((i.toNat:Nat):Int):=by omega
  have q:atI (ns.map V.int) ((i.toNat:Nat):Int) = some (.int ns[i.toNat]):=atI_nat (by simp [hk])
  rw [← e] at q
  exact ⟨_,q⟩
theorem at_ex {α:Type} {xs:List α} {i:Int} (h0:0 ≤ i) (h1:i < xs.length):∃ v,atI xs i = some v:=by
  have hk:i.toNat < xs.length:=by omega
  have e:i = ((i.toNat:Nat):Int):=by omega
  have q:atI xs ((i.toNat:Nat):Int) = some xs[i.toNat]:=atI_nat (by simp)
  rw [← e] at q
  exact ⟨_,q⟩
noncomputable def spCell (K:PySem.W.Frag):Sp:=fun vs H Q _ => ∃ (a:Addr) (ns:List Int) (k:Int),vs = [.ref a,.int k] ∧ SqL K H a (ns.map V.int) ∧ ns.length ≤ 63 ∧ 0 ≤ k ∧ k ≤ 1000 ∧ ∀ c:Int,Q (.int c) H
theorem sok_iff (z:Str):PyData.strOk z = true ↔ ∀ c ∈ z.cps.toList,c < 0x110000:=by
  unfold PyData.strOk
  rw [Array.all_eq_true_iff_forall_mem]
  simp
theorem sok_app {a b:Str} (ha:PyData.strOk a = true) (hb:PyData.strOk b = true):PyData.strOk (a ++ b) = true:=by
  rw [sok_iff] at *
  intro c hc
  have hc':c ∈ (a.cps ++ b.cps).toList:=hc
  rw [Array.toList_append] at hc'
  rcases List.mem_append.mp hc' with h | h
  · exact ha c h
  · exact hb c h
theorem sok_slice {z:Str} (h:PyData.strOk z = true) (l u:Option Int):PyData.strOk (Txt.slice z l u) = true:=by
  unfold Txt.slice
  split
  · exact h
  · rw [sok_iff] at *
    intro c hc
    have hc':c ∈ (Builtin.Str.strSliceIndices l u 1 z.length).filterMap (z.cps[·]?):=by simpa using hc
    obtain ⟨i,_,e⟩:=List.mem_filterMap.mp hc'
    exact h c (by simpa using Array.mem_of_getElem? e)
theorem sok_rep {x:Str} (h:PyData.strOk x = true):∀ (n:Nat) (acc:Array Nat),(∀ c ∈ acc.toList,c < 0x110000) → ∀ c ∈ ((List.replicate n x.cps).foldl (· ++ ·) acc).toList,c < 0x110000
  | 0,acc,ha => ha
  | n + 1,acc,ha => by
    rw [List.replicate_succ,List.foldl_cons]
    refine sok_rep h n _ fun c hc => ?_
    rw [Array.toList_append] at hc
    rcases List.mem_append.mp hc with q | q
    · exact ha c q
    · exact (sok_iff x).mp h c q
theorem sok_mul {x:Str} (h:PyData.strOk x = true) (n:Int):PyData.strOk (Txt.mul x n) = true:=by
  unfold Txt.mul
  split
  · decide +kernel
  · split
    · exact h
    · rw [sok_iff]
      exact sok_rep h _ _ (fun c hc => by simp at hc)
theorem sok_at {z:Str} {i:Int} {g:Nat} (h:PyData.strOk z = true) (hm:atI z.cps.toList i = some g):PyData.strOk ⟨#[g]⟩ = true:=by
  rw [sok_iff] at *
  intro c hc
  have:c = g:=by simpa using hc
  subst this
  unfold atI at hm
  obtain ⟨j,_,e⟩:=Option.bind_eq_some_iff.mp hm
  exact h c (List.mem_of_getElem? e)
noncomputable def Kd.sok:Kd → Bool
  | .num _ => true
  | .name q t => PyData.strOk q && PyData.strOk t
  | .pair a b => Kd.sok a && Kd.sok b
noncomputable def noWords:List Str:=["num","pair","lit","as","if","let","two","first","second"]
theorem noFlat:(noWords.map V.str).all flatV = true:=by decide +kernel
theorem len_app (a b:Str):(a ++ b).length = a.length + b.length:=by
  show Array.size (a.cps ++ b.cps) = _
  rw [Array.size_append] <;> rfl
noncomputable abbrev strE (q:Str × Nat × Pos):Expr:=.Constant (.str q.1) q.2.1 q.2.2
theorem pa_strs {X:Cx}:∀ (l:List (Str × Nat × Pos)),PA X (l.map strE) (fun _ H Q => Q ((l.map (·.1)).map V.str) H)
  | [] => pa_nil
  | q :: l => pa_cons (pe_str (x:=q.1)) (pa_strs l)
section
variable {P:Program} {w:World} {K:PySem.W.Frag} {mg:Str → Option Value} {base:Heap}
theorem scCell:FnScope ["_law_script","_law_k","_law_number"] ["_law_script","_law_k"] (defScope sCell):=⟨rfl,rfl,rfl,by decide +kernel,rfl,by decide +kernel,by decide +kernel⟩
theorem ok_cell {f:Addr} {fd:FuncData} (F:Fun K "_law_cell" "_law_cell" sCell f fd) (ml:mg "len" = none):FnOk P w K mg base CX0 1 f fd ["_law_script","_law_k"] (spCell K):=by
  refine F.ok scCell (fun vs H Q E h => ?_) (fun cdv A outer s H vs Q E hr h => ?_)
  · obtain ⟨a,ns,k,rfl,_⟩:=h
    rfl
  obtain ⟨a,ns,k,rfl,hS,h63,h0,h1,q⟩:=h
  refine ⟨_,pss_cons (ps_if (pt_cmpR op_lt (pv 1) (pe_callB call_len_seq rfl ml PySem.boot_len (pa_cons (pv 0) pa_nil)) (nomark _))
      (pss_one (ps_ret (pe_ix ix_list (pv 0) (pv 1) (fun _ _ => rfl)))) pss_nil)
    (pss_cons (ps_set (i:=2) scCell.nd rfl (Or.inl rfl) (pe_op op_add (pe_op op_mul (pv 1) pe_int) pe_int))
    (pss_cons (ps_if (pt_cmpR op_gt (pe_callB call_len_seq rfl ml PySem.boot_len (pa_cons (pv 0) pa_nil)) pe_int (nomark _))
      (pss_one (ps_set (i:=2) scCell.nd rfl (Or.inl rfl) (pe_op op_mod (pe_op op_add (pe_op op_mul (pe_ix ix_list (pv 0) (pe_op op_mod (pe_op op_mul (pv 1) pe_int) (pe_callB call_len_seq rfl ml PySem.boot_len (pa_cons (pv 0) pa_nil))) (fun _ _ => rfl)) pe_int) (pe_op op_mul (pv 1) pe_int)) pe_int))) pss_nil)
    (pss_one (ps_ret (pe_op op_mod (pe_op op_mul (pv 2) (pv 2)) pe_int))))),?_⟩
  have hl:(ns.map V.int).length = ns.length:=List.length_map _
  refine ⟨_,rfl,_,rfl,a,_,rfl,.inl hS,_,_,rfl,rfl,_,rfl,?_⟩
  refine ite2 (fun c => ?_) (fun c => ?_)
  · have c':k < (((ns.map V.int).length:Nat):Int):=of_decide_eq_true c
    rw [hl] at c'
    obtain ⟨v,hv⟩:=at_int (ns:=ns) h0 c'
    exact ⟨_,rfl,_,rfl,a,_,_,_,rfl,rfl,hS,hv,q _⟩
  · refine ⟨_,rfl,_,_,rfl,rfl,.inr ⟨by omega,by omega⟩,_,_,rfl,rfl,?_⟩
    refine ⟨_,rfl,a,_,rfl,.inl hS,_,_,rfl,rfl,_,rfl,?_⟩
    refine ite2 (fun d => ?_) (fun d => ?_)
    · have d':0 < (((ns.map V.int).length:Nat):Int):=of_decide_eq_true d
      rw [hl] at d'
      obtain ⟨v,hv⟩:=at_int (ns:=ns) (i:=k * 7 % (((ns.map V.int).length:Nat):Int)) (by rw [hl]; exact Int.emod_nonneg _ (by omega)) (by rw [hl]; exact Int.emod_lt_of_pos _ d')
      refine ⟨_,rfl,_,rfl,_,_,rfl,rfl,.inr ⟨by omega,by omega⟩,_,rfl,a,_,rfl,.inl hS,_,_,rfl,rfl,(by rw [hl]; exact d'),a,_,_,_,rfl,rfl,hS,hv,?_⟩
      refine ⟨_,_,rfl,rfl,.inr ⟨by omega,by omega⟩,_,rfl,_,_,rfl,rfl,.inr ⟨by omega,by omega⟩,_,_,rfl,rfl,_,_,rfl,rfl,(by show (0:Int) < 2147483647; decide),?_⟩
      have g0:=Int.emod_nonneg (v * 48271 + k * 7919) (show (2147483647:Int) ≠ 0 by decide)
      have g1:=Int.emod_lt_of_pos (v * 48271 + k * 7919) (show (0:Int) < 2147483647 by decide)
      refine ⟨_,rfl,_,rfl,_,_,rfl,rfl,?_,_,_,rfl,rfl,(by show (0:Int) < 2147483629; decide),q _⟩
      exact Or.inl ⟨Int.lt_of_lt_of_le (by decide) g0,Int.lt_trans g1 (by decide)⟩
    · exact ⟨_,rfl,_,rfl,_,_,rfl,rfl,.inl ⟨by omega,by omega⟩,_,_,rfl,rfl,(by show (0:Int) < 2147483629; decide),q _⟩
theorem scWord:FnScope ["_law_cell_here","_law_letters","_law_size","_law_left","_law_word_here","_law_at"] ["_law_cell_here"] (defScope sWord):=⟨rfl,rfl,rfl,by decide +kernel,rfl,by decide +kernel,by decide +kernel⟩
theorem same_trans {H H1 H2:Hp} (a:Same H H1) (b:Same H1 H2):Same H H2:=fun x o e => b x o (a x o e)
end
end K29
namespace K29
open PySem L2 Kk
theorem kd_keep {K:PySem.W.Frag} {H H':Hp} (e:∀ a xs,SqT K H a xs → SqT K H' a xs):∀ {x:V} {k:Kd},KdAt K H x k → KdAt K H' x k
  | _,_,.num h => .num (e _ _ h)
  | _,_,.name h => .name (e _ _ h)
  | _,_,.pair h a b => .pair (e _ _ h) (kd_keep e a) (kd_keep e b)
theorem kds_keep {K:PySem.W.Frag} {H H':Hp} (e:∀ a xs,SqT K H a xs → SqT K H' a xs):∀ {xs:List V} {ks:List Kd},KdsAt K H xs ks → KdsAt K H' xs ks
  | _,_,.nil => .nil
  | _,_,.cons a b => .cons (kd_keep e a) (kds_keep e b)
theorem sql_same {K:PySem.W.Frag} {H H':Hp} {a:Addr} {xs:List V} (e:Same H H') (h:SqL K H a xs):SqL K H' a xs:=by
  rcases h with (h | ⟨o,h⟩) | h
  · exact .inl (.inl (e _ _ h))
  · exact .inl (.inr ⟨o,e _ _ h⟩)
  · exact .inr h
end K29
namespace K29
open PySem L2 Kk
noncomputable def flat (ks:List Kd):List Kd:=(ks.map Kd.leaves).flatten
end K29
namespace K29
open PySem L2 Kk
theorem bootTuple:bootBuiltins "tuple" = some (.type "tuple"):=by decide +kernel
end K29
namespace K29
open PySem L2 Kk
noncomputable def Kd.put (G:Str × Str → Option Kd):Kd → Kd
  | .num n => .num n
  | .name q t => (G (q,t)).getD (.name q t)
  | .pair a b => .pair (Kd.put G a) (Kd.put G b)
noncomputable def Kd.depth:Kd → Nat
  | .num _ => 1
  | .name _ _ => 1
  | .pair a b => 1 + max (Kd.depth a) (Kd.depth b)
theorem depth_pos (k:Kd):1 ≤ Kd.depth k:=by
  cases k with
  | num _ => exact Nat.le_refl _
  | name _ _ => exact Nat.le_refl _
  | pair a b => exact Nat.le_add_right _ _
noncomputable def GvAt (K:PySem.W.Frag) (H:Hp) (kvs:List (List Key × V)) (G:Str × Str → Option Kd):Prop :=
  ∀ n,(valV kvs (keyN n) = none ∧ G n = none) ∨ ∃ v k,valV kvs (keyN n) = some v ∧ G n = some k ∧ KdAt K H v k
theorem GvAt.same {K:PySem.W.Frag} {H H':Hp} {kvs:List (List Key × V)} {G:Str × Str → Option Kd} (e:Same H H') (h:GvAt K H kvs G):GvAt K H' kvs G:=fun n => by
  rcases h n with h | ⟨v,k,h1,h2,h3⟩
  · exact .inl h
  · exact .inr ⟨v,k,h1,h2,h3.same e⟩
noncomputable def spPut (K:PySem.W.Frag) (n:Nat):Sp:=fun vs H Q _ => ∃ (x:V) (g:Addr) (k:Kd) (kvs:List (List Key × V)) (G:Str × Str → Option Kd),vs = [x,.ref g] ∧ KdAt K H x k ∧ Kd.depth k ≤ n ∧ H g = some (.dT kvs) ∧ GvAt K H kvs G ∧
  ∀ H' v,Same H H' → KdAt K H' v (Kd.put G k) → Q v H'
section
variable {P:Program} {w:World} {K:PySem.W.Frag} {mg:Str → Option Value} {base:Heap}
theorem scPut:FnScope ["kind","given"] ["kind","given"] (defScope sPut):=⟨rfl,rfl,rfl,by decide +kernel,rfl,by decide +kernel,by decide +kernel⟩
theorem ok_put {f:Addr} {fd:FuncData} (F:Fun K "put" "put" sPut f fd) (bP:Binds K fd ["kind","given"] []) (kP:PySem.W.keepIn K (.ref f) = true) (mP:mg "put" = some (.ref f)) :
    ∀ n,FnOk P w K mg base CX0 n f fd ["kind","given"] (spPut K n)
  | 0 => ⟨fun vs H Q E h => by obtain ⟨x,g,k,kvs,G,rfl,_⟩:=h; rfl,fun A outer s H args us vs Q E _ _ _ _ h => by
      obtain ⟨x,g,k,kvs,G,_,_,hd,_⟩:=h
      have:=depth_pos k
      omega⟩
  | n + 1 => by
    have IH:=ok_put F bP kP mP n
    refine F.ok scPut (fun vs H Q E h => ?_) (fun cdv A outer s H vs Q E hr h => ?_)
    · obtain ⟨x,g,k,kvs,G,rfl,_⟩:=h
      rfl
    obtain ⟨x,g,k,kvs,G,rfl,hk,hd,hg,hG,q⟩:=h
    have hu:=hu_of hr
    refine ⟨_,pss_cons (ps_if (pt_cmpR op_eq (pe_ix ix_tup (pv 0) pe_int (fun _ _ => rfl)) pe_str (nomark _))
        (pss_one (ps_ret (pe_tup (pa_cons pe_str (pa_cons (pe_call IH hr rfl mP kP bP .nil pass0 (pa_cons (pe_ix ix_tup (pv 0) pe_int (fun _ _ => rfl)) (pa_cons (pv 1) pa_nil)))
          (pa_cons (pe_call IH hr rfl mP kP bP .nil pass0 (pa_cons (pe_ix ix_tup (pv 0) pe_int (fun _ _ => rfl)) (pa_cons (pv 1) pa_nil))) pa_nil)))))) pss_nil)
      (pss_cons (ps_if (pt_cmpR op_eq (pe_ix ix_tup (pv 0) pe_int (fun _ _ => rfl)) pe_str (nomark _))
        (pss_one (ps_ret (pe_dget2 hu (pv 1) (pe_tup (pa_cons (pe_ix ix_tup (pv 0) pe_int (fun _ _ => rfl)) (pa_cons (pe_ix ix_tup (pv 0) pe_int (fun _ _ => rfl)) pa_nil))) (pv 0) ⟨rfl,rfl,rfl,rfl⟩))) pss_nil)
      (pss_one (ps_ret (pv 0)))),?_⟩
    cases hk with
    | @num p m t =>
      refine ⟨_,rfl,_,_,_,_,rfl,rfl,t,(show atI [V.str "num",.int m] 0 = some (.str "num") from rfl),rfl,_,rfl,ite2 (fun c => absurd c (by decide +kernel)) (fun _ => ?_)⟩
      refine ⟨_,rfl,_,_,_,_,rfl,rfl,t,(show atI [V.str "num",.int m] 0 = some (.str "num") from rfl),rfl,_,rfl,ite2 (fun c => absurd c (by decide +kernel)) (fun _ => ?_)⟩
      exact ⟨_,rfl,q _ _ (Same.refl _) (.num t)⟩
    | @name p a b t =>
      refine ⟨_,rfl,_,_,_,_,rfl,rfl,t,(show atI [V.str "name",.str a,.str b] 0 = some (.str "name") from rfl),rfl,_,rfl,ite2 (fun c => absurd c (by decide +kernel)) (fun _ => ?_)⟩
      refine ⟨_,rfl,_,_,_,_,rfl,rfl,t,(show atI [V.str "name",.str a,.str b] 0 = some (.str "name") from rfl),rfl,_,rfl,ite2 (fun _ => ?_) (fun c => absurd (by decide +kernel) c)⟩
      refine ⟨_,rfl,g,rfl,.inr ⟨kvs,.inl hg⟩,_,rfl,_,_,_,_,rfl,rfl,t,(show atI [V.str "name",.str a,.str b] 1 = some (.str a) from rfl),_,rfl,_,_,_,_,rfl,rfl,t,(show atI [V.str "name",.str a,.str b] 2 = some (.str b) from rfl),(by show 2 ≤ sizeLine; decide),fun y hy => ?_⟩
      have sy:=same_new hy (.tup [.str a,.str b])
      refine ⟨_,rfl,_,DGet.t (k:=keyN (a,b)) (sy _ _ hg) upd_same,q _ _ sy ?_⟩
      show KdAt K _ ((valV kvs (keyN (a,b))).getD _) ((G (a,b)).getD (.name a b))
      rcases hG (a,b) with ⟨h1,h2⟩ | ⟨v,k',h1,h2,h3⟩
      · rw [h1,h2]
        exact .name (sy.tup t)
      · rw [h1,h2]
        exact h3.same sy
    | @pair p y z a b t ha hb =>
      have hd':1 + max (Kd.depth a) (Kd.depth b) ≤ n + 1:=hd
      refine ⟨_,rfl,_,_,_,_,rfl,rfl,t,(show atI [V.str "pair",y,z] 0 = some (.str "pair") from rfl),rfl,_,rfl,ite2 (fun _ => ?_) (fun c => absurd (by decide +kernel) c)⟩
      refine ⟨_,rfl,_,_,_,_,rfl,rfl,t,(show atI [V.str "pair",y,z] 1 = some y from rfl),_,rfl,y,g,a,kvs,G,rfl,ha,by omega,hg,hG,fun H1 v1 s1 k1 => ?_⟩
      refine ⟨_,rfl,_,_,_,_,rfl,rfl,s1.tup t,(show atI [V.str "pair",y,z] 2 = some z from rfl),_,rfl,z,g,b,kvs,G,rfl,hb.same s1,by omega,s1 _ _ hg,hG.same s1,fun H2 v2 s2 k2 => ?_⟩
      refine ⟨(by show 3 ≤ sizeLine; decide),fun c hc => q _ _ (same_trans (same_trans s1 s2) (same_new hc _)) ?_⟩
      exact .pair (SqT.of upd_same) ((k1.same s2).same (same_new hc _)) (k2.same (same_new hc _))
theorem log_small {i:Int} (h0:0 ≤ i) (h1:i ≤ 1000000):i.natAbs.log2 < 1920:=by
  by_cases hz:i.natAbs = 0
  · rw [hz]; decide
  · refine (Nat.log2_lt hz).mpr (Nat.lt_of_le_of_lt (m:=1000000) (by omega) ?_)
    exact Nat.lt_of_lt_of_le (show 1000000 < 2 ^ 20 by decide) (Nat.pow_le_pow_right (by decide) (by decide))
theorem txt_small {i:Int} (h0:0 ≤ i) (h1:i ≤ 1000000):(Str.ofString (toString i)).length ≤ 100000:=by
  have:=PyProof.Rows.toString_length_le h0 (k:=7) (by decide) (Int.lt_of_le_of_lt h1 (by decide))
  omega
end
end K29
namespace K29
open PySem L2 Kk Builtin.Str
theorem idx_to {n j:Nat} (h:j ≤ n):strSliceIndices none (some (j:Int)) 1 n = List.range j:=by
  have e:=StrLaws.strSliceIndices_plain (a:=0) (b:=j) (len:=n) (Nat.zero_le _) h
  have e2:strSliceIndices none (some (j:Int)) 1 n = strSliceIndices (some ((0:Nat):Int)) (some (j:Int)) 1 n:=by
    unfold strSliceIndices
    simp
    congr 1
    try omega
  rw [e2,e]
  simp
theorem idx_from {n j:Nat} (h:j ≤ n):strSliceIndices (some (j:Int)) none 1 n = (List.range (n - j)).map (j + ·):=by
  have e:=StrLaws.strSliceIndices_plain (a:=j) (b:=n) (len:=n) h (Nat.le_refl _)
  have e2:strSliceIndices (some (j:Int)) none 1 n = strSliceIndices (some (j:Int)) (some (n:Int)) 1 n:=by
    unfold strSliceIndices
    simp
    congr 1
    split <;> omega
  rw [e2,e]
theorem fm_len {α β:Type} {f:α → Option β}:∀ {l:List α},(∀ a ∈ l,(f a).isSome = true) → (l.filterMap f).length = l.length
  | [],_ => rfl
  | a :: l,h => by
    have h1:=h a List.mem_cons_self
    obtain ⟨b,hb⟩:=Option.isSome_iff_exists.mp h1
    rw [List.filterMap_cons_some hb,List.length_cons,List.length_cons,fm_len fun c hc => h c (List.mem_cons_of_mem _ hc)]
theorem slice_len {z:Str} {l u:Option Int} (h:∀ i ∈ strSliceIndices l u 1 z.length,i < z.length):(Txt.slice z l u).length = (strSliceIndices l u 1 z.length).length:=by
  unfold Txt.slice
  split
  · rename_i c
    simp at c
    exact c.symm
  · show Array.size (List.toArray _) = _
    rw [List.size_toArray]
    refine fm_len fun i hi => ?_
    have:=h i hi
    rw [Array.getElem?_eq_getElem (show i < z.cps.size from this)] <;> rfl
theorem slice_to {z:Str} {j:Int} (h0:0 ≤ j) (h1:j ≤ z.length):(Txt.slice z none (some j)).length = j.toNat:=by
  obtain ⟨n,rfl⟩:∃ n:Nat,j = n:=⟨j.toNat,by omega⟩
  have hn:n ≤ z.length:=by omega
  rw [slice_len (by rw [idx_to hn]; intro i hi; have:=List.mem_range.mp hi; omega),idx_to hn,List.length_range]
  simp
theorem slice_from {z:Str} {j:Int} (h0:0 ≤ j) (h1:j ≤ z.length):(Txt.slice z (some j) none).length = z.length - j.toNat:=by
  obtain ⟨n,rfl⟩:∃ n:Nat,j = n:=⟨j.toNat,by omega⟩
  have hn:n ≤ z.length:=by omega
  rw [slice_len (by rw [idx_from hn]; intro i hi; obtain ⟨k,hk,rfl⟩:=List.mem_map.mp hi; have:=List.mem_range.mp hk; omega),idx_from hn,List.length_map,List.length_range]
  simp
end K29
namespace K29
open PySem L2 Kk
noncomputable def chF (i:Int):Nat:=(atI (Str.ofString "abcdefghijklmnopqrstuvwxyz").cps.toList i).getD 97
noncomputable def wordRaw (c:Int):Str:=Txt.slice (Txt.mul ⟨#[chF (c / 12 % 1000000007 % 26)]⟩ (1 + c % 12)) none (some (c / 12 % 1000000007 / 26 % (1 + c % 12))) ++ ⟨#[chF (c / 12 % 1000000007 / 312 % 26)]⟩ ++
  Txt.slice (Txt.mul ⟨#[chF (c / 12 % 1000000007 % 26)]⟩ (1 + c % 12)) (some (c / 12 % 1000000007 / 26 % (1 + c % 12) + 1)) none
noncomputable def wordF (c:Int):Str:=if inV (V.str (wordRaw c)) (noWords.map V.str) = true then wordRaw c ++ "x" else wordRaw c
theorem chF_ok (i:Int):PyData.strOk ⟨#[chF i]⟩ = true:=by
  unfold chF
  cases h:atI (Str.ofString "abcdefghijklmnopqrstuvwxyz").cps.toList i with
  | none => decide +kernel
  | some g => exact sok_at (by decide +kernel) h
theorem raw_ok (c:Int):PyData.strOk (wordRaw c) = true:=sok_app (sok_app (sok_slice (sok_mul (chF_ok _) _) _ _) (chF_ok _)) (sok_slice (sok_mul (chF_ok _) _) _ _)
theorem mul_len (g:Nat) (c:Int):((Txt.mul ⟨#[g]⟩ (1 + c % 12)).length:Int) = 1 + c % 12:=by
  have b0:=Int.emod_nonneg c (show (12:Int) ≠ 0 by decide)
  have e:=PyProof.Rows.len_mul ⟨#[g]⟩ (1 + c % 12)
  rw [if_neg (by rw [decide_eq_true_iff]; omega)] at e
  have e1:((Str.length ⟨#[g]⟩:Nat):Int) = 1:=rfl
  rw [e1] at e
  omega
theorem raw_eq (c:Int):((wordRaw c).length:Int) = 1 + c % 12:=by
  have b0:=Int.emod_nonneg c (show (12:Int) ≠ 0 by decide)
  have m:=mul_len (chF (c / 12 % 1000000007 % 26)) c
  have a0:=Int.emod_nonneg (c / 12 % 1000000007 / 26) (show (1 + c % 12:Int) ≠ 0 by omega)
  have a1:=Int.emod_lt_of_pos (c / 12 % 1000000007 / 26) (show (0:Int) < 1 + c % 12 by omega)
  unfold wordRaw
  rw [len_app,len_app,slice_to a0 (by omega),slice_from (by omega) (by omega)]
  have o1:Str.length ⟨#[chF (c / 12 % 1000000007 / 312 % 26)]⟩ = 1:=rfl
  rw [o1]
  omega
theorem raw_len (c:Int):(wordRaw c).length ≤ 12:=by
  have:=raw_eq c
  have:=Int.emod_lt_of_pos c (show (0:Int) < 12 by decide)
  omega
theorem word_ok (c:Int):PyData.strOk (wordF c) = true:=by
  unfold wordF
  split
  · exact sok_app (raw_ok c) (by decide +kernel)
  · exact raw_ok c
theorem word_len (c:Int):1 ≤ (wordF c).length ∧ (wordF c).length ≤ 13:=by
  have h1:=raw_len c
  have h2:=raw_eq c
  have h3:=Int.emod_nonneg c (show (12:Int) ≠ 0 by decide)
  have hx:(Str.ofString "x").length = 1:=by decide +kernel
  unfold wordF
  split
  · rw [len_app]
    omega
  · omega
theorem inV_str {z:Str} {ws:List Str}:inV (V.str z) (ws.map V.str) = true ↔ z ∈ ws:=by
  unfold inV
  rw [List.any_eq_true]
  constructor
  · rintro ⟨y,hy,e⟩
    obtain ⟨u,hu,rfl⟩:=List.mem_map.mp hy
    have e':(u == z) = true:=e
    rw [← eq_of_beq e']
    exact hu
  · intro h
    exact ⟨V.str z,List.mem_map.mpr ⟨z,h,rfl⟩,(show (z == z) = true from beq_self_eq_true z)⟩
noncomputable def spWordF:Sp:=fun vs H Q _ => ∃ c:Int,vs = [.int c] ∧ ∀ H',Same H H' → Q (.str (wordF c)) H'
section
variable {P:Program} {w:World} {K:PySem.W.Frag} {mg:Str → Option Value} {base:Heap}
theorem ok_wordF {f:Addr} {fd:FuncData} (F:Fun K "_law_word" "_law_word" sWord f fd):FnOk P w K mg base CX0 1 f fd ["_law_cell_here"] spWordF:=by
  refine F.ok scWord (fun vs H Q E h => ?_) (fun cdv A outer s H vs Q E hr h => ?_)
  · obtain ⟨c,rfl,_⟩:=h
    rfl
  obtain ⟨c,rfl,q⟩:=h
  obtain ⟨u6,d6,k6⟩:∃ t,PSs (cxOf CX0 P w K mg base ["_law_cell_here","_law_letters","_law_size","_law_left","_law_word_here","_law_at"] "_law_word" (defScope sWord) f cdv A outer s H E).nox (List.drop 6 (defBody sWord)) t ∧
      ∀ (x1 x2 x3 x5:Option V),t { nx:=fun _ H' => Q .non H',rt:=Q } [some (.int c),x1,x2,x3,some (.str (wordRaw c)),x5] H:=by
    refine ⟨_,pss_cons (ps_if (pt_cmpR op_in_seq (pv 4) (pe_lst (pa_strs [(_,_,_),(_,_,_),(_,_,_),(_,_,_),(_,_,_),(_,_,_),(_,_,_),(_,_,_),(_,_,_)]):PE _ _ _) (by with_unfolding_all rfl)) (pss_one (ps_ret (pe_op op_add_str (pv 4) pe_str))) pss_nil) (pss_one (ps_ret (pv 4))),fun x1 x2 x3 x5 => ?_⟩
    refine ⟨_,rfl,(by show 9 ≤ sizeLine; decide),fun l hl => ⟨l,_,rfl,.inl (SqL.of upd_same),rfl,noFlat,_,rfl,?_⟩⟩
    have sm:=same_new hl (.lst (noWords.map V.str))
    have hz:=raw_len c
    refine ite2 (fun c1 => ?_) (fun c1 => ?_)
    · have hx:(Str.ofString "x").length = 1:=by decide +kernel
      have c1':inV (V.str (wordRaw c)) (noWords.map V.str) = true:=c1
      have e:wordF c = wordRaw c ++ "x":=if_pos c1'
      refine ⟨_,rfl,_,_,rfl,rfl,small (by omega),?_⟩
      rw [← e]
      exact q _ sm
    · have c1':¬ inV (V.str (wordRaw c)) (noWords.map V.str) = true:=c1
      have e:wordF c = wordRaw c:=if_neg c1'
      refine ⟨_,rfl,?_⟩
      rw [← e]
      exact q _ sm
  refine ⟨_,pss_cons (ps_set (i:=1) scWord.nd rfl (Or.inl rfl) pe_str)
    (pss_cons (ps_set (i:=2) scWord.nd rfl (Or.inl rfl) (pe_op op_add pe_int (pe_op op_mod (pv 0) pe_int)))
    (pss_cons (ps_set (i:=3) scWord.nd rfl (Or.inl rfl) (pe_op op_mod (pe_op op_fdiv (pv 0) pe_int) pe_int))
    (pss_cons (ps_set (i:=4) scWord.nd rfl (Or.inl rfl) (pe_op op_mulS (pe_ix ix_str (pv 1) (pe_op op_mod (pv 3) pe_int) (fun _ _ => rfl)) (pv 2)))
    (pss_cons (ps_set (i:=5) scWord.nd rfl (Or.inl rfl) (pe_op op_mod (pe_op op_fdiv (pv 3) pe_int) (pv 2)))
    (pss_cons (ps_set (i:=4) scWord.nd rfl (Or.inl rfl) (pe_op op_add_str (pe_op op_add_str (pe_slice sl_str (pv 4) po_none (po_some (pv 5))) (pe_ix ix_str (pv 1) (pe_op op_mod (pe_op op_fdiv (pv 3) pe_int) pe_int) (fun _ _ => rfl)))
      (pe_slice sl_str (pv 4) (po_some (pe_op op_add (pv 5) pe_int)) po_none))) d6))))),?_⟩
  have l26:(Str.ofString "abcdefghijklmnopqrstuvwxyz").length ≤ sizeLine:=by decide +kernel
  have h26:((Str.ofString "abcdefghijklmnopqrstuvwxyz").cps.toList.length:Int) = 26:=by decide +kernel
  refine ⟨_,rfl,_,_,rfl,rfl,(by show (0:Int) < 12; decide),_,_,rfl,rfl,?_⟩
  refine ⟨_,rfl,_,_,rfl,rfl,⟨by decide,by decide⟩,_,_,rfl,rfl,(by show (0:Int) < 1000000007; decide),?_⟩
  have b0:=Int.emod_nonneg c (show (12:Int) ≠ 0 by decide)
  have b1:=Int.emod_lt_of_pos c (show (0:Int) < 12 by decide)
  obtain ⟨g,hg⟩:=at_ex (xs:=(Str.ofString "abcdefghijklmnopqrstuvwxyz").cps.toList) (i:=c / 12 % 1000000007 % 26) (Int.emod_nonneg _ (by decide)) (by rw [h26]; exact Int.emod_lt_of_pos _ (by decide))
  obtain ⟨g2,hg2⟩:=at_ex (xs:=(Str.ofString "abcdefghijklmnopqrstuvwxyz").cps.toList) (i:=c / 12 % 1000000007 / 312 % 26) (Int.emod_nonneg _ (by decide)) (by rw [h26]; exact Int.emod_lt_of_pos _ (by decide))
  have oL:PyData.strOk (Str.ofString "abcdefghijklmnopqrstuvwxyz") = true:=by decide +kernel
  have og:=sok_at oL hg
  have og2:=sok_at oL hg2
  have hm:(Txt.mul ⟨#[g]⟩ (1 + c % 12)).length ≤ 12:=by
    have e:=PyProof.Rows.len_mul ⟨#[g]⟩ (1 + c % 12)
    rw [if_neg (by rw [decide_eq_true_iff]; omega)] at e
    have e1:((Str.length ⟨#[g]⟩:Nat):Int) = 1:=rfl
    rw [e1] at e
    omega
  refine ⟨_,rfl,_,rfl,_,_,rfl,rfl,(by show (0:Int) < 26; decide),_,_,_,rfl,rfl,l26,hg,_,rfl,_,_,rfl,rfl,mulOk_small (by omega) (by omega) (by show 1 ≤ 1000; decide),?_⟩
  refine ⟨_,rfl,_,_,rfl,rfl,⟨by decide,by decide⟩,_,rfl,_,_,rfl,rfl,(by show (0:Int) < 1 + c % 12; omega),?_⟩
  have s1:=Txt.slice_le (Txt.mul ⟨#[g]⟩ (1 + c % 12)) none (some (c / 12 % 1000000007 / 26 % (1 + c % 12)))
  have s2:=Txt.slice_le (Txt.mul ⟨#[g]⟩ (1 + c % 12)) (some (c / 12 % 1000000007 / 26 % (1 + c % 12) + 1)) none
  have o1:Str.length ⟨#[g2]⟩ = 1:=rfl
  refine ⟨_,rfl,_,rfl,_,rfl,_,rfl,small (by omega),_,rfl,_,rfl,_,_,rfl,rfl,⟨by decide,by decide⟩,_,_,rfl,rfl,(by show (0:Int) < 26; decide),_,_,_,rfl,rfl,l26,hg2,_,_,rfl,rfl,small (by omega),?_⟩
  refine ⟨_,rfl,_,rfl,_,_,rfl,rfl,_,rfl,_,rfl,small (by omega),_,_,rfl,rfl,small (by rw [len_app]; omega),?_⟩
  have eg:chF (c / 12 % 1000000007 % 26) = g:=by unfold chF; rw [hg]; rfl
  have eg2:chF (c / 12 % 1000000007 / 312 % 26) = g2:=by unfold chF; rw [hg2]; rfl
  have ez:wordRaw c = Txt.slice (Txt.mul ⟨#[g]⟩ (1 + c % 12)) none (some (c / 12 % 1000000007 / 26 % (1 + c % 12))) ++ ⟨#[g2]⟩ ++ Txt.slice (Txt.mul ⟨#[g]⟩ (1 + c % 12)) (some (c / 12 % 1000000007 / 26 % (1 + c % 12) + 1)) none:=by
    unfold wordRaw
    rw [eg,eg2]
  rw [← ez]
  exact k6 _ _ _ _
end
end K29
namespace K29
open PySem L2 Kk
noncomputable def okW (z:Str):Prop:=PyData.strOk z = true ∧ z.length ≤ 9000
noncomputable abbrev sInit:Stmt:=inClass (top 14) 0
theorem kf':¬ (("kinds":Str) = "funs"):=by decide +kernel
noncomputable def Kd.ok:Kd → Prop
  | .num _ => True
  | .name q t => okW q ∧ okW t
  | .pair a b => Kd.ok a ∧ Kd.ok b
section
variable {P:Program} {w:World} {K:PySem.W.Frag} {mg:Str → Option Value} {base:Heap}
theorem bootDict:bootBuiltins "dict" = some (.type "dict"):=by decide +kernel
theorem scInit:FnScope ["self","kinds","funs"] ["self","kinds","funs"] (defScope sInit):=⟨rfl,rfl,rfl,by decide +kernel,rfl,by decide +kernel,by decide +kernel⟩
end
end K29
namespace K29
open PySem L2 Kk
noncomputable def wordG (a q:Int):Str :=
  if inV (V.str (Txt.slice (Txt.mul ⟨#[chF (q % 26)]⟩ (1 + a)) none (some (q / 26 % (1 + a))) ++ ⟨#[chF (q / 312 % 26)]⟩ ++ Txt.slice (Txt.mul ⟨#[chF (q % 26)]⟩ (1 + a)) (some (q / 26 % (1 + a) + 1)) none)) (noWords.map V.str) = true
  then (Txt.slice (Txt.mul ⟨#[chF (q % 26)]⟩ (1 + a)) none (some (q / 26 % (1 + a))) ++ ⟨#[chF (q / 312 % 26)]⟩ ++ Txt.slice (Txt.mul ⟨#[chF (q % 26)]⟩ (1 + a)) (some (q / 26 % (1 + a) + 1)) none) ++ "x"
  else Txt.slice (Txt.mul ⟨#[chF (q % 26)]⟩ (1 + a)) none (some (q / 26 % (1 + a))) ++ ⟨#[chF (q / 312 % 26)]⟩ ++ Txt.slice (Txt.mul ⟨#[chF (q % 26)]⟩ (1 + a)) (some (q / 26 % (1 + a) + 1)) none
theorem wordF_G (c:Int):wordF c = wordG (c % 12) (c / 12 % 1000000007):=rfl
theorem nodupG:((List.range 26).map fun (q:Nat) => wordG 11 (q:Int)).Nodup:=by decide +kernel
theorem out_of {α:Type} [DecidableEq α]:∀ (ws l:List α),l.Nodup → ws.length < l.length → ∃ x ∈ l,x ∉ ws
  | [],[],_,h => absurd h (by simp)
  | [],x :: _,_,_ => ⟨x,.head _,fun h => nomatch h⟩
  | w :: ws,l,hn,hl => by
    have h1:ws.length < (l.erase w).length:=by
      have:=List.length_erase (a:=w) (l:=l)
      simp only [List.length_cons] at hl
      split at this <;> omega
    obtain ⟨x,hx,hw⟩:=out_of ws (l.erase w) (hn.erase w) h1
    have hx2:=(hn.mem_erase_iff.mp hx)
    exact ⟨x,hx2.2,fun z => (List.mem_cons.mp z).elim hx2.1 hw⟩
theorem fresh_word (ws:List Str) (hl:ws.length ≤ 25) (c:Int):∃ J:Nat,wordF (c + (J:Int)) ∉ ws:=by
  obtain ⟨x,hx,hn⟩:=out_of ws _ nodupG (by rw [List.length_map,List.length_range]; omega)
  obtain ⟨q,hq,rfl⟩:=List.mem_map.mp hx
  have hq':=List.mem_range.mp hq
  have e1:∃ J:Nat,c + (J:Int) = 12 * (1000000007 * (c.natAbs:Int) + (q:Int)) + 11:=⟨(12 * (1000000007 * (c.natAbs:Int) + (q:Int)) + 11 - c).toNat,by omega⟩
  obtain ⟨J,e⟩:=e1
  refine ⟨J,?_⟩
  rw [wordF_G,e]
  have e2:(12 * (1000000007 * (c.natAbs:Int) + (q:Int)) + 11) % 12 = 11:=by omega
  have e3:(12 * (1000000007 * (c.natAbs:Int) + (q:Int)) + 11) / 12 % 1000000007 = (q:Int):=by omega
  rw [e2,e3]
  exact hn
noncomputable def smW (z:Str):Prop:=PyData.strOk z = true ∧ z.length ≤ 14
theorem smW_word (c:Int):smW (wordF c):=⟨word_ok c,by have:=(word_len c).2; omega⟩
noncomputable def spWordsL (K:PySem.W.Frag):Sp:=fun vs H Q _ => ∃ (a:Addr) (ns:List Int) (st:Int) (m:Int),vs = [.ref a,.int st,.int m] ∧ SqL K H a (ns.map V.int) ∧ ns.length ≤ 63 ∧ 0 ≤ st ∧ st ≤ 900 ∧ 0 ≤ m ∧ m ≤ 16 ∧
  ∀ H' (l:Addr) (ws:List Str),Same H H' → H l = none → H' l = some (.lst (ws.map V.str)) → (ws.length:Int) = m → ws.Nodup → (∀ z ∈ ws,smW z) → Q (.ref l) H'
section
variable {P:Program} {w:World} {K:PySem.W.Frag} {mg:Str → Option Value} {base:Heap}
theorem scWordsL:FnScope ["_law_script","_law_start","_law_many","_law_words_here","_law_k","_law_cell_here"] ["_law_script","_law_start","_law_many"] (defScope sWordsL):=⟨rfl,rfl,rfl,by decide +kernel,rfl,by decide +kernel,by decide +kernel⟩
theorem flat_strs (ws:List Str):(ws.map V.str).all flatV = true:=by
  induction ws with
  | nil => rfl
  | cons z ws ih =>
    rw [List.map_cons,List.all_cons,ih]
    rfl
set_option maxHeartbeats 0 in
theorem ok_wordsL {f fc fw:Addr} {fd fdc fdw:FuncData} (F:Fun K "_law_words" "_law_words" sWordsL f fd)
    (GC:FnOk P w K mg base CX0 1 fc fdc ["_law_script","_law_k"] (spCell K)) (bC:Binds K fdc ["_law_script","_law_k"] []) (kC:PySem.W.keepIn K (.ref fc) = true) (mC:mg "_law_cell" = some (.ref fc))
    (GW:FnOk P w K mg base CX0 1 fw fdw ["_law_cell_here"] spWordF) (bW:Binds K fdw ["_law_cell_here"] []) (kW:PySem.W.keepIn K (.ref fw) = true) (mW:mg "_law_word" = some (.ref fw)) (mr:mg "range" = none) :
    FnOk P w K mg base CX0 2 f fd ["_law_script","_law_start","_law_many"] (spWordsL K):=by
  refine F.ok scWordsL (fun vs H Q E h => ?_) (fun cdv A outer s H vs Q E hr h => ?_)
  · obtain ⟨a,ns,st,m,rfl,_⟩:=h
    rfl
  obtain ⟨a,ns,st,m,rfl,hS,h63,st0,st1,m0,m1,q⟩:=h
  refine ⟨_,pss_cons (ps_set (i:=3) scWordsL.nd rfl (Or.inl rfl) (pe_lst pa_nil))
    (pss_cons (ps_for PassesOwn.never rfl (pi_range1 rfl mr (pa_cons (pv 2) pa_nil)) (pg_name (i:=4) scWordsL.nd rfl (Or.inl rfl))
      (pss_cons (ps_set (i:=5) scWordsL.nd rfl (Or.inl rfl) (pe_call GC hr rfl mC kC bC .nil pass0 (pa_cons (pv 0) (pa_cons (pe_op op_add (pv 1) (pv 4)) pa_nil))))
      (pss_cons (ps_while PassesOwn.never (pt_cmpR op_in_seq (pe_call GW hr rfl mW kW bW .nil pass0 (pa_cons (pv 5) pa_nil)) (pv 3) (by with_unfolding_all rfl))
        (pss_one (ps_set (i:=5) scWordsL.nd rfl (Or.inl rfl) (pe_op op_add (pv 5) pe_int))))
      (pss_one (ps_expr (pe_bm PySem.F.plainAttrs_list PySem.F.slot_list_append PySem.F.type_list_append mt_append (pv 3) (pa_cons (pe_call GW hr rfl mW kW bW .nil pass0 (pa_cons (pv 5) pa_nil)) pa_nil)))))))
    (pss_one (ps_ret (pv 3)))),?_⟩
  refine ⟨(by show 0 ≤ sizeLine; decide),fun l hl => ?_⟩
  refine ⟨_,rfl,_,rfl,by omega,by omega,for_range (fun i σ H2 => ∃ (ws:List Str) (v c:Option V),σ = [some (.ref a),some (.int st),some (.int m),some (.ref l),v,c] ∧ Same H H2 ∧ H2 l = some (.lst (ws.map V.str)) ∧ ws.length = i ∧ ws.Nodup ∧ ∀ z ∈ ws,smW z)
    ⟨[],none,none,rfl,same_new hl _,upd_same,rfl,List.nodup_nil,fun z hz => nomatch hz⟩ ?_ ?_⟩
  · rintro i σ H2 hi ⟨ws,v,c,rfl,sH,hL,hlen,hnd,hok⟩
    have hi3:i < 16:=by omega
    refine ⟨_,rfl,_,rfl,_,rfl,_,_,rfl,rfl,a,ns,_,rfl,sql_same sH hS,h63,by omega,by omega,fun ce => ?_⟩
    obtain ⟨J,hJ⟩:=fresh_word ws (by omega) ce
    refine while_rel (fun m' σ H3 => ∃ j:Nat,σ = [some (.ref a),some (.int st),some (.int m),some (.ref l),some (.int (0 + (i:Int))),some (.int (ce + (j:Int)))] ∧ Same H2 H3 ∧ j ≤ J ∧ m' = J - j) (J - 0)
      ⟨0,by rw [show ce + ((0:Nat):Int) = ce by omega] <;> rfl,Same.refl _,Nat.zero_le _,rfl⟩ ?_ ?_
    · rintro m' σ H3 ⟨j,rfl,s3,hj,rfl⟩
      refine ⟨_,rfl,_,rfl,fun H4 s4 => ?_⟩
      have hL4:=s4 _ _ (s3 _ _ hL)
      refine ⟨_,rfl,l,_,rfl,.inl (SqL.of hL4),rfl,flat_strs ws,_,rfl,?_⟩
      refine ite2 (fun c1 => ?_) (fun c1 => ?_)
      · have c1':inV (V.str (wordF (ce + (j:Int)))) (ws.map V.str) = true:=c1
        have hm:=inV_str.mp c1'
        have hne:j ≠ J:=fun e => hJ (e ▸ hm)
        refine ⟨_,rfl,_,_,rfl,rfl,J - (j + 1),by omega,j + 1,?_,same_trans s3 s4,by omega,rfl⟩
        show ([some (.ref a),some (.int st),some (.int m),some (.ref l),some (.int (0 + (i:Int))),some (.int (ce + (j:Int) + 1))]:St) = _
        rw [show ce + (j:Int) + 1 = ce + ((j + 1:Nat):Int) by omega]
      · have c1':¬ inV (V.str (wordF (ce + (j:Int)))) (ws.map V.str) = true:=c1
        have hm:wordF (ce + (j:Int)) ∉ ws:=fun z => c1' (inV_str.mpr z)
        refine ⟨_,rfl,.inl ⟨rfl,_,SqL.of hL4⟩,_,rfl,_,rfl,fun H5 s5 => ?_⟩
        have hL5:=s5 _ _ hL4
        refine ⟨l,_,_,rfl,rfl,hL5,Nat.lt_of_lt_of_le (Nat.lt_succ_self _) (small (by rw [List.length_map]; omega)),?_⟩
        refine ⟨ws ++ [wordF (ce + (j:Int))],_,_,rfl,sput (same_trans sH (same_trans s3 (same_trans s4 s5))) hl,?_,?_,?_,?_⟩
        · rw [upd_same,List.map_append]
          rfl
        · rw [List.length_append,hlen]
          rfl
        · rw [List.nodup_append]
          refine ⟨hnd,by simp,fun x hx y hy => ?_⟩
          rw [List.mem_singleton.mp hy]
          exact fun e => hm (e ▸ hx)
        · intro z hz
          rcases List.mem_append.mp hz with hz | hz
          · exact hok z hz
          · rw [List.mem_singleton.mp hz]
            exact smW_word _
    · rintro σ H3 Q1 Q2 hq ⟨v1,e1,c1,e2,h1⟩
      refine ⟨v1,e1,c1,e2,fun H4 s4 => ?_⟩
      obtain ⟨v2,e3,p,xs,e4,h2,h3,h4,b,e5,h5⟩:=h1 H4 s4
      exact ⟨v2,e3,p,xs,e4,h2,h3,h4,b,e5,hq _ _ h5⟩
  · rintro σ H2 ⟨ws,v,c,rfl,sH,hL,hlen,hnd,hok⟩
    exact ⟨_,rfl,q _ l ws sH hl hL (by omega) hnd hok⟩
end
end K29
namespace K29
open PySem L2 Kk
noncomputable def spPutFun (K:PySem.W.Frag) (n:Nat):Sp:=fun vs H Q _ => ∃ (p g ta:Addr) (x:V) (xs:List V) (ks:List Kd) (k:Kd) (kvs:List (List Key × V)) (G:Str × Str → Option Kd),vs = [.ref p,.ref g] ∧ SqT K H p [.ref ta,x] ∧ SqT K H ta xs ∧ KdsAt K H xs ks ∧ KdAt K H x k ∧
  (∀ k' ∈ ks,Kd.depth k' ≤ n) ∧ Kd.depth k ≤ n ∧ ks.length ≤ 100 ∧ H g = some (.dT kvs) ∧ GvAt K H kvs G ∧
  ∀ H' (p' ta':Addr) (xs':List V) (x':V),Same H H' → H' p' = some (.tup [.ref ta',x']) → H' ta' = some (.tup xs') → KdsAt K H' xs' (ks.map (Kd.put G)) → KdAt K H' x' (Kd.put G k) → Q (.ref p') H'
section
variable {P:Program} {w:World} {K:PySem.W.Frag} {mg:Str → Option Value} {base:Heap}
theorem scPutFun:FnScope ["fun","given"] ["fun","given"] (defScope sPutFun):=⟨rfl,rfl,rfl,by decide +kernel,rfl,by decide +kernel,by decide +kernel⟩
theorem kds_get {H:Hp}:∀ {xs:List V} {ks:List Kd},KdsAt K H xs ks → ∀ {i:Nat} {x:V},xs[i]? = some x → ∃ k,ks[i]? = some k ∧ KdAt K H x k
  | _,_,.nil,i,x,h => by simp at h
  | _,_,.cons a t,0,x,h => by
    simp at h
    subst h
    exact ⟨_,rfl,a⟩
  | _,_,.cons a t,i + 1,x,h => by
    simp at h
    obtain ⟨k,hk,r⟩:=kds_get t h
    exact ⟨k,by simpa using hk,r⟩
set_option maxHeartbeats 0 in
theorem ok_putFun {n:Nat} {f fp:Addr} {fd fdp:FuncData} (F:Fun K "put_in_fun" "put_in_fun" sPutFun f fd) (GP:FnOk P w K mg base CX0 n fp fdp ["kind","given"] (spPut K n)) (bP:Binds K fdp ["kind","given"] []) (kP:PySem.W.keepIn K (.ref fp) = true) (mP:mg "put" = some (.ref fp)) (mt:mg "tuple" = none) :
    FnOk P w K mg base CX0 (n + 1) f fd ["fun","given"] (spPutFun K n):=by
  refine F.ok scPutFun (fun vs H Q E h => ?_) (fun cdv A outer s H vs Q E hr h => ?_)
  · obtain ⟨p,g,ta,x,xs,ks,k,kvs,G,rfl,_⟩:=h
    rfl
  obtain ⟨p,g,ta,x,xs,ks,k,kvs,G,rfl,hp,hta,hks,hk,hdk,hd,hl,hg,hG,q⟩:=h
  refine ⟨_,pss_one (ps_ret (pe_tup (pa_cons (pe_callTy call_tuple_of (by rfl) mt bootTuple (pa_cons (pe_comp (own:=["kind"]) (caps:=["given"]) (κ:=[1]) rfl ⟨rfl,by decide +kernel,by decide +kernel,rfl,rfl,(fun y hy => by obtain rfl:=List.mem_singleton.mp hy; rfl),(fun y hy => by obtain rfl:=List.mem_singleton.mp hy; exact ⟨.inl rfl,rfl,.inl rfl⟩)⟩ rfl
    (pi_tup (pe_ix ix_tup (pv 0) pe_int (fun _ _ => rfl))) (fun _ _ _ _ => pg_name (i:=0) (show (["kind","given"]:List Str).Nodup from by decide +kernel) rfl (Or.inl rfl)) (fun _ _ _ _ => pe_call GP hr rfl mP kP bP .nil pass0 (pa_cons (pv 0) (pa_cons (pv 1) pa_nil)))) pa_nil))
    (pa_cons (pe_call GP hr (by rfl) mP kP bP .nil pass0 (pa_cons (pe_ix ix_tup (pv 0) pe_int (fun _ _ => rfl)) (pa_cons (pv 1) pa_nil))) pa_nil)))),?_⟩
  have hlx:=hks.length
  refine ⟨_,rfl,p,_,_,_,rfl,rfl,hp,(show atI [V.ref ta,x] 0 = some (.ref ta) from rfl),ta,rfl,⟨_,hta⟩,?_⟩
  refine comp_by (xs:=xs) (fun i ys H3 => Same H H3 ∧ KdsAt K H3 ys ((ks.take i).map (Kd.put G)) ∧ ys.length = i) ⟨Same.refl _,.nil,rfl⟩ (small (by omega)) ?_ ?_ ?_ ?_ ?_ ?_
  · rintro i ys H3 ⟨_,_,h⟩
    exact Nat.le_of_eq h
  · rintro i u ys H3 hu ⟨s3,_⟩
    exact ⟨_,_,s3.tup hta,hu⟩
  · rintro i ys u H3 H' hn ⟨s3,_⟩ hy
    exact ⟨hy.1,hy.2 _ (s3.tup hta)⟩
  · rintro ys H3 ⟨s3,_⟩
    exact ⟨_,s3.tup hta,Nat.le_refl _⟩
  · rintro i u ys H3 N hN hu ⟨s3,hys,hz⟩
    obtain ⟨k1,hk1,hku⟩:=kds_get hks hu
    have hm:k1 ∈ ks:=List.mem_of_getElem? hk1
    refine ⟨rfl,tYes_go ⟨_,rfl,_,rfl,u,g,k1,kvs,G,rfl,hku.same s3,hdk k1 hm,s3 _ _ hg,hG.same s3,fun H4 v s4 hv => hN _ _ ⟨s3.trans s4,?_,?_⟩⟩⟩
    · have e:(ks.take (i + 1)).map (Kd.put G) = (ks.take i).map (Kd.put G) ++ [Kd.put G k1]:=by
        rw [List.take_add_one,hk1]
        simp
      rw [e]
      exact (hys.same s4).append (one hv)
    · rw [List.length_append,hz]
      rfl
  · rintro ys H3 D ⟨s3,hys,hz⟩ hD
    have eA:ks.take xs.length = ks:=by rw [hlx]; exact List.take_length
    rw [eA] at hys
    have e1:=same_new hD (.lst ys)
    refine ⟨D,ys,rfl,.inl ⟨SqL.of upd_same,fun ta' hta' => ?_⟩⟩
    have e2:=same_new hta' (.tup ys)
    have s5:=s3.trans (e1.trans e2)
    refine ⟨_,rfl,p,_,_,_,rfl,rfl,s5.tup hp,(show atI [V.ref ta,x] 1 = some x from rfl),_,rfl,x,g,k,kvs,G,rfl,hk.same s5,hd,s5 _ _ hg,hG.same s5,fun H6 x' s6 hx' => ?_⟩
    refine ⟨(by show 2 ≤ sizeLine; decide),fun p' hp' => ?_⟩
    have e7:=same_new hp' (.tup [.ref ta',x'])
    exact q _ p' ta' ys x' (s5.trans (s6.trans e7)) upd_same (e7 _ _ (s6 _ _ upd_same)) (hys.same (e1.trans (e2.trans (s6.trans e7)))) (hx'.same e7)
end
end K29
namespace K29
open PySem L2 Kk
section
variable {P:Program} {w:World} {K:PySem.W.Frag} {mg:Str → Option Value} {base:Heap}
end
end K29
namespace K29
open PySem L2 Kk
noncomputable def spInitF (CF:Addr):Sp:=fun vs H Q _ => ∃ (p dx a b:Addr) (kvs fvs:List (Key × V)),vs = [.ref p,.ref a,.ref b] ∧ H p = some (.ins CF dx []) ∧ H a = some (.dK kvs) ∧ H b = some (.dK fvs) ∧
  ∀ (d e:Addr) (fs:List (Str × V)) (H':Hp),H d = none → H e = none → d ≠ e → H' p = some (.ins CF dx fs) → fs.lookup ("kinds":Str) = some (.ref d) → fs.lookup ("funs":Str) = some (.ref e) → fs.lookup ("hidden":Str) = none → fs.lookup ("put":Str) = none → H' d = some (.dK kvs) → H' e = some (.dK fvs) → (∀ c o,H c = some o → c ≠ p → H' c = some o) → Q .non H'
section
variable {P:Program} {w:World} {K:PySem.W.Frag} {mg:Str → Option Value} {base:Heap}
theorem ok_initF {f CF:Addr} {fd:FuncData} (F:Fun K "__init__" "Face.__init__" sInit f fd) (cF:Cls K CF) (nK:NoAttr K CF "kinds") (nF:NoAttr K CF "funs") (md:mg "dict" = none):FnOk P w K mg base CX0 1 f fd ["self","kinds","funs"] (spInitF CF):=by
  refine F.ok scInit (fun vs H Q E h => ?_) (fun cdv A outer s H vs Q E hr h => ?_)
  · obtain ⟨p,dx,a,b,kvs,fvs,rfl,_⟩:=h
    rfl
  obtain ⟨p,dx,a,b,kvs,fvs,rfl,hp,ha,hb,q⟩:=h
  refine ⟨_,pss_cons (ps_fld (pv 0) (pe_callTy call_dict_dK rfl md bootDict (pa_cons (pv 1) pa_nil)) rfl) (pss_one (ps_fld (pv 0) (pe_callTy call_dict_dK rfl md bootDict (pa_cons (pv 2) pa_nil)) rfl)),?_⟩
  refine ⟨_,rfl,a,kvs,rfl,ha,fun d hd => ?_⟩
  have npd:p ≠ d:=ne_of_none hp hd
  refine ⟨_,rfl,p,CF,dx,[],rfl,(by rw [upd_ne npd]; exact hp),cF,nK,(by show 0 < 1000; decide),?_⟩
  have hb1:upd (upd H d (.dK kvs)) p (.ins CF dx (putF "kinds" (.ref d) [])) b = some (.dK fvs):=by
    rw [upd_ne (ne_of hb hp (by intro z; cases z)),upd_ne (ne_of_none hb hd)]
    exact hb
  refine ⟨_,rfl,b,fvs,rfl,hb1,fun e he => ?_⟩
  have npe:p ≠ e:=fun z => by rw [← z,upd_same] at he; cases he
  have nde:d ≠ e:=fun z => by rw [← z,upd_ne npd.symm,upd_same] at he; cases he
  have he0:H e = none:=by
    rw [upd_ne npe.symm,upd_ne nde.symm] at he
    exact he
  refine ⟨_,rfl,p,CF,dx,_,rfl,(by rw [upd_ne npe]; exact upd_same),cF,nF,(by show 1 < 1000; decide),?_⟩
  refine q d e _ _ hd he0 nde upd_same (by rw [lookup_putF,if_neg kf',lookup_putF,if_pos rfl]) (by rw [lookup_putF,if_pos rfl]) (by rw [lookup_putF,if_neg (by decide +kernel),lookup_putF,if_neg (by decide +kernel)]; rfl) (by rw [lookup_putF,if_neg (by decide +kernel),lookup_putF,if_neg (by decide +kernel)]; rfl) ?_ ?_ fun c o ec hc => ?_
  · rw [upd_ne npd.symm,upd_ne nde,upd_ne npd.symm,upd_same]
  · rw [upd_ne npe.symm,upd_same]
  · have hce:c ≠ e:=fun z => by
      rw [z] at ec hc
      rw [he0] at ec
      cases ec
    rw [upd_ne hc,upd_ne hce,upd_ne hc,upd_ne (ne_of_none ec hd)]
    exact ec
end
end K29
namespace K29
open PySem L2 Kk
noncomputable def PkAt {α:Type} (R:V → α → Prop) (kvs:List (Key × V)) (m:List (Str × α)):Prop:=Paired (fun (p:Key × V) (q:Str × α) => p.1 = .inr q.1 ∧ R p.2 q.2) kvs m
theorem PkAt.snoc {α:Type} {R:V → α → Prop} {kvs:List (Key × V)} {m:List (Str × α)} {z:Str} {v:V} {x:α} (h:PkAt R kvs m) (hv:R v x):PkAt R (kvs ++ [(.inr z,v)]) (m ++ [(z,x)]):=by
  unfold PkAt at h ⊢
  induction h with
  | nil => exact .cons ⟨rfl,hv⟩ .nil
  | cons a _ ih => exact .cons a ih
theorem PkAt.imp {α:Type} {R S:V → α → Prop} {kvs:List (Key × V)} {m:List (Str × α)} (f:∀ v x,R v x → S v x) (h:PkAt R kvs m):PkAt S kvs m:=Paired.mapP h fun _ _ ⟨e,r⟩ => ⟨e,f _ _ r⟩
theorem PkAt.keys {α:Type} {R:V → α → Prop} {kvs:List (Key × V)} {m:List (Str × α)} (h:PkAt R kvs m):kvs.map (·.1) = m.map fun q => (Sum.inr q.1:Key):=by
  unfold PkAt at h
  induction h with
  | nil => rfl
  | cons a _ ih => rw [List.map_cons,List.map_cons,ih,a.1]
theorem valV_out {kvs:List (Key × V)} {k:Key} (h:k ∉ kvs.map (·.1)):valV kvs k = none:=by
  cases e:valV kvs k with
  | none => rfl
  | some v =>
    exfalso
    apply h
    unfold valV at e
    obtain ⟨p,hp,_⟩:=Option.map_eq_some_iff.mp e
    have h1:=List.mem_of_find?_eq_some hp
    have h2:=List.find?_some hp
    have h3:p.1 = k:=by simpa using h2
    rw [← h3]
    exact List.mem_map_of_mem h1
theorem PkAt.put {α:Type} {R:V → α → Prop} {kvs:List (Key × V)} {m:List (Str × α)} {z:Str} {v:V} {x:α} (h:PkAt R kvs m) (hz:z ∉ m.map (·.1)) (hv:R v x):PkAt R (putK kvs (.inr z) v) (m ++ [(z,x)]):=by
  rw [putK_new v (valV_out ?_)]
  · exact h.snoc hv
  · rw [h.keys]
    intro hm
    obtain ⟨q,hq,e⟩:=List.mem_map.mp hm
    exact hz (by rw [← Sum.inr.inj e]; exact List.mem_map_of_mem hq)
noncomputable def FunAt (K:PySem.W.Frag) (H:Hp) (v:V) (f:List Kd × Kd):Prop:=∃ (p ta:Addr) (x:V) (xs:List V),v = .ref p ∧ SqT K H p [.ref ta,x] ∧ SqT K H ta xs ∧ KdsAt K H xs f.1 ∧ KdAt K H x f.2
theorem FunAt.keep {K:PySem.W.Frag} {H H':Hp} {v:V} {f:List Kd × Kd} (e:∀ a xs,SqT K H a xs → SqT K H' a xs) (h:FunAt K H v f):FunAt K H' v f:=by
  obtain ⟨p,ta,x,xs,h1,h2,h3,h4,h5⟩:=h
  exact ⟨p,ta,x,xs,h1,e _ _ h2,e _ _ h3,kds_keep e h4,kd_keep e h5⟩
end K29
namespace K29
open PySem L2 Kk
theorem sqt_dk {H:Hp} {l a:Addr} {kvs:List (Key × V)} {xs:List V} {o:HO} (h:H l = some (.dK kvs)) (t:SqT K H a xs):SqT K (upd H l o) a xs:=by
  rcases t with (t | ⟨o',t⟩) | t
  · exact .inl (.inl (by rw [upd_ne (fun e => by rw [e,h] at t; cases t)]; exact t))
  · exact .inl (.inr ⟨o',by rw [upd_ne (fun e => by rw [e,h] at t; cases t)]; exact t⟩)
  · exact .inr t
noncomputable def FaceF (K:PySem.W.Frag) (H:Hp) (CF fa:Addr) (m1:List (Str × Kd)) (m2:List (Str × (List Kd × Kd))):Prop :=
  ∃ (dx d1 d2:Addr) (fs:List (Str × V)) (kv1 kv2:List (Key × V)),H fa = some (.ins CF dx fs) ∧ fs.lookup ("kinds":Str) = some (.ref d1) ∧ fs.lookup ("funs":Str) = some (.ref d2) ∧ H d1 = some (.dK kv1) ∧ H d2 = some (.dK kv2) ∧ PkAt (KdAt K H) kv1 m1 ∧ PkAt (FunAt K H) kv2 m2 ∧ fs.lookup ("hidden":Str) = none ∧ fs.lookup ("put":Str) = none
end K29
namespace K29
open PySem L2 Kk
noncomputable def Kd.dat:Kd → PyData
  | .num n => .tuple [.str "num",.int n]
  | .name q t => .tuple [.str "name",.str q,.str t]
  | .pair a b => .tuple [.str "pair",Kd.dat a,Kd.dat b]
theorem kd_dat {K:PySem.W.Frag} {H:Hp}:∀ {x:V} {k:Kd},KdAt K H x k → Dat K H x (Kd.dat k)
  | _,_,.num t => .tup t (.cons (.str _) (.cons (.int _) .nil))
  | _,_,.name t => .tup t (.cons (.str _) (.cons (.str _) (.cons (.str _) .nil)))
  | _,_,.pair t a b => .tup t (.cons (.str _) (.cons (kd_dat a) (.cons (kd_dat b) .nil)))
theorem eqv_tup (xs ys:List PyData):PyData.eqv (.tuple xs) (.tuple ys) = PyData.eqvAll xs ys:=by simp [PyData.eqv]
theorem eqvA_cons (x y:PyData) (xs ys:List PyData):PyData.eqvAll (x :: xs) (y :: ys) = (PyData.eqv x y && PyData.eqvAll xs ys):=by simp [PyData.eqvAll]
theorem eqvA_nil:PyData.eqvAll [] [] = true:=by simp [PyData.eqvAll]
theorem eqv_str (x y:Str):PyData.eqv (.str x) (.str y) = decide (x = y):=by
  rw [show PyData.eqv (.str x) (.str y) = (x == y) by simp [PyData.eqv]]
  rfl
theorem eqv_int (x y:Int):PyData.eqv (.int x) (.int y) = decide (x = y):=by
  rw [show PyData.eqv (.int x) (.int y) = (x == y) by simp [PyData.eqv]]
  rfl
theorem eqv_dat (a:Kd):∀ b:Kd,PyData.eqv (Kd.dat a) (Kd.dat b) = decide (a = b):=by
  induction a with
  | num n =>
    intro b
    cases b with
    | num m =>
      show PyData.eqv (.tuple [.str "num",.int n]) (.tuple [.str "num",.int m]) = _
      rw [eqv_tup,eqvA_cons,eqvA_cons,eqvA_nil,eqv_str,eqv_int]
      simp
    | name q t =>
      show PyData.eqv (.tuple (.str "num" :: _)) (.tuple (.str "name" :: _)) = _
      rw [eqv_tup,eqvA_cons,eqv_str,decide_eq_false (by decide +kernel),decide_eq_false (by intro e; cases e)]
      rfl
    | pair c d =>
      show PyData.eqv (.tuple (.str "num" :: _)) (.tuple (.str "pair" :: _)) = _
      rw [eqv_tup,eqvA_cons,eqv_str,decide_eq_false (by decide +kernel),decide_eq_false (by intro e; cases e)]
      rfl
  | name q t =>
    intro b
    cases b with
    | num m =>
      show PyData.eqv (.tuple (.str "name" :: _)) (.tuple (.str "num" :: _)) = _
      rw [eqv_tup,eqvA_cons,eqv_str,decide_eq_false (by decide +kernel),decide_eq_false (by intro e; cases e)]
      rfl
    | name q' t' =>
      show PyData.eqv (.tuple [.str "name",.str q,.str t]) (.tuple [.str "name",.str q',.str t']) = _
      rw [eqv_tup,eqvA_cons,eqvA_cons,eqvA_cons,eqvA_nil,eqv_str,eqv_str,eqv_str]
      simp
    | pair c d =>
      show PyData.eqv (.tuple (.str "name" :: _)) (.tuple (.str "pair" :: _)) = _
      rw [eqv_tup,eqvA_cons,eqv_str,decide_eq_false (by decide +kernel),decide_eq_false (by intro e; cases e)]
      rfl
  | pair a1 a2 h1 h2 =>
    intro b
    cases b with
    | num m =>
      show PyData.eqv (.tuple (.str "pair" :: _)) (.tuple (.str "num" :: _)) = _
      rw [eqv_tup,eqvA_cons,eqv_str,decide_eq_false (by decide +kernel),decide_eq_false (by intro e; cases e)]
      rfl
    | name q' t' =>
      show PyData.eqv (.tuple (.str "pair" :: _)) (.tuple (.str "name" :: _)) = _
      rw [eqv_tup,eqvA_cons,eqv_str,decide_eq_false (by decide +kernel),decide_eq_false (by intro e; cases e)]
      rfl
    | pair c d =>
      show PyData.eqv (.tuple [.str "pair",Kd.dat a1,Kd.dat a2]) (.tuple [.str "pair",Kd.dat c,Kd.dat d]) = _
      rw [eqv_tup,eqvA_cons,eqvA_cons,eqvA_cons,eqvA_nil,eqv_str,h1,h2]
      simp
theorem lay_kd:∀ {k:Kd},Kd.ok k → PyData.canLay0 (Kd.dat k) = true
  | .num n,_ => by
    have h:PyData.strOk "num" = true:=by decide +kernel
    simp [Kd.dat,PyData.canLay0,PyData.canLayAll0,h]
  | .name q t,⟨h1,h2⟩ => by
    have h:PyData.strOk "name" = true:=by decide +kernel
    simp [Kd.dat,PyData.canLay0,PyData.canLayAll0,h,h1.1,h2.1]
  | .pair a b,⟨h1,h2⟩ => by
    have h:PyData.strOk "pair" = true:=by decide +kernel
    simp [Kd.dat,PyData.canLay0,PyData.canLayAll0,h,lay_kd h1,lay_kd h2]
theorem deep_kd:∀ k:Kd,PyData.depth (Kd.dat k) ≤ Kd.depth k
  | .num n => by simp [Kd.dat,PyData.depth,PyData.depthAll,Kd.depth]
  | .name q t => by simp [Kd.dat,PyData.depth,PyData.depthAll,Kd.depth]
  | .pair a b => by
    have h1:=deep_kd a
    have h2:=deep_kd b
    simp only [Kd.dat,PyData.depth,PyData.depthAll,Kd.depth]
    omega
theorem kd_shaped {k:Kd} (h:Kd.ok k) (hd:Kd.depth k ≤ 60):SeqAt.shaped (Kd.dat k) = true:=by
  have h1:=lay_kd h
  have h2:=deep_kd k
  unfold SeqAt.shaped
  rw [h1,decide_eq_true (show PyData.depth (Kd.dat k) ≤ 64 by omega)]
  rfl
noncomputable abbrev sHidden:Stmt:=inClass (top 14) 2
noncomputable def ownK (z:Str):Kd:=.name "" z
noncomputable def spOwn (K:PySem.W.Frag):Sp:=fun vs H Q _ => ∃ z:Str,vs = [.str z] ∧ ∀ H' x,Same H H' → KdAt K H' x (ownK z) → Q x H'
noncomputable def hidB (q:Str × Kd):Bool:=decide (q.2 = ownK q.1)
noncomputable def hidL (m:List (Str × Kd)):List Str:=(m.filter hidB).map (·.1)
noncomputable def spHidden (K:PySem.W.Frag) (CF:Addr):Sp:=fun vs H Q _ => ∃ (fa:Addr) (m1:List (Str × Kd)) (m2:List (Str × (List Kd × Kd))),vs = [.ref fa] ∧ FaceF K H CF fa m1 m2 ∧ m1.length ≤ 100 ∧ (∀ q ∈ m1,okW q.1 ∧ Kd.ok q.2 ∧ Kd.depth q.2 ≤ 60) ∧
  ∀ H' (l:Addr),Same H H' → H l = none → H' l = some (.lst ((hidL m1).map V.str)) → Q (.ref l) H'
theorem ok_empty:okW "":=⟨by decide +kernel,by decide +kernel⟩
section
variable {P:Program} {w:World} {K:PySem.W.Frag} {mg:Str → Option Value} {base:Heap}
theorem scOwn:FnScope ["word"] ["word"] (defScope sOwn):=⟨rfl,rfl,rfl,by decide +kernel,rfl,by decide +kernel,by decide +kernel⟩
theorem ok_own {f:Addr} {fd:FuncData} (F:Fun K "own_name" "own_name" sOwn f fd):FnOk P w K mg base CX0 1 f fd ["word"] (spOwn K):=by
  refine F.ok scOwn (fun vs H Q E h => ?_) (fun cdv A outer s H vs Q E hr h => ?_)
  · obtain ⟨z,rfl,_⟩:=h
    rfl
  obtain ⟨z,rfl,q⟩:=h
  refine ⟨_,pss_one (ps_ret (pe_tup (pa_cons pe_str (pa_cons pe_str (pa_cons (pv 0) pa_nil))))),?_⟩
  exact ⟨_,rfl,(by show 3 ≤ sizeLine; decide),fun p hp => q _ _ (same_new hp _) (.name (SqT.of upd_same))⟩
theorem scHidden:FnScope ["self"] ["self"] (defScope sHidden):=⟨rfl,rfl,rfl,by decide +kernel,rfl,by decide +kernel,by decide +kernel⟩
set_option maxHeartbeats 0 in
theorem ok_hidden {f fo CF:Addr} {fd fdo:FuncData} (F:Fun K "hidden" "Face.hidden" sHidden f fd) (GO:FnOk P w K mg base CX0 1 fo fdo ["word"] (spOwn K)) (bO:Binds K fdo ["word"] []) (kO:PySem.W.keepIn K (.ref fo) = true) (mO:mg "own_name" = some (.ref fo)) (cF:Cls K CF) (nK:NoAttr K CF "kinds") :
    FnOk P w K mg base CX0 2 f fd ["self"] (spHidden K CF):=by
  refine F.ok scHidden (fun vs H Q E h => ?_) (fun cdv A outer s H vs Q E hr h => ?_)
  · obtain ⟨fa,m1,m2,rfl,_⟩:=h
    rfl
  obtain ⟨fa,m1,m2,rfl,hF,h100,hok,q⟩:=h
  have hu:=hr.units
  refine ⟨_,pss_one (ps_ret (pe_thaw (pe_comp_if (own:=["word","kind"]) (caps:=[]) (κ:=[]) rfl ⟨rfl,by decide +kernel,by decide +kernel,rfl,rfl,(fun y hy => nomatch hy),(fun y hy => nomatch hy)⟩ rfl
    (pi_items (pe_fld (pv 0) rfl)) (fun _ _ _ _ => pg_two (K:=K) (i:=0) (j:=1) rfl rfl (show (["word","kind"]:List Str).Nodup from by decide +kernel) rfl (Or.inl rfl) (Or.inr rfl) rfl (Or.inl rfl) (Or.inr rfl))
    (fun _ _ _ _ => pt_cmpR (eqK (K:=K) rfl hu) (pv 1) (pe_call GO hr rfl mO kO bO .nil pass0 (pa_cons (pv 0) pa_nil)) (nomark _)) (fun _ _ _ _ => pv 0)))),?_⟩
  obtain ⟨dx,d1,d2,fs,kv1,kv2,hfa,hl1,hl2,hd1,hd2,hk1,hk2,_,_⟩:=hF
  have hlen:kv1.length = m1.length:=Paired.length hk1
  refine ⟨_,rfl,fa,CF,dx,fs,_,rfl,hfa,cF,nK,hl1,d1,kv1,rfl,hd1,fun o => ?_⟩
  refine comp_items (fun i ys H3 => (∀ b u,H b = some u → b ≠ d1 → H3 b = some u) ∧ H3 d1 = some (.frz o (.dK kv1)) ∧ ys = (hidL (m1.take i)).map V.str ∧ ys.length ≤ i ∧ (∀ a xs,SqT K H a xs → SqT K H3 a xs)) ?_ (small (by omega)) ?_ ?_ ?_ ?_
  · exact ⟨fun b u hb nb => by rw [upd_ne nb]; exact hb,upd_same,rfl,Nat.le_refl _,fun a xs h => sqt_dk hd1 h⟩
  · rintro i ys H3 ⟨_,_,_,h,_⟩
    exact h
  · rintro i ys H3 ⟨_,h,_⟩
    exact h
  · rintro i p a ys H3 N hN hp ha ⟨old,hd3,rfl,hys,keep⟩
    obtain ⟨⟨z,k⟩,hq,ez,hkz⟩:=pair_get hk1 hp
    obtain ⟨pk,pw⟩:=p
    replace ez:pk = .inr z:=ez
    replace hkz:KdAt K H pw k:=hkz
    subst ez
    obtain ⟨oz,ok,od⟩:=hok (z,k) (List.mem_of_getElem? hq)
    have ea:=same_new ha (.tup [kV (.inr z),pw])
    refine ⟨a,_,rfl,SqT.of upd_same,rfl,_,_,rfl,_,_,rfl,rfl,rfl,?_⟩
    have keepA:∀ b xs,SqT K H b xs → SqT K (upd H3 a (.tup [kV (.inr z),pw])) b xs:=fun b xs h => ea.tup (keep b xs h)
    refine ⟨_,rfl,_,rfl,z,rfl,fun H4 x4 s4 hx4 => ?_⟩
    have hkz4:=(kd_keep keepA hkz).same s4
    refine ⟨_,_,kd_dat hkz4,kd_dat hx4,kd_shaped ok od,kd_shaped ⟨ok_empty,oz⟩ (by show 1 ≤ 60; decide),_,rfl,?_⟩
    have eT:hidL (m1.take (i + 1)) = hidL (m1.take i) ++ (if hidB (z,k) = true then [z] else []):=by
      rw [List.take_add_one,hq]
      unfold hidL
      rw [List.filter_append,List.map_append]
      congr 1
      show ((([(z,k)]:List (Str × Kd)).filter hidB).map (·.1)) = _
      rw [List.filter_cons]
      by_cases c:hidB (z,k) = true
      · rw [if_pos c,if_pos c]; rfl
      · rw [if_neg c,if_neg c]; rfl
    have old4:∀ b u,H b = some u → b ≠ d1 → H4 b = some u:=fun b u hb nb => s4 _ _ (ea _ _ (old b u hb nb))
    have eb:PyData.eqv (Kd.dat k) (Kd.dat (ownK z)) = hidB (z,k):=eqv_dat _ _
    refine ite2 (fun c => ?_) (fun c => ?_)
    · have c':hidB (z,k) = true:=by rw [← eb]; exact c
      rw [if_pos c'] at eT
      refine ⟨_,rfl,hN _ _ ⟨old4,s4 _ _ (ea _ _ hd3),?_,?_,fun b xs t => s4.tup (keepA b xs t)⟩⟩
      · rw [eT,List.map_append]; rfl
      · rw [List.length_append]; show _ + 1 ≤ _; omega
    · have c':¬ hidB (z,k) = true:=by rw [← eb]; exact c
      rw [if_neg c',List.append_nil] at eT
      refine hN _ _ ⟨old4,s4 _ _ (ea _ _ hd3),by rw [eT],by omega,fun b xs t => s4.tup (keepA b xs t)⟩
  · rintro ys H3 D ⟨old,hd3,rfl,hys,keep⟩ hD
    have nD:d1 ≠ D:=ne_of_none hd3 hD
    have nofz:∀ o' u',H d1 ≠ some (.frz o' u'):=fun o' u' e => by
      rw [e] at hd1
      cases hd1
    refine ⟨d1,o,.dK kv1,(by rw [upd_ne nD]; exact hd3),nofz,?_⟩
    have hs:Same H (upd (upd H3 D (.lst ((hidL (m1.take kv1.length)).map V.str))) d1 (.dK kv1)):=fun b u hb => by
      by_cases e:b = d1
      · rw [e] at hb ⊢
        rw [hd1] at hb
        cases hb
        exact upd_same
      · rw [upd_ne e]
        have h3:=old b u hb e
        rw [upd_ne (ne_of_none h3 hD)]
        exact h3
    have hD0:H D = none:=by
      cases e:H D with
      | none => rfl
      | some u => rw [old D u e (Ne.symm nD)] at hD; cases hD
    refine q _ D hs hD0 ?_
    rw [upd_ne (Ne.symm nD),upd_same,hlen,List.take_length]
end
end K29
namespace K29
open PySem L2 Kk
noncomputable def Fits (K:PySem.W.Frag) (H:Hp) (x:V):Prop:=∃ d n,Dat K H x d ∧ Shw d n 60 ∧ n ≤ 1900000
theorem Fits.same {K:PySem.W.Frag} {H H':Hp} {x:V} (s:Same H H') (h:Fits K H x):Fits K H' x:=let ⟨d,n,a,b⟩:=h; ⟨d,n,a.same s,b⟩
noncomputable def Kd.sm:Kd → Prop
  | .num n => 0 ≤ n ∧ n ≤ 10 ^ 18
  | .name q t => (PyData.strOk q = true ∧ q.length ≤ 14) ∧ PyData.strOk t = true ∧ t.length ≤ 14
  | .pair a b => Kd.sm a ∧ Kd.sm b
theorem sm_ok:∀ {k:Kd},Kd.sm k → Kd.ok k
  | .num _,_ => True.intro
  | .name _ _,⟨⟨a,b⟩,c,d⟩ => ⟨⟨a,by omega⟩,c,by omega⟩
  | .pair _ _,⟨a,b⟩ => ⟨sm_ok a,sm_ok b⟩
theorem shw_kd:∀ {k:Kd},Kd.sm k → Shw (Kd.dat k) (400 * k.words) (Kd.depth k)
  | .num n,h => by
    have h1:=shws_cons (shw_str (y:="num") (by decide +kernel) 0) (shws_cons (shw_int h.1 h.2 0) (shws_nil 0))
    have e:(Str.ofString "num").length = 3:=by decide +kernel
    refine (shw_tup h1).le ?_ (by show 0 + 1 ≤ 1; decide)
    rw [e]
    show _ ≤ 400 * 1
    omega
  | .name q t,⟨⟨a,b⟩,c,d⟩ => by
    have h1:=shws_cons (shw_str (y:="name") (by decide +kernel) 0) (shws_cons (shw_str a 0) (shws_cons (shw_str c 0) (shws_nil 0)))
    have e:(Str.ofString "name").length = 4:=by decide +kernel
    refine (shw_tup h1).le ?_ (by show 0 + 1 ≤ 1; decide)
    rw [e]
    show _ ≤ 400 * 1
    omega
  | .pair k l,⟨a,b⟩ => by
    have m1:Kd.depth k ≤ max (Kd.depth k) (Kd.depth l):=Nat.le_max_left _ _
    have m2:Kd.depth l ≤ max (Kd.depth k) (Kd.depth l):=Nat.le_max_right _ _
    have h1:=shws_cons (shw_str (y:="pair") (by decide +kernel) (max (Kd.depth k) (Kd.depth l))) (shws_cons ((shw_kd a).le (Nat.le_refl _) m1) (shws_cons ((shw_kd b).le (Nat.le_refl _) m2) (shws_nil _)))
    have e:(Str.ofString "pair").length = 4:=by decide +kernel
    refine (shw_tup h1).le ?_ ?_
    · rw [e]
      show _ ≤ 400 * (1 + k.words + l.words)
      omega
    · simp only [Kd.depth]
      omega
theorem fits_kd {K:PySem.W.Frag} {H:Hp} {x:V} {k:Kd} (h:KdAt K H x k) (s:Kd.sm k) (hw:k.words ≤ 4000) (hd:Kd.depth k ≤ 60):Fits K H x:=⟨_,_,kd_dat h,(shw_kd s).le (Nat.le_refl _) hd,by omega⟩
theorem fits_str {K:PySem.W.Frag} {H:Hp} {z:Str} (h:PyData.strOk z = true) (hl:z.length ≤ 1000):Fits K H (.str z):=⟨_,_,.str z,shw_str h 60,by omega⟩
theorem fits_non {K:PySem.W.Frag} {H:Hp}:Fits K H .non:=⟨_,_,.non,shw_non 60,by omega⟩
noncomputable def sumK (ks:List Kd):Nat:=(ks.map Kd.words).sum
noncomputable def Fn.dat (f:List Kd × Kd):PyData:=.tuple [.tuple (f.1.map Kd.dat),Kd.dat f.2]
theorem kds_dat {K:PySem.W.Frag} {H:Hp}:∀ {xs:List V} {ks:List Kd},KdsAt K H xs ks → Dats K H xs (ks.map Kd.dat)
  | _,_,.nil => .nil
  | _,_,.cons h r => .cons (kd_dat h) (kds_dat r)
theorem fn_dat {K:PySem.W.Frag} {H:Hp} {v:V} {f:List Kd × Kd} (h:FunAt K H v f):Dat K H v (Fn.dat f):=by
  obtain ⟨p,ta,x,xs,rfl,h1,h2,h3,h4⟩:=h
  exact .tup h1 (.cons (.tup h2 (kds_dat h3)) (.cons (kd_dat h4) .nil))
theorem shws_kds:∀ {ks:List Kd} {m:Nat},(∀ k ∈ ks,Kd.sm k ∧ Kd.depth k ≤ m) → Shws (ks.map Kd.dat) (402 * sumK ks) m
  | [],m,_ => shws_nil m
  | k :: ks,m,h => by
    obtain ⟨h1,h2⟩:=h k (.head _)
    have r:=shws_kds (ks:=ks) fun j hj => h j (.tail _ hj)
    have c:=shws_cons ((shw_kd h1).le (Nat.le_refl _) h2) r
    have p:=words_pos k
    refine ⟨c.sh,c.nd,c.dp,Nat.le_trans c.ln ?_⟩
    show _ ≤ 402 * (k.words + (ks.map Kd.words).sum)
    have:sumK ks = (ks.map Kd.words).sum:=rfl
    omega
theorem fits_fn {K:PySem.W.Frag} {H:Hp} {v:V} {f:List Kd × Kd} (h:FunAt K H v f) (s:∀ k ∈ f.2 :: f.1,Kd.sm k ∧ Kd.depth k ≤ 50) (hw:sumK (f.2 :: f.1) ≤ 4600):Fits K H v:=by
  obtain ⟨s1,s2⟩:=s f.2 (.head _)
  have h1:=shw_tup (shws_kds (ks:=f.1) (m:=50) fun k hk => s k (.tail _ hk))
  have h2:=shw_tup (shws_cons h1 (shws_cons ((shw_kd s1).le (Nat.le_refl _) (Nat.le_trans s2 (by decide:50 ≤ 51))) (shws_nil 51)))
  refine ⟨_,_,fn_dat h,h2.le (Nat.le_refl _) (by decide),?_⟩
  have e:sumK (f.2 :: f.1) = f.2.words + sumK f.1:=rfl
  omega
end K29
namespace K29
open PySem L2 Kk
noncomputable abbrev sInitN:Stmt:=inClass (top 5) 0
noncomputable def nfs (p n u f:V):List (Str × V):=putF "found" f (putF "due" u (putF "name" n [("part",p)]))
theorem nfs_name (p n u f:V):(nfs p n u f).lookup (Str.ofString "name") = some n:=by
  unfold nfs
  rw [lookup_putF,if_neg (by decide +kernel),lookup_putF,if_neg (by decide +kernel),lookup_putF,if_pos rfl]
theorem nfs_due (p n u f:V):(nfs p n u f).lookup (Str.ofString "due") = some u:=by
  unfold nfs
  rw [lookup_putF,if_neg (by decide +kernel),lookup_putF,if_pos rfl]
theorem nfs_found (p n u f:V):(nfs p n u f).lookup (Str.ofString "found") = some f:=by
  unfold nfs
  rw [lookup_putF,if_pos rfl]
noncomputable def spInitN (K:PySem.W.Frag) (C:Addr):Sp:=fun vs H Q _ => ∃ (e:Addr) (p n u f:V),vs = [.ref e,p,n,u,f] ∧ H e = some (.ext (excRaw e C none)) ∧ Fits K H p ∧ Fits K H n ∧ Fits K H u ∧ Fits K H f ∧
  ∀ dx H',dx ≠ e → (∀ b o,b ≠ e → H b = some o → H' b = some o) → H' e = some (.ext (excRaw e C (some dx))) → H' dx = some (.ext (xdAt dx (nfs p n u f))) → Q .non H'
section
variable {P:Program} {w:World} {K:PySem.W.Frag} {mg:Str → Option Value} {base:Heap}
theorem scInitN:FnScope ["self","part","name","due","found"] ["self","part","name","due","found"] (defScope sInitN):=⟨rfl,rfl,rfl,by decide +kernel,rfl,by decide +kernel,by decide +kernel⟩
set_option maxHeartbeats 0 in
theorem ok_initN {f C R:Addr} {fd:FuncData} (F:Fun K "__init__" "NoFit.__init__" sInitN f fd) (mR:mg "Refused" = some (.ref R)) (bR:BaseI K R) (ex:excInI K C bmVE "ValueError.__new__" = true) (st:ExcSet K C)
    (t1:PySem.W.takerIn K C "part" = some none) (t2:PySem.W.takerIn K C "name" = some none) (t3:PySem.W.takerIn K C "due" = some none) (t4:PySem.W.takerIn K C "found" = some none) :
    FnOk P w K mg base CX0 1 f fd ["self","part","name","due","found"] (spInitN K C):=by
  refine F.ok scInitN (fun vs H Q E h => ?_) (fun cdv A outer s H vs Q E hr h => ?_)
  · obtain ⟨e,p,n,u,f,rfl,_⟩:=h
    rfl
  obtain ⟨e,p,n,u,f,rfl,he,⟨dp,np,hp,sp,lp⟩,⟨dn,nn,hn,sn,ln⟩,⟨du,nu,hu,su,lu⟩,⟨df,nf,hf,sf,lf⟩,q⟩:=h
  refine ⟨_,pss_cons (ps_expr (pe_baseInit bR rfl mR (pa_cons (pv 0) (pa_cons (pe_fstr (pj_cons pe_str (pj_cons (pe_frD hr (pv 1)) (pj_cons pe_str (pj_cons (pe_frD hr (pv 2)) (pj_cons pe_str (pj_cons (pe_frD hr (pv 3)) (pj_cons pe_str (pj_cons (pe_frD hr (pv 4)) pj_nil)))))))) (by decide)) pa_nil)) rfl))
    (pss_cons (ps_xfld0 (pv 0) (pv 1) rfl) (pss_cons (ps_xfld1 (pv 0) (pv 2) rfl) (pss_cons (ps_xfld1 (pv 0) (pv 3) rfl) (pss_one (ps_xfld1 (pv 0) (pv 4) rfl))))),?_⟩
  refine ⟨_,rfl,_,rfl,by decide +kernel,_,rfl,dp,np,hp,sp,by omega,fun z1 l1 => ⟨z1,rfl,l1,?_⟩⟩
  refine ⟨_,rfl,by decide +kernel,_,rfl,dn,nn,hn,sn,by omega,fun z2 l2 => ⟨z2,rfl,l2,?_⟩⟩
  refine ⟨_,rfl,by decide +kernel,_,rfl,du,nu,hu,su,by omega,fun z3 l3 => ⟨z3,rfl,l3,?_⟩⟩
  refine ⟨_,rfl,by decide +kernel,_,rfl,df,nf,hf,sf,by omega,fun z4 l4 => ⟨z4,rfl,l4,fun z lz => ?_⟩⟩
  refine ⟨e,C,none,_,rfl,ex,he,(by show 1 ≤ sizeLine; decide),?_⟩
  refine ⟨_,rfl,_,rfl,e,C,rfl,st,t1,he,fun dx hdx => ?_⟩
  have ne:e ≠ dx:=ne_of_none he hdx
  have e1:∀ o,upd (upd H e (.ext (excRaw e C (some dx)))) dx o e = some (.ext (excRaw e C (some dx))):=fun o => by rw [upd_ne ne,upd_same]
  refine ⟨_,rfl,_,rfl,e,C,dx,_,rfl,st,t2,e1 _,upd_same,(by show 1 < 1000; decide),?_⟩
  rw [upd_upd]
  refine ⟨_,rfl,_,rfl,e,C,dx,_,rfl,st,t3,e1 _,upd_same,?_,?_⟩
  · have:=length_putF "name" n [(("part":Str),p)]
    simp only [List.length_cons,List.length_nil] at this
    omega
  rw [upd_upd]
  refine ⟨_,rfl,_,rfl,e,C,dx,_,rfl,st,t4,e1 _,upd_same,?_,?_⟩
  · have h1:=length_putF "name" n [(("part":Str),p)]
    have h2:=length_putF "due" u (putF "name" n [(("part":Str),p)])
    simp only [List.length_cons,List.length_nil] at h1
    omega
  rw [upd_upd]
  refine q dx _ ne.symm (fun b o hb hbo => ?_) (e1 _) upd_same
  rw [upd_ne (ne_of_none hbo hdx),upd_ne hb]
  exact hbo
end
noncomputable def look {α:Type} (m:List (Str × α)) (z:Str):Option α:=(m.find? fun q => decide (q.1 = z)).map (·.2)
theorem look_val {α:Type} {R:V → α → Prop}:∀ {kvs:List (Key × V)} {m:List (Str × α)},PkAt R kvs m → ∀ z:Str,(valV kvs (.inr z) = none ∧ look m z = none) ∨ ∃ v x,valV kvs (.inr z) = some v ∧ look m z = some x ∧ R v x
  | _,_,.nil,z => .inl ⟨rfl,rfl⟩
  | p :: ps,q :: qs,.cons ⟨h1,h2⟩ r,z => by
    unfold look valV
    rw [List.find?_cons,List.find?_cons]
    by_cases e:q.1 = z
    · rw [decide_eq_true (show p.1 = Sum.inr z by rw [h1,e]),decide_eq_true e]
      exact .inr ⟨_,_,rfl,rfl,h2⟩
    · rw [decide_eq_false (show ¬ p.1 = Sum.inr z by rw [h1]; exact fun z' => e (Sum.inr.inj z')),decide_eq_false e]
      exact look_val r z
noncomputable def givenF (m1:List (Str × Kd)) (hs:List Str):Str × Str → Option Kd:=fun n => if n.1 = "" ∧ n.2 ∈ hs then look m1 n.2 else none
noncomputable def putFn (G:Str × Str → Option Kd) (f:List Kd × Kd):List Kd × Kd:=(f.1.map (Kd.put G),Kd.put G f.2)
noncomputable abbrev Gf (m1 n1:List (Str × Kd)):Str × Str → Option Kd:=givenF m1 (hidL n1)
noncomputable def no1 (m1 n1:List (Str × Kd)):Option (Str × PyData × PyData):=(n1.find? fun q => (look m1 q.1).isNone).map fun q => (q.1,Kd.dat q.2,.none)
noncomputable def no3 (G:Str × Str → Option Kd) (m1 n1:List (Str × Kd)):Option (Str × PyData × PyData):=(n1.find? fun q => decide (look m1 q.1 ≠ some (Kd.put G q.2))).map fun q => (q.1,Kd.dat (Kd.put G q.2),((look m1 q.1).map Kd.dat).getD .none)
noncomputable def no4 (G:Str × Str → Option Kd) (m2 n2:List (Str × (List Kd × Kd))):Option (Str × PyData × PyData):=(n2.find? fun q => decide (look m2 q.1 ≠ some (putFn G q.2))).map fun q => (q.1,Fn.dat (putFn G q.2),((look m2 q.1).map Fn.dat).getD .none)
noncomputable def fitR (m1 n1:List (Str × Kd)) (m2 n2:List (Str × (List Kd × Kd))):Option (Str × PyData × PyData):=(no1 m1 n1).or ((no3 (Gf m1 n1) m1 n1).or (no4 (Gf m1 n1) m2 n2))
noncomputable def XOk (K:PySem.W.Frag) (H:Hp) (d:Option Addr) (part:V) (r:Str × PyData × PyData):Prop:=∃ dx u f,d = some dx ∧ H dx = some (.ext (xdAt dx (nfs part (.str r.1) u f))) ∧ Dat K H u r.2.1 ∧ Dat K H f r.2.2
theorem find_take {α:Type} {p:α → Bool}:∀ {l:List α} {i:Nat} {x:α},l[i]? = some x → p x = true → (∀ y ∈ l.take i,p y = false) → l.find? p = some x
  | a :: l,0,x,h,hp,_ => by
    cases h
    rw [List.find?_cons,hp]
  | a :: l,i + 1,x,h,hp,hn => by
    rw [List.find?_cons,hn a (by rw [List.take_succ_cons]; exact .head _)]
    exact find_take (l:=l) (i:=i) h hp fun y hy => hn y (by rw [List.take_succ_cons]; exact .tail _ hy)
theorem find_no {α:Type} {p:α → Bool} {l:List α} (h:∀ y ∈ l,p y = false):l.find? p = none:=List.find?_eq_none.mpr fun x hx => by rw [h x hx]; decide
structure FaceA (K:PySem.W.Frag) (H:Hp) (CF fa:Addr) (dx d1 d2:Addr) (fs:List (Str × V)) (kv1 kv2:List (Key × V)) (m1:List (Str × Kd)) (m2:List (Str × (List Kd × Kd))):Prop where
  obj:H fa = some (.ins CF dx fs)
  fk:fs.lookup ("kinds":Str) = some (.ref d1)
  ff:fs.lookup ("funs":Str) = some (.ref d2)
  h1:H d1 = some (.dK kv1)
  h2:H d2 = some (.dK kv2)
  p1:PkAt (KdAt K H) kv1 m1
  p2:PkAt (FunAt K H) kv2 m2
  nh:fs.lookup ("hidden":Str) = none
  np:fs.lookup ("put":Str) = none
theorem FaceA.same {K:PySem.W.Frag} {H H':Hp} {CF fa dx d1 d2:Addr} {fs:List (Str × V)} {kv1 kv2:List (Key × V)} {m1:List (Str × Kd)} {m2:List (Str × (List Kd × Kd))} (F:FaceA K H CF fa dx d1 d2 fs kv1 kv2 m1 m2) (s:Same H H'):FaceA K H' CF fa dx d1 d2 fs kv1 kv2 m1 m2 :=
  ⟨s _ _ F.obj,F.fk,F.ff,s _ _ F.h1,s _ _ F.h2,F.p1.imp fun _ _ h => h.same s,F.p2.imp fun _ _ h => h.keep fun _ _ t => s.tup t,F.nh,F.np⟩
structure Walk (K:PySem.W.Frag) (H H3:Hp) (d:Addr) (o:Obj) (kv:List (Key × V)):Prop where
  old:∀ b u,H b = some u → b ≠ d → H3 b = some u
  fz:H3 d = some (.frz o (.dK kv))
  tup:∀ a xs,SqT K H a xs → SqT K H3 a xs
theorem Walk.start {K:PySem.W.Frag} {H:Hp} {d:Addr} {o:Obj} {kv:List (Key × V)} (h:H d = some (.dK kv)):Walk K H (upd H d (.frz o (.dK kv))) d o kv:=⟨fun b u hb nb => by rw [upd_ne nb]; exact hb,upd_same,fun a xs t => sqt_dk h t⟩
theorem Walk.go {K:PySem.W.Frag} {H H3 H4:Hp} {d:Addr} {o:Obj} {kv:List (Key × V)} (w:Walk K H H3 d o kv) (s:Same H3 H4):Walk K H H4 d o kv:=⟨fun b u hb nb => s _ _ (w.old b u hb nb),s _ _ w.fz,fun a xs t => s.tup (w.tup a xs t)⟩
theorem Walk.rd {K:PySem.W.Frag} {H H3:Hp} {d:Addr} {o:Obj} {kv:List (Key × V)} (w:Walk K H H3 d o kv) (h:H d = some (.dK kv)) {a:Addr} {kw:List (Key × V)} (ha:H a = some (.dK kw)):Rd H3 a (.dK kw):=by
  by_cases e:a = d
  · subst e
    rw [h] at ha
    cases ha
    exact .inr ⟨o,w.fz⟩
  · exact .inl (w.old a _ ha e)
theorem Walk.thaw {K:PySem.W.Frag} {H H3:Hp} {d:Addr} {o:Obj} {kv:List (Key × V)} (w:Walk K H H3 d o kv) (h:H d = some (.dK kv)):Same H (upd H3 d (.dK kv)):=fun b u hb => by
  by_cases e:b = d
  · rw [e] at hb ⊢
    rw [h] at hb
    cases hb
    exact upd_same
  · rw [upd_ne e]
    exact w.old b u hb e
theorem flown {K:PySem.W.Frag} {H H3 H5:Hp} {d e dx:Addr} {o:Obj} {kv:List (Key × V)} {part u f:V} {r:Str × PyData × PyData} (w:Walk K H H3 d o kv) (h:H d = some (.dK kv)) (he:H3 e = none) (ne:dx ≠ e)
    (k5:∀ b o',b ≠ e → upd H3 e (.ext (excRaw e CN none)) b = some o' → H5 b = some o') (hx:H5 dx = some (.ext (xdAt dx (nfs part (.str r.1) u f)))) (hu:∀ H',(∀ a xs,SqT K H3 a xs → SqT K H' a xs) → Dat K H' u r.2.1) (hf:∀ H',(∀ a xs,SqT K H3 a xs → SqT K H' a xs) → Dat K H' f r.2.2) :
    H5 d = some (.frz o (.dK kv)) ∧ Same H (cut (upd H5 d (.dK kv)) e) ∧ XOk K (cut (upd H5 d (.dK kv)) e) (some dx) part r:=by
  have old:∀ b o',H3 b = some o' → H5 b = some o':=fun b o' hb => k5 b o' (fun z => by rw [z,he] at hb; cases hb) (by rw [upd_ne (fun z => by rw [z,he] at hb; cases hb)]; exact hb)
  have hd5:=old _ _ w.fz
  have hxd:dx ≠ d:=fun z => by rw [z,hd5] at hx; cases hx
  have s5:Same H3 H5:=fun b o' hb => old b o' hb
  have w5:=w.go s5
  have sm:Same H (cut (upd H5 d (.dK kv)) e):=fun b o' hb => by
    have nb:b ≠ e:=fun z => by
      subst z
      by_cases q:b = d
      · rw [q,w.fz] at he
        cases he
      · rw [w.old b o' hb q] at he
        cases he
    rw [cut_ne nb]
    exact w5.thaw h b o' hb
  have kt:∀ a xs,SqT K H3 a xs → SqT K (cut (upd H5 d (.dK kv)) e) a xs:=fun a xs t => by
    rcases t with (t | ⟨o',t⟩) | t
    · refine .inl (.inl ?_)
      rw [cut_ne (fun z => by rw [z,he] at t; cases t),upd_ne (fun z => by rw [z,w.fz] at t; cases t)]
      exact old _ _ t
    · refine .inl (.inr ⟨o',?_⟩)
      rw [cut_ne (fun z => by rw [z,he] at t; cases t),upd_ne (fun z => by rw [z,w.fz] at t; cases t)]
      exact old _ _ t
    · exact .inr t
  refine ⟨hd5,sm,dx,u,f,rfl,?_,hu _ kt,hf _ kt⟩
  rw [cut_ne ne,upd_ne hxd]
  exact hx
end K29
namespace K29
open PySem L2 Kk
theorem nofz' {H H1:Hp} {d:Addr} {kv:List (Key × V)} (s:Same H H1) (h:H1 d = some (.dK kv)):∀ o' u',H d ≠ some (.frz o' u'):=fun o' u' e => by
  rw [s _ _ e] at h
  cases h
noncomputable def SmK (q:Str × Kd):Prop:=(PyData.strOk q.1 = true ∧ q.1.length ≤ 14) ∧ Kd.sm q.2 ∧ q.2.words ≤ 60 ∧ Kd.depth q.2 ≤ 20
noncomputable def SmF (q:Str × (List Kd × Kd)):Prop:=(PyData.strOk q.1 = true ∧ q.1.length ≤ 14) ∧ q.2.1.length ≤ 4 ∧ ∀ k ∈ q.2.2 :: q.2.1,Kd.sm k ∧ k.words ≤ 60 ∧ Kd.depth k ≤ 20
noncomputable abbrev ftN:List Str:=["had","wanted","part","word","kind","given","due","fun","found"]
noncomputable abbrev ftP:List Str:=["had","wanted","part"]
noncomputable abbrev nfP:List Str:=["self","part","name","due","found"]
section
variable {P:Program} {w:World} {K:PySem.W.Frag} {mg:Str → Option Value} {base:Heap}
theorem scFitted:FnScope ftN ftP (defScope sFitted):=⟨rfl,rfl,rfl,by decide +kernel,rfl,by decide +kernel,by decide +kernel⟩
set_option maxHeartbeats 0 in
theorem ft1 {f CF CN fi:Addr} {fdi:FuncData} (MN:MkX K CN fi) (GI:FnOk P w K mg base CX0 1 fi fdi nfP (spInitN K CN)) (bI:Binds K fdi nfP []) (mN:mg "NoFit" = some (.ref CN)) (cF:Cls K CF) (nK:NoAttr K CF "kinds")
    {cdv:Value} {A:Around} {outer:List Env} {s:Shared} {H:Hp} {E:XK} (hr:Room 2 (A.deeper (PyProof.Rows.envOfC "fitted" (defScope sFitted) s.heap.objs.size f cdv))) :
    ∃ t,PS (cxOf (CX1 P w) P w K mg base ftN "fitted" (defScope sFitted) f cdv A outer s H E) ((defBody sFitted).getD 0 (.Pass ⟨0,0,0,0⟩)) t ∧
      ∀ (D:Ends) (H1:Hp) (ha wa dxh dh1 dh2 dxw dw1 dw2:Addr) (fsh fsw:List (Str × V)) (kh1 kh2 kw1 kw2:List (Key × V)) (m1 n1:List (Str × Kd)) (m2 n2:List (Str × (List Kd × Kd))) (pz:Str),Same H H1 →
        FaceA K H1 CF ha dxh dh1 dh2 fsh kh1 kh2 m1 m2 → FaceA K H1 CF wa dxw dw1 dw2 fsw kw1 kw2 n1 n2 → n1.length ≤ 100 → (∀ q ∈ n1,SmK q) → PyData.strOk pz = true ∧ pz.length ≤ 14 →
        (∀ r,no1 m1 n1 = some r → ∀ d H',Same H1 H' → XOk K H' d (.str pz) r → E (.ref CN) d H') →
        (no1 m1 n1 = none → ∀ (H4:Hp) (y3 y4:Option V),Same H1 H4 → D.nx [some (.ref ha),some (.ref wa),some (.str pz),y3,y4,none,none,none,none] H4) →
        t D [some (.ref ha),some (.ref wa),some (.str pz),none,none,none,none,none,none] H1:=by
  have hu:=hu_of hr
  refine ⟨_,ps_thaw (ps_for PassesOwn.leaving rfl (pi_items (pe_fld (pv 1) rfl)) (pg_tup rfl (pgs_cons (pg_name (i:=3) scFitted.nd rfl (Or.inl rfl)) (pgs_cons (pg_name (i:=4) scFitted.nd rfl (Or.inl rfl)) pgs_nil)))
      (pss_one (ps_if (pt_cmp (pc_dnotin hu (pv 3) (pe_fld (pv 0) rfl)) (by with_unfolding_all rfl)) (pss_one (ps_raiseT MN GI hr bI rfl mN (pa_cons (pv 2) (pa_cons (pv 3) (pa_cons (pv 4) (pa_cons pe_non pa_nil)))))) pss_nil))),?_⟩
  intro D H1 ha wa dxh dh1 dh2 dxw dw1 dw2 fsh fsw kh1 kh2 kw1 kw2 m1 n1 m2 n2 pz s1 FH FW h100 hsm hpt qE q
  have hlen:kw1.length = n1.length:=Paired.length FW.p1
  refine ⟨_,rfl,wa,CF,dxw,fsw,_,rfl,FW.obj,cF,nK,FW.fk,dw1,kw1,rfl,FW.h1,fun o => ?_⟩
  refine for_items (fun i σ H3 => ∃ (y3 y4:Option V),σ = [some (.ref ha),some (.ref wa),some (.str pz),y3,y4,none,none,none,none] ∧ Walk K H1 H3 dw1 o kw1 ∧ ∀ y ∈ n1.take i,(look m1 y.1).isNone = false) ?_ ?_ ?_ ?_
  · exact ⟨none,none,rfl,Walk.start FW.h1,fun y hy => by cases hy⟩
  · rintro i σ H3 _ ⟨_,_,_,h,_⟩
    exact h.fz
  · rintro i p a σ H3 hp hna ⟨y3,y4,rfl,wk,hall⟩
    obtain ⟨⟨z,k⟩,hq,ez,hkz⟩:=pair_get FW.p1 hp
    obtain ⟨pk,pw⟩:=p
    replace ez:pk = .inr z:=ez
    replace hkz:KdAt K H1 pw k:=hkz
    subst ez
    obtain ⟨⟨z1,z2⟩,k1,k2,k3⟩:(PyData.strOk z = true ∧ z.length ≤ 14) ∧ Kd.sm k ∧ k.words ≤ 60 ∧ Kd.depth k ≤ 20:=hsm (z,k) (List.mem_of_getElem? hq)
    have ea:=same_new hna (.tup [kV (.inr z),pw])
    have wk4:=wk.go ea
    refine ⟨a,_,rfl,SqT.of upd_same,rfl,_,_,rfl,_,_,rfl,rfl,?_⟩
    have haw:ha ≠ dw1:=fun e => by
      have:=FH.obj
      rw [e,FW.h1] at this
      cases this
    refine ⟨_,rfl,_,rfl,ha,CF,dxh,fsh,_,rfl,wk4.old _ _ FH.obj haw,cF,nK,FH.fk,dh1,_,rfl,.inl ⟨kh1,.inr z,wk4.rd FW.h1 FH.h1,rfl,rfl⟩,_,rfl,ite2 (fun c => ?_) (fun c => ?_)⟩
    · have c':(!(valV kh1 (.inr z)).isSome) = true:=c
      have hno:look m1 z = none:=by
        rcases look_val FH.p1 z with ⟨_,h2⟩ | ⟨v,x,h1,_⟩
        · exact h2
        · rw [h1] at c'
          cases c'
      have hR:no1 m1 n1 = some (z,Kd.dat k,.none):=by
        unfold no1
        rw [find_take hq (by show (look m1 z).isNone = true; rw [hno]; rfl) hall]
        rfl
      refine ⟨_,rfl,_,rfl,_,rfl,(by show 4 ≤ sizeLine; decide),fun e he => ?_⟩
      have kz4:KdAt K (upd H3 a (.tup [kV (.inr z),pw])) pw k:=kd_keep wk4.tup hkz
      have se:=same_new he (.ext (excRaw e CN none))
      refine ⟨e,.str pz,.str z,pw,.non,rfl,upd_same,fits_str hpt.1 (by omega),fits_str z1 (by omega),(fits_kd kz4 k1 (by omega) (by omega)).same se,fits_non,fun dx H5 ne k5 he5 hx5 => ⟨rfl,some dx,dw1,o,.dK kw1,he5,?_⟩⟩
      obtain ⟨g1,g2,g3⟩:=flown (CN:=CN) (r:=(z,Kd.dat k,.none)) wk4 FW.h1 he ne k5 hx5 (fun H' kt => kd_dat (kd_keep kt kz4)) (fun H' _ => .non)
      exact ⟨g1,nofz' s1 FW.h1,qE _ hR _ _ g2 g3⟩
    · refine ⟨_,_,rfl,wk4,fun y hy => ?_⟩
      rw [List.take_add_one,hq] at hy
      rcases List.mem_append.mp hy with h | h
      · exact hall y h
      · obtain rfl:y = (z,k):=by simpa using h
        have c':¬ (!(valV kh1 (.inr z)).isSome) = true:=c
        rcases look_val FH.p1 z with ⟨h1,_⟩ | ⟨v,x,_,h2,_⟩
        · rw [h1] at c'
          exact absurd rfl c'
        · show (look m1 z).isNone = false
          rw [h2]
          rfl
  · rintro σ H3 ⟨y3,y4,rfl,wk,hall⟩
    refine ⟨dw1,o,.dK kw1,wk.fz,nofz' s1 FW.h1,q ?_ _ y3 y4 (wk.thaw FW.h1)⟩
    rw [hlen,List.take_length] at hall
    unfold no1
    rw [find_no hall]
    rfl
end
end K29
namespace K29
open PySem L2 Kk
theorem sm_put {G:Str × Str → Option Kd} (hG:∀ n k,G n = some k → Kd.sm k):∀ {k:Kd},Kd.sm k → Kd.sm (Kd.put G k)
  | .num _,h => h
  | .name q t,h => by
    show Kd.sm ((G (q,t)).getD (.name q t))
    cases e:G (q,t) with
    | none => exact h
    | some k => exact hG _ _ e
  | .pair a b,⟨h1,h2⟩ => ⟨sm_put hG h1,sm_put hG h2⟩
theorem GvAt.keep {K:PySem.W.Frag} {H H':Hp} {kvs:List (List Key × V)} {G:Str × Str → Option Kd} (e:∀ a xs,SqT K H a xs → SqT K H' a xs) (h:GvAt K H kvs G):GvAt K H' kvs G:=fun nn => by
  rcases h nn with h | ⟨v,k',h1,h2,h3⟩
  · exact .inl h
  · exact .inr ⟨v,k',h1,h2,kd_keep e h3⟩
section
variable {P:Program} {w:World} {K:PySem.W.Frag} {mg:Str → Option Value} {base:Heap}
set_option maxHeartbeats 0 in
theorem ft3 {n:Nat} {f fp CF CN fi:Addr} {fdp fdi:FuncData} (GP:FnOk P w K mg base CX0 n fp fdp ["kind","given"] (spPut K n)) (bP:Binds K fdp ["kind","given"] []) (kP:PySem.W.keepIn K (.ref fp) = true) (mP:mg "put" = some (.ref fp))
    (MN:MkX K CN fi) (GI:FnOk P w K mg base CX0 1 fi fdi nfP (spInitN K CN)) (bI:Binds K fdi nfP []) (mN:mg "NoFit" = some (.ref CN)) (cF:Cls K CF) (nK:NoAttr K CF "kinds")
    {cdv:Value} {A:Around} {outer:List Env} {s:Shared} {H:Hp} {E:XK} (hr:Room (n + 2) (A.deeper (PyProof.Rows.envOfC "fitted" (defScope sFitted) s.heap.objs.size f cdv))) :
    ∃ t,PS (cxOf (CX1 P w) P w K mg base ftN "fitted" (defScope sFitted) f cdv A outer s H E) ((defBody sFitted).getD 3 (.Pass ⟨0,0,0,0⟩)) t ∧
      ∀ (D:Ends) (H1:Hp) (ha wa dxh dh1 dh2 dxw dw1 dw2 g:Addr) (fsh fsw:List (Str × V)) (kh1 kh2 kw1 kw2:List (Key × V)) (m1 n1:List (Str × Kd)) (m2 n2:List (Str × (List Kd × Kd))) (kvs:List (List Key × V)) (G:Str × Str → Option Kd) (pz:Str) (x3 x4:Option V),Same H H1 →
        FaceA K H1 CF ha dxh dh1 dh2 fsh kh1 kh2 m1 m2 → FaceA K H1 CF wa dxw dw1 dw2 fsw kw1 kw2 n1 n2 → n1.length ≤ 100 → (∀ q ∈ m1,SmK q) → (∀ q ∈ n1,SmK q) → (∀ q ∈ n1,Kd.depth q.2 ≤ n) → (∀ n k,G n = some k → Kd.sm k) → (∀ q ∈ n1,(Kd.put G q.2).words ≤ 4000 ∧ Kd.depth (Kd.put G q.2) ≤ 50) → PyData.strOk pz = true ∧ pz.length ≤ 14 →
        H1 g = some (.dT kvs) → GvAt K H1 kvs G → no1 m1 n1 = none →
        (∀ r,no3 G m1 n1 = some r → ∀ d H',Same H1 H' → XOk K H' d (.str pz) r → E (.ref CN) d H') →
        (no3 G m1 n1 = none → ∀ (H4:Hp) (y3 y4 y6:Option V),Same H1 H4 → D.nx [some (.ref ha),some (.ref wa),some (.str pz),y3,y4,some (.ref g),y6,none,none] H4) →
        t D [some (.ref ha),some (.ref wa),some (.str pz),x3,x4,some (.ref g),none,none,none] H1:=by
  have hu:=hu_of hr
  have hu64:=hr.units
  have hr0:Room n _:=hr.mono (by omega)
  have hr2:Room 2 _:=hr.mono (by omega)
  refine ⟨_,ps_thaw (ps_for PassesOwn.leaving rfl (pi_items (pe_fld (pv 1) rfl)) (pg_tup rfl (pgs_cons (pg_name (i:=3) scFitted.nd rfl (Or.inl rfl)) (pgs_cons (pg_name (i:=4) scFitted.nd rfl (Or.inl rfl)) pgs_nil)))
      (pss_cons (ps_set (i:=6) scFitted.nd rfl (Or.inl rfl) (pe_call GP hr0 rfl mP kP bP .nil pass0 (pa_cons (pv 4) (pa_cons (pv 5) pa_nil))))
      (pss_one (ps_if (pt_cmpR (neK (K:=K) rfl hu64) (pv 6) (pe_dget hu (pe_fld (pv 0) rfl) (pv 3) (fun _ _ => rfl)) (nomark _)) (pss_one (ps_raiseT MN GI hr2 bI rfl mN (pa_cons (pv 2) (pa_cons (pv 3) (pa_cons (pv 6) (pa_cons (pe_dget hu (pe_fld (pv 0) rfl) (pv 3) (fun _ _ => rfl)) pa_nil)))))) pss_nil)))),?_⟩
  intro D H1 ha wa dxh dh1 dh2 dxw dw1 dw2 g fsh fsw kh1 kh2 kw1 kw2 m1 n1 m2 n2 kvs G pz x3 x4 s1 FH FW h100 hsmM hsm hdn hGs hGw hpt hg hgv hn1 qE q
  have hlen:kw1.length = n1.length:=Paired.length FW.p1
  have gne:g ≠ dw1:=fun e => by rw [e,FW.h1] at hg; cases hg
  have haw:ha ≠ dw1:=fun e => by
    have:=FH.obj
    rw [e,FW.h1] at this
    cases this
  refine ⟨_,rfl,wa,CF,dxw,fsw,_,rfl,FW.obj,cF,nK,FW.fk,dw1,kw1,rfl,FW.h1,fun o => ?_⟩
  refine for_items (fun i σ H3 => ∃ (y3 y4 y6:Option V),σ = [some (.ref ha),some (.ref wa),some (.str pz),y3,y4,some (.ref g),y6,none,none] ∧ Walk K H1 H3 dw1 o kw1 ∧ ∀ y ∈ n1.take i,decide (look m1 y.1 ≠ some (Kd.put G y.2)) = false) ?_ ?_ ?_ ?_
  · exact ⟨x3,x4,none,rfl,Walk.start FW.h1,fun y hy => by cases hy⟩
  · rintro i σ H3 _ ⟨_,_,_,_,h,_⟩
    exact h.fz
  · rintro i p a σ H3 hp hna ⟨y3,y4,y6,rfl,wk,hall⟩
    obtain ⟨⟨z,k⟩,hq,ez,hkz⟩:=pair_get FW.p1 hp
    obtain ⟨pk,pw⟩:=p
    replace ez:pk = .inr z:=ez
    replace hkz:KdAt K H1 pw k:=hkz
    subst ez
    have hm:=List.mem_of_getElem? hq
    obtain ⟨⟨z1,z2⟩,k1,k2,k3⟩:(PyData.strOk z = true ∧ z.length ≤ 14) ∧ Kd.sm k ∧ k.words ≤ 60 ∧ Kd.depth k ≤ 20:=hsm (z,k) hm
    have hdk:Kd.depth k ≤ n:=hdn (z,k) hm
    obtain ⟨w1,w2⟩:(Kd.put G k).words ≤ 4000 ∧ Kd.depth (Kd.put G k) ≤ 50:=hGw (z,k) hm
    have smP:=sm_put hGs k1
    obtain ⟨v,x,hv,hx,hvx⟩:∃ v x,valV kh1 (.inr z) = some v ∧ look m1 z = some x ∧ KdAt K H1 v x:=by
      rcases look_val FH.p1 z with ⟨_,h2⟩ | h
      · unfold no1 at hn1
        rw [Option.map_eq_none_iff,List.find?_eq_none] at hn1
        exact absurd (by show (look m1 z).isNone = true; rw [h2]; rfl) (hn1 _ hm)
      · exact h
    have hxm:∃ q ∈ m1,q.2 = x:=by
      unfold look at hx
      obtain ⟨q,hq1,hq2⟩:=Option.map_eq_some_iff.mp hx
      exact ⟨q,List.mem_of_find?_eq_some hq1,hq2⟩
    obtain ⟨qx,hqx,rfl⟩:=hxm
    obtain ⟨_,sx,_,dx20⟩:=hsmM qx hqx
    have ea:=same_new hna (.tup [kV (.inr z),pw])
    have wk4:=wk.go ea
    refine ⟨a,_,rfl,SqT.of upd_same,rfl,_,_,rfl,_,_,rfl,rfl,?_⟩
    refine ⟨_,rfl,_,rfl,pw,g,k,kvs,G,rfl,kd_keep wk4.tup hkz,hdk,wk4.old _ _ hg gne,GvAt.keep wk4.tup hgv,fun H5 u s5 hu5 => ?_⟩
    have wk5:=wk4.go s5
    have hvx5:KdAt K H5 v qx.2:=kd_keep wk5.tup hvx
    refine ⟨_,rfl,_,rfl,ha,CF,dxh,fsh,_,rfl,wk5.old _ _ FH.obj haw,cF,nK,FH.fk,_,rfl,dh1,v,rfl,.inl ⟨kh1,.inr z,wk5.rd FW.h1 FH.h1,rfl,hv.symm⟩,_,_,kd_dat hu5,kd_dat hvx5,kd_shaped (sm_ok smP) (by omega),kd_shaped (sm_ok sx) (by omega),_,rfl,ite2 (fun c => ?_) (fun c => ?_)⟩
    · have c':(!PyData.eqv (Kd.dat (Kd.put G k)) (Kd.dat qx.2)) = true:=c
      rw [eqv_dat,Bool.not_eq_true',decide_eq_false_iff_not] at c'
      have hR:no3 G m1 n1 = some (z,Kd.dat (Kd.put G k),Kd.dat qx.2):=by
        unfold no3
        rw [find_take hq (decide_eq_true (by show look m1 z ≠ some (Kd.put G k); rw [hx]; exact fun z' => c' (Option.some.inj z').symm)) hall]
        show some (z,Kd.dat (Kd.put G k),((look m1 z).map Kd.dat).getD .none) = _
        rw [hx]
        rfl
      refine ⟨_,rfl,_,rfl,_,rfl,_,rfl,ha,CF,dxh,fsh,_,rfl,wk5.old _ _ FH.obj haw,cF,nK,FH.fk,_,rfl,dh1,v,rfl,.inl ⟨kh1,.inr z,wk5.rd FW.h1 FH.h1,rfl,hv.symm⟩,(by show 4 ≤ sizeLine; decide),fun e he => ?_⟩
      have se:=same_new he (.ext (excRaw e CN none))
      refine ⟨e,.str pz,.str z,u,v,rfl,upd_same,fits_str hpt.1 (by omega),fits_str z1 (by omega),(fits_kd hu5 smP w1 (by omega)).same se,(fits_kd hvx5 sx (by omega) (by omega)).same se,fun dx H6 ne k6 he6 hx6 => ⟨rfl,some dx,dw1,o,.dK kw1,he6,?_⟩⟩
      obtain ⟨g1,g2,g3⟩:=flown (CN:=CN) (r:=(z,Kd.dat (Kd.put G k),Kd.dat qx.2)) wk5 FW.h1 he ne k6 hx6 (fun H' kt => kd_dat (kd_keep kt hu5)) (fun H' kt => kd_dat (kd_keep kt hvx5))
      exact ⟨g1,nofz' s1 FW.h1,qE _ hR _ _ g2 g3⟩
    · refine ⟨_,_,_,rfl,wk5,fun y hy => ?_⟩
      rw [List.take_add_one,hq] at hy
      rcases List.mem_append.mp hy with h | h
      · exact hall y h
      · obtain rfl:y = (z,k):=by simpa using h
        have c':¬ (!PyData.eqv (Kd.dat (Kd.put G k)) (Kd.dat qx.2)) = true:=c
        rw [eqv_dat,Bool.not_eq_true',Bool.not_eq_false,decide_eq_true_iff] at c'
        refine decide_eq_false fun hne => hne ?_
        show look m1 z = some (Kd.put G k)
        rw [hx,c']
  · rintro σ H3 ⟨y3,y4,y6,rfl,wk,hall⟩
    refine ⟨dw1,o,.dK kw1,wk.fz,nofz' s1 FW.h1,q ?_ _ y3 y4 y6 (wk.thaw FW.h1)⟩
    rw [hlen,List.take_length] at hall
    unfold no3
    rw [find_no hall]
    rfl
end
end K29
namespace K29
open PySem L2 Kk
theorem fn_shaped {f:List Kd × Kd} (h:∀ k ∈ f.2 :: f.1,Kd.ok k ∧ Kd.depth k ≤ 50) (hl:f.1.length ≤ 4):SeqAt.shaped (Fn.dat f) = true:=by
  obtain ⟨h1,h2⟩:=h f.2 (.head _)
  have c1:PyData.canLayAll0 (f.1.map Kd.dat) = true:=by
    have:∀ ks:List Kd,(∀ k ∈ ks,Kd.ok k) → PyData.canLayAll0 (ks.map Kd.dat) = true:=fun ks => by
      induction ks with
      | nil => intro _; simp [PyData.canLayAll0]
      | cons k ks ih =>
        intro hk
        rw [List.map_cons]
        simp only [PyData.canLayAll0,Bool.and_eq_true]
        exact ⟨lay_kd (hk k (.head _)),ih fun j hj => hk j (.tail _ hj)⟩
    exact this _ fun k hk => (h k (.tail _ hk)).1
  have d1:PyData.depthAll (f.1.map Kd.dat) ≤ 50:=by
    have:∀ ks:List Kd,(∀ k ∈ ks,Kd.depth k ≤ 50) → PyData.depthAll (ks.map Kd.dat) ≤ 50:=fun ks => by
      induction ks with
      | nil => intro _; simp [PyData.depthAll]
      | cons k ks ih =>
        intro hk
        rw [List.map_cons]
        simp only [PyData.depthAll]
        exact Nat.max_le.mpr ⟨Nat.le_trans (deep_kd k) (hk k (.head _)),ih fun j hj => hk j (.tail _ hj)⟩
    exact this _ fun k hk => (h k (.tail _ hk)).2
  have h3:=lay_kd h1
  have h4:=deep_kd f.2
  unfold SeqAt.shaped
  have e1:PyData.canLay0 (Fn.dat f) = true:=by
    unfold Fn.dat
    simp only [PyData.canLay0,PyData.canLayAll0,c1,h3,Bool.and_self]
  have e2:PyData.depth (Fn.dat f) ≤ 64:=by
    unfold Fn.dat
    simp only [PyData.depth,PyData.depthAll]
    omega
  rw [e1,decide_eq_true e2]
  rfl
theorem eqv_kds:∀ (a b:List Kd),PyData.eqvAll (a.map Kd.dat) (b.map Kd.dat) = decide (a = b)
  | [],[] => by simp [PyData.eqvAll]
  | [],_ :: _ => by simp [PyData.eqvAll]
  | _ :: _,[] => by simp [PyData.eqvAll]
  | a :: as,b :: bs => by
    rw [List.map_cons,List.map_cons,eqvA_cons,eqv_dat,eqv_kds as bs]
    by_cases h:a = b
    · by_cases h2:as = bs
      · simp [h,h2]
      · simp [h2]
    · simp [h]
theorem eqv_fn (f g:List Kd × Kd):PyData.eqv (Fn.dat f) (Fn.dat g) = decide (f = g):=by
  unfold Fn.dat
  rw [eqv_tup,eqvA_cons,eqvA_cons,eqvA_nil,eqv_tup,eqv_kds,eqv_dat]
  obtain ⟨a,b⟩:=f
  obtain ⟨c,d⟩:=g
  by_cases h:a = c
  · by_cases h2:b = d
    · simp [h,h2]
    · simp [h2]
  · simp [h]
theorem eqv_fn_none (f:List Kd × Kd):PyData.eqv (Fn.dat f) .none = false:=by
  unfold Fn.dat
  simp [PyData.eqv]
theorem none_shaped:SeqAt.shaped .none = true:=by decide +kernel
section
variable {P:Program} {w:World} {K:PySem.W.Frag} {mg:Str → Option Value} {base:Heap}
set_option maxHeartbeats 0 in
theorem ft4 {n:Nat} {f fp CF CN fi:Addr} {fdp fdi:FuncData} (GP:FnOk P w K mg base CX0 (n + 1) fp fdp ["fun","given"] (spPutFun K n)) (bP:Binds K fdp ["fun","given"] []) (kP:PySem.W.keepIn K (.ref fp) = true) (mP:mg "put_in_fun" = some (.ref fp))
    (MN:MkX K CN fi) (GI:FnOk P w K mg base CX0 1 fi fdi nfP (spInitN K CN)) (bI:Binds K fdi nfP []) (mN:mg "NoFit" = some (.ref CN)) (cF:Cls K CF) (nF:NoAttr K CF "funs")
    {cdv:Value} {A:Around} {outer:List Env} {s:Shared} {H:Hp} {E:XK} (hr:Room (n + 2) (A.deeper (PyProof.Rows.envOfC "fitted" (defScope sFitted) s.heap.objs.size f cdv))) :
    ∃ t,PS (cxOf (CX1 P w) P w K mg base ftN "fitted" (defScope sFitted) f cdv A outer s H E) ((defBody sFitted).getD 4 (.Pass ⟨0,0,0,0⟩)) t ∧
      ∀ (D:Ends) (H1:Hp) (ha wa dxh dh1 dh2 dxw dw1 dw2 g:Addr) (fsh fsw:List (Str × V)) (kh1 kh2 kw1 kw2:List (Key × V)) (m1 n1:List (Str × Kd)) (m2 n2:List (Str × (List Kd × Kd))) (kvs:List (List Key × V)) (G:Str × Str → Option Kd) (pz:Str) (x3 x4 x6:Option V),Same H H1 →
        FaceA K H1 CF ha dxh dh1 dh2 fsh kh1 kh2 m1 m2 → FaceA K H1 CF wa dxw dw1 dw2 fsw kw1 kw2 n1 n2 → n2.length ≤ 100 → (∀ q ∈ m2,SmF q) → (∀ q ∈ n2,SmF q) → (∀ q ∈ n2,∀ k ∈ q.2.2 :: q.2.1,Kd.depth k ≤ n) → (∀ n k,G n = some k → Kd.sm k) → (∀ q ∈ n2,sumK ((putFn G q.2).2 :: (putFn G q.2).1) ≤ 4600 ∧ ∀ k ∈ (putFn G q.2).2 :: (putFn G q.2).1,Kd.depth k ≤ 50) → PyData.strOk pz = true ∧ pz.length ≤ 14 →
        H1 g = some (.dT kvs) → GvAt K H1 kvs G →
        (∀ r,no4 G m2 n2 = some r → ∀ d H',Same H1 H' → XOk K H' d (.str pz) r → E (.ref CN) d H') →
        (no4 G m2 n2 = none → ∀ (H4:Hp) (y3 y6 y7 y8:Option V),Same H1 H4 → D.nx [some (.ref ha),some (.ref wa),some (.str pz),y3,x4,some (.ref g),y6,y7,y8] H4) →
        t D [some (.ref ha),some (.ref wa),some (.str pz),x3,x4,some (.ref g),x6,none,none] H1:=by
  have hu:=hu_of hr
  have hu64:=hr.units
  have hr1:Room (n + 1) _:=hr.mono (by omega)
  have hr2:Room 2 _:=hr.mono (by omega)
  refine ⟨_,ps_thaw (ps_for PassesOwn.leaving rfl (pi_items (pe_fld (pv 1) rfl)) (pg_tup rfl (pgs_cons (pg_name (i:=3) scFitted.nd rfl (Or.inl rfl)) (pgs_cons (pg_name (i:=7) scFitted.nd rfl (Or.inl rfl)) pgs_nil)))
      (pss_cons (ps_set (i:=6) scFitted.nd rfl (Or.inl rfl) (pe_call GP hr1 rfl mP kP bP .nil pass0 (pa_cons (pv 7) (pa_cons (pv 5) pa_nil))))
      (pss_cons (ps_set (i:=8) scFitted.nd rfl (Or.inl rfl) (pe_dget1 hu (pe_fld (pv 0) rfl) (pv 3) ⟨rfl,rfl,rfl,rfl⟩))
      (pss_one (ps_if (pt_cmpR (neK (K:=K) rfl hu64) (pv 6) (pv 8) (nomark _)) (pss_one (ps_raiseT MN GI hr2 bI rfl mN (pa_cons (pv 2) (pa_cons (pv 3) (pa_cons (pv 6) (pa_cons (pv 8) pa_nil)))))) pss_nil))))),?_⟩
  intro D H1 ha wa dxh dh1 dh2 dxw dw1 dw2 g fsh fsw kh1 kh2 kw1 kw2 m1 n1 m2 n2 kvs G pz x3 x4 x6 s1 FH FW h100 hsmM hsm hdn hGs hGw hpt hg hgv qE q
  have hlen:kw2.length = n2.length:=Paired.length FW.p2
  have gne:g ≠ dw2:=fun e => by rw [e,FW.h2] at hg; cases hg
  have haw:ha ≠ dw2:=fun e => by
    have:=FH.obj
    rw [e,FW.h2] at this
    cases this
  refine ⟨_,rfl,wa,CF,dxw,fsw,_,rfl,FW.obj,cF,nF,FW.ff,dw2,kw2,rfl,FW.h2,fun o => ?_⟩
  refine for_items (fun i σ H3 => ∃ (y3 y6 y7 y8:Option V),σ = [some (.ref ha),some (.ref wa),some (.str pz),y3,x4,some (.ref g),y6,y7,y8] ∧ Walk K H1 H3 dw2 o kw2 ∧ ∀ y ∈ n2.take i,decide (look m2 y.1 ≠ some (putFn G y.2)) = false) ?_ ?_ ?_ ?_
  · exact ⟨x3,x6,none,none,rfl,Walk.start FW.h2,fun y hy => by cases hy⟩
  · rintro i σ H3 _ ⟨_,_,_,_,_,h,_⟩
    exact h.fz
  · rintro i p a σ H3 hp hna ⟨y3,y6,y7,y8,rfl,wk,hall⟩
    obtain ⟨⟨z,fn⟩,hq,ez,hkz⟩:=pair_get FW.p2 hp
    obtain ⟨pk,pw⟩:=p
    replace ez:pk = .inr z:=ez
    replace hkz:FunAt K H1 pw fn:=hkz
    subst ez
    have hm:=List.mem_of_getElem? hq
    obtain ⟨⟨z1,z2⟩,l4,hks⟩:(PyData.strOk z = true ∧ z.length ≤ 14) ∧ fn.1.length ≤ 4 ∧ ∀ k ∈ fn.2 :: fn.1,Kd.sm k ∧ k.words ≤ 60 ∧ Kd.depth k ≤ 20:=hsm (z,fn) hm
    have hdk:∀ k ∈ fn.2 :: fn.1,Kd.depth k ≤ n:=hdn (z,fn) hm
    obtain ⟨w1,w2⟩:sumK ((putFn G fn).2 :: (putFn G fn).1) ≤ 4600 ∧ ∀ k ∈ (putFn G fn).2 :: (putFn G fn).1,Kd.depth k ≤ 50:=hGw (z,fn) hm
    have smP:∀ k ∈ (putFn G fn).2 :: (putFn G fn).1,Kd.sm k:=fun k hk => by
      rcases List.mem_cons.mp hk with rfl | hk
      · exact sm_put hGs (hks _ (.head _)).1
      · obtain ⟨j,hj,rfl⟩:=List.mem_map.mp hk
        exact sm_put hGs (hks j (.tail _ hj)).1
    have ea:=same_new hna (.tup [kV (.inr z),pw])
    have wk4:=wk.go ea
    refine ⟨a,_,rfl,SqT.of upd_same,rfl,_,_,rfl,_,_,rfl,rfl,?_⟩
    obtain ⟨pf,ta,xf,xsf,rfl,f1,f2,f3,f4⟩:=FunAt.keep wk4.tup hkz
    refine ⟨_,rfl,_,rfl,pf,g,ta,xf,xsf,fn.1,fn.2,kvs,G,rfl,f1,f2,f3,f4,fun k hk => hdk k (.tail _ hk),hdk _ (.head _),by omega,wk4.old _ _ hg gne,GvAt.keep wk4.tup hgv,fun H5 p5 ta5 xs5 x5 s5 hp5 hta5 hxs5 hx5 => ?_⟩
    have wk5:=wk4.go s5
    have hdue:FunAt K H5 (.ref p5) (putFn G fn):=⟨p5,ta5,x5,xs5,rfl,SqT.of hp5,SqT.of hta5,hxs5,hx5⟩
    have rdh:=wk5.rd FW.h2 FH.h2
    refine ⟨_,rfl,ha,CF,dxh,fsh,_,rfl,wk5.old _ _ FH.obj haw,cF,nF,FH.ff,dh2,rfl,.inl ⟨kh2,rdh⟩,_,rfl,_,.inl ⟨kh2,.inr z,rdh,rfl,rfl⟩,?_⟩
    obtain ⟨u,fo,hu8,hfo,hsh,hfi,hkeep,hne⟩:∃ (u:V) (fo:PyData),(valV kh2 (.inr z)).getD .non = u ∧ ((look m2 z).map Fn.dat).getD .none = fo ∧ SeqAt.shaped fo = true ∧ Fits K H5 u ∧ (∀ H',(∀ a xs,SqT K H5 a xs → SqT K H' a xs) → Dat K H' u fo) ∧ PyData.eqv (Fn.dat (putFn G fn)) fo = decide (look m2 z = some (putFn G fn)):=by
      rcases look_val FH.p2 z with ⟨h1,h2⟩ | ⟨v,x,h1,h2,h3⟩
      · refine ⟨_,_,rfl,rfl,?_⟩
        rw [h1,h2]
        refine ⟨none_shaped,fits_non,fun H' _ => .non,?_⟩
        show PyData.eqv _ .none = _
        rw [eqv_fn_none,decide_eq_false (by simp)]
      · obtain ⟨qx,hqx,rfl⟩:∃ q ∈ m2,q.2 = x:=by
          unfold look at h2
          obtain ⟨q,hq1,hq2⟩:=Option.map_eq_some_iff.mp h2
          exact ⟨q,List.mem_of_find?_eq_some hq1,hq2⟩
        obtain ⟨_,sl,sx⟩:=hsmM qx hqx
        have h35:FunAt K H5 v qx.2:=FunAt.keep wk5.tup h3
        refine ⟨_,_,rfl,rfl,?_⟩
        rw [h1,h2]
        refine ⟨fn_shaped (fun k hk => ⟨sm_ok (sx k hk).1,by have:=(sx k hk).2.2; omega⟩) sl,fits_fn h35 (fun k hk => ⟨(sx k hk).1,by have:=(sx k hk).2.2; omega⟩) ?_,fun H' kt => fn_dat (FunAt.keep kt h35),?_⟩
        · have:∀ ks:List Kd,(∀ k ∈ ks,k.words ≤ 60) → sumK ks ≤ 60 * ks.length:=fun ks => by
            induction ks with
            | nil => intro _; exact Nat.le_refl _
            | cons k ks ih =>
              intro hk
              have a1:=hk k (.head _)
              have a2:=ih fun j hj => hk j (.tail _ hj)
              show k.words + sumK ks ≤ 60 * (ks.length + 1)
              omega
          have t:=this (qx.2.2 :: qx.2.1) fun k hk => (sx k hk).2.1
          rw [List.length_cons] at t
          omega
        · show PyData.eqv (Fn.dat (putFn G fn)) (Fn.dat qx.2) = _
          rw [eqv_fn]
          exact decide_eq_decide.mpr ⟨fun e => by rw [e],fun e => (Option.some.inj e).symm⟩
    rw [hu8]
    refine ⟨_,rfl,_,rfl,_,_,fn_dat hdue,hkeep _ (fun _ _ t => t),fn_shaped (fun k hk => ⟨sm_ok (smP k hk),w2 k hk⟩) (by show (fn.1.map _).length ≤ 4; rw [List.length_map]; exact l4),hsh,_,rfl,ite2 (fun c => ?_) (fun c => ?_)⟩
    · have c':(!PyData.eqv (Fn.dat (putFn G fn)) fo) = true:=c
      rw [hne,Bool.not_eq_true',decide_eq_false_iff_not] at c'
      have hR:no4 G m2 n2 = some (z,Fn.dat (putFn G fn),fo):=by
        unfold no4
        rw [find_take hq (decide_eq_true (show look m2 z ≠ some (putFn G fn) from c')) hall]
        show some (z,Fn.dat (putFn G fn),((look m2 z).map Fn.dat).getD .none) = _
        rw [hfo]
      refine ⟨_,rfl,_,rfl,_,rfl,_,rfl,(by show 4 ≤ sizeLine; decide),fun e he => ?_⟩
      have se:=same_new he (.ext (excRaw e CN none))
      refine ⟨e,.str pz,.str z,.ref p5,u,rfl,upd_same,fits_str hpt.1 (by omega),fits_str z1 (by omega),(fits_fn hdue (fun k hk => ⟨smP k hk,w2 k hk⟩) w1).same se,hfi.same se,fun dx H6 ne k6 he6 hx6 => ⟨rfl,some dx,dw2,o,.dK kw2,he6,?_⟩⟩
      obtain ⟨g1,g2,g3⟩:=flown (CN:=CN) (r:=(z,Fn.dat (putFn G fn),fo)) wk5 FW.h2 he ne k6 hx6 (fun H' kt => fn_dat (FunAt.keep kt hdue)) (fun H' kt => hkeep H' kt)
      exact ⟨g1,nofz' s1 FW.h2,qE _ hR _ _ g2 g3⟩
    · refine ⟨_,_,_,_,rfl,wk5,fun y hy => ?_⟩
      rw [List.take_add_one,hq] at hy
      rcases List.mem_append.mp hy with h | h
      · exact hall y h
      · obtain rfl:y = (z,fn):=by simpa using h
        have c':¬ (!PyData.eqv (Fn.dat (putFn G fn)) fo) = true:=c
        rw [hne,Bool.not_eq_true',Bool.not_eq_false,decide_eq_true_iff] at c'
        exact decide_eq_false fun hne' => hne' c'
  · rintro σ H3 ⟨y3,y6,y7,y8,rfl,wk,hall⟩
    refine ⟨dw2,o,.dK kw2,wk.fz,nofz' s1 FW.h2,q ?_ _ y3 y6 y7 y8 (wk.thaw FW.h2)⟩
    rw [hlen,List.take_length] at hall
    unfold no4
    rw [find_no hall]
    rfl
end
end K29
namespace K29
open PySem L2 Kk
noncomputable def PtAt (K:PySem.W.Frag) (H:Hp) (kvs:List (List Key × V)) (gl:List (Str × Kd)):Prop:=Paired (fun (p:List Key × V) (q:Str × Kd) => p.1 = keyN ("",q.1) ∧ KdAt K H p.2 q.2) kvs gl
theorem PtAt.keep {K:PySem.W.Frag} {H H':Hp} {kvs:List (List Key × V)} {gl:List (Str × Kd)} (e:∀ a xs,SqT K H a xs → SqT K H' a xs) (h:PtAt K H kvs gl):PtAt K H' kvs gl:=Paired.mapP h fun _ _ ⟨a,b⟩ => ⟨a,kd_keep e b⟩
theorem PtAt.same {K:PySem.W.Frag} {H H':Hp} {kvs:List (List Key × V)} {gl:List (Str × Kd)} (e:Same H H') (h:PtAt K H kvs gl):PtAt K H' kvs gl:=h.keep fun _ _ t => e.tup t
theorem pt_val {K:PySem.W.Frag} {H:Hp} {kvs:List (List Key × V)} {gl:List (Str × Kd)} (h:PtAt K H kvs gl) (n:Str × Str):(valV kvs (keyN n) = none ∧ (n.1 = "" → n.2 ∉ gl.map (·.1))) ∨ ∃ v k,valV kvs (keyN n) = some v ∧ n.1 = "" ∧ (n.2,k) ∈ gl ∧ KdAt K H v k:=by
  unfold PtAt at h
  induction h with
  | nil => exact .inl ⟨rfl,fun _ hm => by cases hm⟩
  | @cons p q ps qs hpq r ih =>
    obtain ⟨h1,h2⟩:=hpq
    by_cases e:n = (("":Str),q.1)
    · refine .inr ⟨p.2,q.2,?_,by rw [e],by rw [e]; exact .head _,h2⟩
      exact valV_pos (by rw [h1,e])
    · have ne:p.1 ≠ keyN n:=fun z => e (keyN_inj (by rw [← z,h1]))
      have ev:valV (p :: ps) (keyN n) = valV ps (keyN n):=by
        unfold valV
        rw [List.find?_cons,decide_eq_false ne]
      rw [ev]
      rcases ih with ⟨a,b⟩ | ⟨v,k,a,b,c,d⟩
      · refine .inl ⟨a,fun h0 hm => ?_⟩
        rw [List.map_cons] at hm
        rcases List.mem_cons.mp hm with z | z
        · exact e (by rw [← h0,← z])
        · exact b h0 z
      · exact .inr ⟨v,k,a,b,.tail _ c,d⟩
theorem pt_gv {K:PySem.W.Frag} {H:Hp} {kvs:List (List Key × V)} {gl m1:List (Str × Kd)} {hs:List Str} (h:PtAt K H kvs gl) (e:gl.map (·.1) = hs) (hl:∀ q ∈ gl,look m1 q.1 = some q.2):GvAt K H kvs (givenF m1 hs):=fun n => by
  rcases pt_val h n with ⟨a,b⟩ | ⟨v,k,a,b,c,d⟩
  · refine .inl ⟨a,?_⟩
    unfold givenF
    rw [if_neg]
    rintro ⟨h0,hm⟩
    rw [← e] at hm
    exact b h0 hm
  · refine .inr ⟨v,k,a,?_,d⟩
    unfold givenF
    rw [if_pos ⟨b,by rw [← e]; exact List.mem_map_of_mem (f:=(·.1)) c⟩]
    exact hl _ c
theorem pt_put {K:PySem.W.Frag} {H:Hp} {kvs:List (List Key × V)} {gl:List (Str × Kd)} {z:Str} {v:V} {k:Kd} (h:PtAt K H kvs gl) (hz:z ∉ gl.map (·.1)) (hv:KdAt K H v k):PtAt K H (putK kvs (keyN ("",z)) v) (gl ++ [(z,k)]):=by
  have e:¬ (kvs.any fun kv => decide (kv.1 = keyN ("",z))) = true:=fun c => by
    rcases pt_val h ("",z) with ⟨a,_⟩ | ⟨v',k',a,b,c',d⟩
    · rw [List.any_eq_true] at c
      obtain ⟨p,hp,he⟩:=c
      unfold valV at a
      rw [Option.map_eq_none_iff,List.find?_eq_none] at a
      exact a p hp he
    · exact hz (List.mem_map_of_mem (f:=(·.1)) c')
  unfold putK
  rw [if_neg e]
  exact Paired.snoc h ⟨rfl,hv⟩
theorem hid_mem {m:List (Str × Kd)} {z:Str} (h:z ∈ hidL m):∃ k,(z,k) ∈ m:=by
  unfold hidL at h
  obtain ⟨q,hq,rfl⟩:=List.mem_map.mp h
  exact ⟨q.2,(List.mem_filter.mp hq).1⟩
theorem hid_nodup {m:List (Str × Kd)} (h:(m.map (·.1)).Nodup):(hidL m).Nodup:=h.sublist (List.Sublist.map _ List.filter_sublist)
theorem out_take {l:List Str} {i:Nat} {z:Str} (hn:l.Nodup) (h:l[i]? = some z):z ∉ l.take i:=fun hm => by
  have e:l = l.take i ++ l.drop i:=(List.take_append_drop i l).symm
  rw [e,List.nodup_append] at hn
  have hd:z ∈ l.drop i:=List.mem_of_getElem? (i:=0) (by rw [List.getElem?_drop]; exact h)
  exact hn.2.2 z hm z hd rfl
theorem sqt_dt {K:PySem.W.Frag} {H:Hp} {l a:Addr} {kvs:List (List Key × V)} {xs:List V} {o:HO} (h:H l = some (.dT kvs)) (t:SqT K H a xs):SqT K (upd H l o) a xs:=by
  rcases t with (t | ⟨o',t⟩) | t
  · exact .inl (.inl (by rw [upd_ne (fun e => by rw [e,h] at t; cases t)]; exact t))
  · exact .inl (.inr ⟨o',by rw [upd_ne (fun e => by rw [e,h] at t; cases t)]; exact t⟩)
  · exact .inr t
section
variable {P:Program} {w:World} {K:PySem.W.Frag} {mg:Str → Option Value} {base:Heap}
set_option maxHeartbeats 0 in
theorem ft2 {f fh CF:Addr} {fdh:FuncData} (MH:Meth K CF "hidden" fh) (GH:FnOk P w K mg base CX0 2 fh fdh ["self"] (spHidden K CF)) (bH:Binds K fdh ["self"] []) (cF:Cls K CF) (nK:NoAttr K CF "kinds")
    {cdv:Value} {A:Around} {outer:List Env} {s:Shared} {H:Hp} {E:XK} (hr:Room 2 (A.deeper (PyProof.Rows.envOfC "fitted" (defScope sFitted) s.heap.objs.size f cdv))) :
    ∃ t,PS (cxOf (CX1 P w) P w K mg base ftN "fitted" (defScope sFitted) f cdv A outer s H E) ((defBody sFitted).getD 2 (.Pass ⟨0,0,0,0⟩)) t ∧
      ∀ (D:Ends) (H1 H2:Hp) (ha wa dxh dh1 dh2 dxw dw1 dw2 g:Addr) (fsh fsw:List (Str × V)) (kh1 kh2 kw1 kw2:List (Key × V)) (m1 n1:List (Str × Kd)) (m2 n2:List (Str × (List Kd × Kd))) (pz:Str) (x3 x4:Option V),
        FaceA K H1 CF ha dxh dh1 dh2 fsh kh1 kh2 m1 m2 → FaceA K H1 CF wa dxw dw1 dw2 fsw kw1 kw2 n1 n2 → n1.length ≤ 100 → (∀ q ∈ n1,SmK q) → (n1.map (·.1)).Nodup → no1 m1 n1 = none → H1 g = none → Same H1 H2 → H2 g = some (.dT []) →
        (∀ (H4:Hp) (y3:Option V) (kvs:List (List Key × V)) (gl:List (Str × Kd)),Same H1 H4 → H4 g = some (.dT kvs) → PtAt K H4 kvs gl → gl.map (·.1) = hidL n1 → (∀ q ∈ gl,look m1 q.1 = some q.2) → D.nx [some (.ref ha),some (.ref wa),some (.str pz),y3,x4,some (.ref g),none,none,none] H4) →
        t D [some (.ref ha),some (.ref wa),some (.str pz),x3,x4,some (.ref g),none,none,none] H2:=by
  have hu:=hu_of hr
  refine ⟨_,ps_for PassesOwn.leaving rfl (pi_list (pe_meth0 (pv 1) cF MH GH hr bH .nil pass0)) (pg_name (i:=3) scFitted.nd rfl (Or.inl rfl))
      (pss_one (ps_dput hu (pv 5) (pe_tup (pa_cons pe_str (pa_cons (pv 3) pa_nil))) (pe_dget hu (pe_fld (pv 0) rfl) (pv 3) (fun _ _ => rfl)) rfl)),?_⟩
  intro D H1 H2 ha wa dxh dh1 dh2 dxw dw1 dw2 g fsh fsw kh1 kh2 kw1 kw2 m1 n1 m2 n2 pz x3 x4 FH FW h100 hsm hnd hn1 hgn s2 hg2 q
  have FW2:=FW.same s2
  refine ⟨_,rfl,wa,dxw,fsw,rfl,FW2.obj,FW2.nh,wa,n1,n2,rfl,⟨dxw,dw1,dw2,fsw,kw1,kw2,FW2.obj,FW2.fk,FW2.ff,FW2.h1,FW2.h2,FW2.p1,FW2.p2,FW2.nh,FW2.np⟩,h100,(fun qq hq => by
    obtain ⟨⟨a1,a2⟩,a3,_,a5⟩:=hsm qq hq
    exact ⟨⟨a1,by omega⟩,sm_ok a3,by omega⟩),fun H3 l s3 hl2 hl3 => ⟨l,rfl,⟨_,SqL.of hl3⟩,?_⟩⟩
  have hg3:=s3 _ _ hg2
  have lg:l ≠ g:=fun e => by rw [e,hg2] at hl2; cases hl2
  have hsl:(hidL n1).length ≤ 100:=by
    unfold hidL
    rw [List.length_map]
    exact Nat.le_trans (List.length_filter_le _ _) h100
  refine for_list (K:=K) (xs:=(hidL n1).map V.str) (fun i σ H4 => ∃ (y3:Option V) (kvs:List (List Key × V)) (gl:List (Str × Kd)),σ = [some (.ref ha),some (.ref wa),some (.str pz),y3,x4,some (.ref g),none,none,none] ∧ Same H1 H4 ∧ H4 l = some (.lst ((hidL n1).map V.str)) ∧ H4 g = some (.dT kvs) ∧ PtAt K H4 kvs gl ∧ gl.map (·.1) = (hidL n1).take i ∧ ∀ q ∈ gl,look m1 q.1 = some q.2)
    ⟨x3,[],[],rfl,s2.trans s3,hl3,hg3,.nil,rfl,fun q hq => by cases hq⟩ ?_ ?_ ?_
  · rintro i σ H4 _ ⟨_,_,_,_,_,h,_⟩
    exact SqL.of h
  · rintro i y σ H4 hy ⟨y3,kvs,gl,rfl,s4,hl4,hg4,hpt,hgl,hlk⟩
    rw [List.getElem?_map] at hy
    obtain ⟨z,hz,rfl⟩:=Option.map_eq_some_iff.mp hy
    have hi:i < (hidL n1).length:=(List.getElem?_eq_some_iff.mp hz).1
    obtain ⟨k0,hk0⟩:=hid_mem (List.mem_of_getElem? hz)
    have FH4:=FH.same s4
    obtain ⟨v,x,hv,hx,hvx⟩:∃ v x,valV kh1 (.inr z) = some v ∧ look m1 z = some x ∧ KdAt K H4 v x:=by
      rcases look_val FH4.p1 z with ⟨_,h2⟩ | h
      · unfold no1 at hn1
        rw [Option.map_eq_none_iff,List.find?_eq_none] at hn1
        exact absurd (by show (look m1 z).isNone = true; rw [h2]; rfl) (hn1 _ hk0)
      · exact h
    refine ⟨_,rfl,ha,CF,dxh,fsh,_,rfl,FH4.obj,cF,nK,FH4.fk,_,rfl,dh1,v,rfl,.inl ⟨kh1,.inr z,.inl FH4.h1,rfl,hv.symm⟩,_,rfl,_,rfl,(by show 2 ≤ sizeLine; decide),fun p hp => ?_⟩
    have s5:=same_new hp (.tup [.str "",.str z])
    have kl:kvs.length = i:=by
      have e1:kvs.length = gl.length:=Paired.length hpt
      have e2:=congrArg List.length hgl
      rw [List.length_map,List.length_take] at e2
      omega
    have hg5:=s5 _ _ hg4
    refine ⟨g,_,rfl,DPut.t (k:=keyN ("",z)) hg5 (by rw [upd_same] <;> rfl) (Nat.lt_of_lt_of_le (Nat.lt_succ_self _) (small (by omega))),?_⟩
    have kt:∀ a xs,SqT K (upd H4 p (.tup [.str "",.str z])) a xs → SqT K (upd (upd H4 p (.tup [.str "",.str z])) g (.dT (putK kvs (keyN ("",z)) v))) a xs:=fun a xs t => sqt_dt hg5 t
    have ht:(hidL n1).take (i + 1) = (hidL n1).take i ++ [z]:=by rw [List.take_add_one,hz]; rfl
    refine ⟨_,_,gl ++ [(z,x)],rfl,sput (s4.trans s5) hgn,?_,upd_same,?_,?_,fun qq hq => ?_⟩
    · rw [upd_ne lg]
      exact s5 _ _ hl4
    · refine pt_put ((hpt.same s5).keep kt) ?_ (kd_keep kt (hvx.same s5))
      rw [hgl]
      exact out_take (hid_nodup hnd) hz
    · rw [List.map_append,hgl,ht]
      rfl
    · rcases List.mem_append.mp hq with h | h
      · exact hlk qq h
      · rw [List.mem_singleton.mp h]
        exact hx
  · rintro σ H4 ⟨y3,kvs,gl,rfl,s4,hl4,hg4,hpt,hgl,hlk⟩
    rw [List.length_map,List.take_length] at hgl
    exact q _ y3 kvs gl s4 hg4 hpt hgl hlk
end
end K29
namespace K29
open PySem L2 Kk
structure Two (m1 n1:List (Str × Kd)) (m2 n2:List (Str × (List Kd × Kd))) (n:Nat):Prop where
  l1:n1.length ≤ 100
  l2:n2.length ≤ 100
  sm1:∀ q ∈ m1,SmK q
  sn1:∀ q ∈ n1,SmK q
  sm2:∀ q ∈ m2,SmF q
  sn2:∀ q ∈ n2,SmF q
  nd:(n1.map (·.1)).Nodup
  dp1:∀ q ∈ n1,Kd.depth q.2 ≤ n
  dp2:∀ q ∈ n2,∀ k ∈ q.2.2 :: q.2.1,Kd.depth k ≤ n
  w1:∀ q ∈ n1,(Kd.put (Gf m1 n1) q.2).words ≤ 4000 ∧ Kd.depth (Kd.put (Gf m1 n1) q.2) ≤ 50
  w2:∀ q ∈ n2,sumK ((putFn (Gf m1 n1) q.2).2 :: (putFn (Gf m1 n1) q.2).1) ≤ 4600 ∧ ∀ k ∈ (putFn (Gf m1 n1) q.2).2 :: (putFn (Gf m1 n1) q.2).1,Kd.depth k ≤ 50
noncomputable def FaceAt (K:PySem.W.Frag) (H:Hp) (CF fa:Addr) (m1:List (Str × Kd)) (m2:List (Str × (List Kd × Kd))):Prop:=∃ dx d1 d2 fs kv1 kv2,FaceA K H CF fa dx d1 d2 fs kv1 kv2 m1 m2
noncomputable def spFitted (K:PySem.W.Frag) (CF CN:Addr) (n:Nat):Sp:=fun vs H Q E => ∃ (ha wa:Addr) (pz:Str) (m1 n1:List (Str × Kd)) (m2 n2:List (Str × (List Kd × Kd))),vs = [.ref ha,.ref wa,.str pz] ∧ FaceAt K H CF ha m1 m2 ∧ FaceAt K H CF wa n1 n2 ∧ Two m1 n1 m2 n2 n ∧ (PyData.strOk pz = true ∧ pz.length ≤ 14) ∧
  (∀ r,fitR m1 n1 m2 n2 = some r → ∀ d H',Same H H' → XOk K H' d (.str pz) r → E (.ref CN) d H') ∧
  (fitR m1 n1 m2 n2 = none → ∀ H' (g:Addr) (kvs:List (List Key × V)) (gl:List (Str × Kd)),Same H H' → H g = none → H' g = some (.dT kvs) → PtAt K H' kvs gl → gl.map (·.1) = hidL n1 → (∀ q ∈ gl,look m1 q.1 = some q.2) → Q (.ref g) H')
theorem given_sm {m1:List (Str × Kd)} {hs:List Str} (h:∀ q ∈ m1,SmK q):∀ n k,givenF m1 hs n = some k → Kd.sm k:=fun n k e => by
  unfold givenF at e
  split at e
  · unfold look at e
    obtain ⟨q,hq1,rfl⟩:=Option.map_eq_some_iff.mp e
    exact (h q (List.mem_of_find?_eq_some hq1)).2.1
  · cases e
section
variable {P:Program} {w:World} {K:PySem.W.Frag} {mg:Str → Option Value} {base:Heap}
set_option maxHeartbeats 0 in
theorem ok_fitted {n:Nat} {f fp fq fh fi CF CN:Addr} {dV:Value} {fd fdp fdq fdh fdi:FuncData} (F:FunD K "fitted" "fitted" sFitted dV f fd)
    (GP:FnOk P w K mg base CX0 n fp fdp ["kind","given"] (spPut K n)) (bP:Binds K fdp ["kind","given"] []) (kP:PySem.W.keepIn K (.ref fp) = true) (mP:mg "put" = some (.ref fp))
    (GF:FnOk P w K mg base CX0 (n + 1) fq fdq ["fun","given"] (spPutFun K n)) (bF:Binds K fdq ["fun","given"] []) (kF:PySem.W.keepIn K (.ref fq) = true) (mF:mg "put_in_fun" = some (.ref fq))
    (MH:Meth K CF "hidden" fh) (GH:FnOk P w K mg base CX0 2 fh fdh ["self"] (spHidden K CF)) (bH:Binds K fdh ["self"] [])
    (MN:MkX K CN fi) (GI:FnOk P w K mg base CX0 1 fi fdi nfP (spInitN K CN)) (bI:Binds K fdi nfP []) (mN:mg "NoFit" = some (.ref CN)) (cF:Cls K CF) (nK:NoAttr K CF "kinds") (nF:NoAttr K CF "funs") :
    FnOk P w K mg base (CX1 P w) (n + 2 + 1) f fd ftP (spFitted K CF CN n):=by
  refine F.okX scFitted (fun vs H Q E h => ?_) (fun cdv A outer s H vs Q E hr h => ?_)
  · obtain ⟨ha,wa,pz,m1,n1,m2,n2,rfl,_⟩:=h
    rfl
  obtain ⟨ha,wa,pz,m1,n1,m2,n2,rfl,⟨dxh,dh1,dh2,fsh,kh1,kh2,FH⟩,⟨dxw,dw1,dw2,fsw,kw1,kw2,FW⟩,T,hpt,qE,qN⟩:=h
  have hr2:Room 2 _:=hr.mono (by omega)
  obtain ⟨t0,e0,k0⟩:=ft1 (outer:=outer) (H:=H) (E:=E) MN GI bI mN cF nK hr2
  obtain ⟨t2,e2,k2⟩:=ft2 (outer:=outer) (H:=H) (E:=E) MH GH bH cF nK hr2
  obtain ⟨t3,e3,k3⟩:=ft3 (outer:=outer) (H:=H) (E:=E) GP bP kP mP MN GI bI mN cF nK hr
  obtain ⟨t4,e4,k4⟩:=ft4 (outer:=outer) (H:=H) (E:=E) GF bF kF mF MN GI bI mN cF nF hr
  refine ⟨_,(@pss_cons _ _ _ _ _ @e0
    (@pss_cons _ _ _ _ _ (@ps_set _ _ 5 _ _ _ _ scFitted.nd rfl (Or.inl rfl) (@pe_dnewT _ _) rfl (Or.inl rfl))
    (@pss_cons _ _ _ _ _ @e2
    (@pss_cons _ _ _ _ _ @e3
    (@pss_cons _ _ _ _ _ @e4
    (pss_one (ps_ret (pv 5))))))):PSs (cxOf (CX1 P w) P w K mg base ftN "fitted" (defScope sFitted) f cdv A outer s H E) (defBody sFitted) _),?_⟩
  refine k0 _ _ ha wa dxh dh1 dh2 dxw dw1 dw2 fsh fsw kh1 kh2 kw1 kw2 m1 n1 m2 n2 pz (Same.refl _) FH FW T.l1 T.sn1 hpt (fun r hr' d H' s' x' => qE r ?_ d H' s' x') fun hn1 H1 y3 y4 s1 => ?_
  · unfold fitR
    rw [hr']
    rfl
  intro g hg
  have sg:=same_new hg (.dT [])
  refine k2 _ H1 _ ha wa dxh dh1 dh2 dxw dw1 dw2 g fsh fsw kh1 kh2 kw1 kw2 m1 n1 m2 n2 pz y3 y4 (FH.same s1) (FW.same s1) T.l1 T.sn1 T.nd hn1 hg sg upd_same fun H3 y3' kvs gl s3 hg3 hpt3 hgl hlk => ?_
  have s13:=s1.trans s3
  have gv:=pt_gv hpt3 hgl hlk
  have hGs:=given_sm (hs:=hidL n1) T.sm1
  refine k3 _ H3 ha wa dxh dh1 dh2 dxw dw1 dw2 g fsh fsw kh1 kh2 kw1 kw2 m1 n1 m2 n2 kvs _ pz y3' y4 s13 (FH.same s13) (FW.same s13) T.l1 T.sm1 T.sn1 T.dp1 hGs T.w1 hpt hg3 gv hn1 (fun r hr' d H' s' x' => qE r ?_ d H' (s13.trans s') x') fun hn3 H4 y34 y44 y64 s4 => ?_
  · unfold fitR
    rw [hn1]
    show (no3 (Gf m1 n1) m1 n1).or _ = _
    rw [hr']
    rfl
  have s14:=s13.trans s4
  refine k4 _ H4 ha wa dxh dh1 dh2 dxw dw1 dw2 g fsh fsw kh1 kh2 kw1 kw2 m1 n1 m2 n2 kvs _ pz y34 y44 y64 s14 (FH.same s14) (FW.same s14) T.l2 T.sm2 T.sn2 T.dp2 hGs T.w2 hpt (s4 _ _ hg3) (gv.same s4) (fun r hr' d H' s' x' => qE r ?_ d H' (s14.trans s') x') fun hn4 H5 y35 y65 y75 y85 s5 => ?_
  · unfold fitR
    rw [hn1]
    show (no3 (Gf m1 n1) m1 n1).or _ = _
    rw [hn3]
    exact hr'
  refine ⟨_,rfl,qN ?_ H5 g kvs gl (s14.trans s5) (Same.free s1 hg) (s5 _ _ (s4 _ _ hg3)) ((hpt3.same s4).same s5) hgl hlk⟩
  unfold fitR
  rw [hn1]
  show (no3 (Gf m1 n1) m1 n1).or _ = _
  rw [hn3]
  exact hn4
end
end K29
namespace K29
open PySem L2 Kk
section
variable {P:Program} {w:World} {K:PySem.W.Frag} {mg:Str → Option Value} {base:Heap}
theorem bindF2 {f T:Addr} {fd:FuncData} {oT:Value} {dT:Option Addr} {nT:Nat} {sT:Array (Option Value)} {tk:Tok} (F:FunD K "fitted" "fitted" sFitted (.ref T) f fd) (lT:K.lookup T = some ⟨oT,dT,.seq #[.str "" tk] nT,sT⟩):Binds K fd ftP [.str "" tk] :=
  F.binds lT fun _ _ _ _ _ _ us hl => by
    have hl':us.length = 2:=by simpa using hl
    match us,hl' with
    | [_,_],_ => exact ⟨_,rfl,rfl⟩
noncomputable def tryHs:List Stmt → List ExceptHandler
  | .Try _ hs _ _ _ :: _ => hs
  | _ => []
end
end K29
namespace K29
open PySem L2 Kk
section
variable {P:Program} {w:World} {K:PySem.W.Frag} {mg:Str → Option Value} {base:Heap}
noncomputable def spBounded (K:PySem.W.Frag) (CT:Addr):Sp:=fun vs H Q E => ∃ (x:V) (k:Kd) (m:Int),vs = [x,.int m] ∧ KdAt K H x k ∧ k.words ≤ 900 ∧ 0 ≤ m ∧ m ≤ 1000000 ∧
  ∀ H',Same H H' → if (k.words:Int) > m then E (.ref CT) none H' else Q x H'
theorem scBounded:FnScope ["kind","most","words"] ["kind","most"] (defScope sBounded):=⟨rfl,rfl,rfl,by decide +kernel,rfl,by decide +kernel,by decide +kernel⟩
theorem ok_bounded {f fw CT:Addr} {fd fdw:FuncData} (F:Fun K "bounded" "bounded" sBounded f fd) (GW:FnOk P w K mg base CX0 1 fw fdw ["kind"] (spWords K)) (bW:Binds K fdw ["kind"] []) (kW:PySem.W.keepIn K (.ref fw) = true) (mW:mg "words_in" = some (.ref fw))
    (mT:mg "TooBig" = some (.ref CT)) (xT:PySem.W.excIn K CT bmVE "ValueError.__new__" = true):FnOk P w K mg base (CX1 P w) 2 f fd ["kind","most"] (spBounded K CT):=by
  refine F.okX scBounded (fun vs H Q E h => ?_) (fun cdv A outer s H vs Q E hr h => ?_)
  · obtain ⟨x,k,m,rfl,_⟩:=h
    rfl
  obtain ⟨x,k,m,rfl,hk,h9,m0,m1,q⟩:=h
  refine ⟨_,pss_cons (ps_set (i:=2) scBounded.nd rfl (Or.inl rfl) (pe_call GW hr rfl mW kW bW .nil pass0 (pa_cons (pv 0) pa_nil)))
    (pss_cons (ps_if (pt_cmpR op_gt (pv 2) (pv 1) (nomark _))
      (pss_one (ps_raise1 rfl mT xT (pa_cons (pe_fstr (pj_cons pe_str (pj_cons (pe_fv (pv 2)) (pj_cons pe_str (pj_cons (pe_fv (pv 1)) (pj_cons pe_str pj_nil))))) (by decide)) pa_nil))) pss_nil)
    (pss_one (ps_ret (pv 0)))),?_⟩
  refine ⟨_,rfl,x,k,rfl,hk,h9,fun H1 s1 => ?_⟩
  have q1:=q H1 s1
  refine ⟨_,rfl,_,rfl,_,_,rfl,rfl,_,rfl,?_⟩
  refine ite2 (fun c => ?_) (fun c => ?_)
  · have c':(k.words:Int) > m:=of_decide_eq_true c
    rw [if_pos c'] at q1
    have l9:(0:Int) ≤ (k.words:Int) ∧ (k.words:Int) ≤ 1000000:=⟨by omega,by omega⟩
    refine ⟨_,rfl,by decide +kernel,_,rfl,.inr ⟨_,rfl,log_small l9.1 l9.2,_,rfl,Nat.le_trans (txt_small l9.1 l9.2) (by decide),_,rfl,by decide +kernel,_,rfl,.inr ⟨_,rfl,log_small m0 m1,_,rfl,Nat.le_trans (txt_small m0 m1) (by decide),_,rfl,by decide +kernel,fun z hz => ⟨(by show 1 ≤ sizeLine; decide),q1⟩⟩⟩⟩
  · have c':¬ (k.words:Int) > m:=fun z => c (decide_eq_true z)
    rw [if_neg c'] at q1
    exact ⟨_,rfl,q1⟩
end
end K29
namespace K29
open PySem L2 Kk
noncomputable def KvAt (K:PySem.W.Frag) (H:Hp) (kvs:List (Key × V)) (g:Str → Option Kd):Prop :=
  ∀ t,(valV kvs (.inr t) = none ∧ g t = none) ∨ ∃ v k,valV kvs (.inr t) = some v ∧ g t = some k ∧ KdAt K H v k
theorem KvAt.same {K:PySem.W.Frag} {H H':Hp} {kvs:List (Key × V)} {g:Str → Option Kd} (e:Same H H') (h:KvAt K H kvs g):KvAt K H' kvs g:=fun n => by
  rcases h n with h | ⟨v,k,h1,h2,h3⟩
  · exact .inl h
  · exact .inr ⟨v,k,h1,h2,h3.same e⟩
noncomputable def FaceTold (K:PySem.W.Frag) (H:Hp) (CF:Addr) (v:V) (g:Str → Option Kd):Prop :=
  ∃ a dx fs d kvs,v = .ref a ∧ H a = some (.ins CF dx fs) ∧ fs.lookup ("kinds":Str) = some (.ref d) ∧ H d = some (.dK kvs) ∧ KvAt K H kvs g
theorem FaceTold.same {K:PySem.W.Frag} {H H':Hp} {CF:Addr} {v:V} {g:Str → Option Kd} (e:Same H H') (h:FaceTold K H CF v g):FaceTold K H' CF v g:=by
  obtain ⟨a,dx,fs,d,kvs,h1,h2,h3,h4,h5⟩:=h
  exact ⟨a,dx,fs,d,kvs,h1,e _ _ h2,h3,e _ _ h4,h5.same e⟩
noncomputable def PartsAt (K:PySem.W.Frag) (H:Hp) (CF:Addr) (kvs:List (Key × V)) (PG:Str → Option (Str → Option Kd)):Prop :=
  ∀ q,(valV kvs (.inr q) = none ∧ PG q = none) ∨ ∃ v g,valV kvs (.inr q) = some v ∧ PG q = some g ∧ FaceTold K H CF v g
theorem PartsAt.same {K:PySem.W.Frag} {H H':Hp} {CF:Addr} {kvs:List (Key × V)} {PG:Str → Option (Str → Option Kd)} (e:Same H H') (h:PartsAt K H CF kvs PG):PartsAt K H' CF kvs PG:=fun n => by
  rcases h n with h | ⟨v,g,h1,h2,h3⟩
  · exact .inl h
  · exact .inr ⟨v,g,h1,h2,h3.same e⟩
noncomputable def tell (OG:Str → Option Kd) (PG:Str → Option (Str → Option Kd)) (n:Str × Str):Option Kd:=if n.1 = "" then OG n.2 else (PG n.1).bind fun g => g n.2
noncomputable def Told (o:Option Kd) (K:PySem.W.Frag) (H:Hp) (Q:VK) (X:Prop):Prop:=(o = none ∧ X) ∨ ∃ k,o = some k ∧ ∀ v,KdAt K H v k → Q v H
noncomputable def spToldKind (K:PySem.W.Frag) (CF CN:Addr):Sp:=fun vs H Q E => ∃ (q t:Str) (o p:Addr) (okv pkv:List (Key × V)) (OG:Str → Option Kd) (PG:Str → Option (Str → Option Kd)),
  vs = [.str q,.str t,.ref o,.ref p] ∧ okW q ∧ okW t ∧ H o = some (.dK okv) ∧ KvAt K H okv OG ∧ H p = some (.dK pkv) ∧ PartsAt K H CF pkv PG ∧ Told (tell OG PG (q,t)) K H Q (E (.ref CN) none H)
section
variable {P:Program} {w:World} {K:PySem.W.Frag} {mg:Str → Option Value} {base:Heap}
theorem scToldKind:FnScope ["part","word","own","parts","kinds"] ["part","word","own","parts"] (defScope sToldKind):=⟨rfl,rfl,rfl,by decide +kernel,rfl,by decide +kernel,by decide +kernel⟩
theorem ok_toldKind {f CF CN:Addr} {fd:FuncData} (F:Fun K "told_kind" "told_kind" sToldKind f fd) (cF:Cls K CF) (nF:NoAttr K CF "kinds") (mN:mg "NoKind" = some (.ref CN)) (xN:PySem.W.excIn K CN bmVE "ValueError.__new__" = true) :
    FnOk P w K mg base (CX1 P w) 1 f fd ["part","word","own","parts"] (spToldKind K CF CN):=by
  refine F.okX scToldKind (fun vs H Q E h => ?_) (fun cdv A outer s H vs Q E hr h => ?_)
  · obtain ⟨q,t,o,p,okv,pkv,OG,PG,rfl,_⟩:=h
    rfl
  obtain ⟨q,t,o,p,okv,pkv,OG,PG,rfl,hq,ht,ho,hO,hp,hP,hT⟩:=h
  have hu:=hu_of hr
  have lq:q.length ≤ 100000:=Nat.le_trans hq.2 (by decide)
  have lt:t.length ≤ 100000:=Nat.le_trans ht.2 (by decide)
  have zq:q.length ≤ sizeLine:=Nat.le_trans lq (by decide)
  have zt:t.length ≤ sizeLine:=Nat.le_trans lt (by decide)
  obtain ⟨u1,d1,k1⟩:∃ t',PSs (cxOf (CX1 P w) P w K mg base ["part","word","own","parts","kinds"] "told_kind" (defScope sToldKind) f cdv A outer s H E) (List.drop 1 (defBody sToldKind)) t' ∧
      ∀ (d:Addr) (kvs:List (Key × V)) (g:Str → Option Kd),H d = some (.dK kvs) → KvAt K H kvs g → Told (g t) K H Q (E (.ref CN) none H) →
        t' { nx:=fun _ H' => Q .non H',rt:=Q } [some (.str q),some (.str t),some (.ref o),some (.ref p),some (.ref d)] H:=by
    refine ⟨_,pss_cons (ps_if (pt_cmp (pc_dnotin hu (pv 1) (pv 4)) (by with_unfolding_all rfl))
        (pss_one (ps_raise1 rfl mN xN (pa_cons (pe_fstr (pj_cons pe_str (pj_cons (pe_fr (pv 1)) (pj_cons pe_str (pj_cons (pe_fr (pv 0)) pj_nil)))) (by decide)) pa_nil))) pss_nil)
      (pss_one (ps_ret (pe_dget hu (pv 4) (pv 1) (fun _ _ => rfl)))),?_⟩
    intro d kvs g hd hg hT
    refine ⟨_,rfl,_,rfl,d,_,rfl,DGet.k (k:=.inr t) hd,_,rfl,?_⟩
    rcases hg t with ⟨h1,h2⟩ | ⟨v,k,h1,h2,h3⟩
    · rw [h1]
      rcases hT with ⟨_,hE⟩ | ⟨k,hk,_⟩
      · refine iteT ⟨_,rfl,by decide +kernel,_,rfl,t,rfl,ht.1,ht.2,fun z hz => ⟨z,rfl,Nat.le_trans hz (by decide),_,rfl,by decide +kernel,_,rfl,q,rfl,hq.1,hq.2,fun z2 hz2 => ⟨z2,rfl,Nat.le_trans hz2 (by decide),fun z3 hz3 => ⟨(by show 1 ≤ sizeLine; decide),hE⟩⟩⟩⟩
      · rw [h2] at hk
        cases hk
    · rw [h1]
      rcases hT with ⟨hn,_⟩ | ⟨k',hk,hQ⟩
      · rw [h2] at hn
        cases hn
      · rw [h2] at hk
        cases hk
        exact iteF ⟨_,rfl,_,rfl,d,v,rfl,h1 ▸ DGet.k (k:=.inr t) hd,hQ v h3⟩
  refine ⟨_,pss_cons (ps_if (pt_cmpR op_eq (pv 0) pe_str (nomark _)) (pss_one (ps_set (i:=4) scToldKind.nd rfl (Or.inl rfl) (pv 2)))
      (pss_one (ps_if (pt_cmp (pc_din hu (pv 0) (pv 3)) (by with_unfolding_all rfl)) (pss_one (ps_set (i:=4) scToldKind.nd rfl (Or.inl rfl) (pe_fld (pe_dget hu (pv 3) (pv 0) (fun _ _ => rfl)) rfl)))
        (pss_one (ps_raise1 rfl mN xN (pa_cons (pe_fstr (pj_cons pe_str (pj_cons (pe_fv (pv 0)) (pj_cons pe_str (pj_cons (pe_fv (pv 0)) (pj_cons pe_str (pj_cons (pe_fv (pv 1)) pj_nil)))))) (by decide)) pa_nil)))))) d1,?_⟩
  refine ⟨_,rfl,rfl,_,rfl,?_⟩
  refine ite2 (fun c => ?_) (fun c => ?_)
  · have c':V.str q = V.str "":=of_decide_eq_true c
    have e:q = "":=by injection c'
    have hT':Told (OG t) K H Q (E (.ref CN) none H):=by
      unfold tell at hT
      rw [if_pos e] at hT
      exact hT
    exact ⟨_,rfl,k1 o okv OG ho hO hT'⟩
  · have c':¬ q = "":=fun e => c (decide_eq_true (by rw [e]))
    have hT':Told ((PG q).bind fun g => g t) K H Q (E (.ref CN) none H):=by
      unfold tell at hT
      rw [if_neg c'] at hT
      exact hT
    refine ⟨_,rfl,_,rfl,p,_,rfl,DGet.k (k:=.inr q) hp,_,rfl,?_⟩
    rcases hP q with ⟨h1,h2⟩ | ⟨v,g,h1,h2,h3⟩
    · rw [h1]
      rw [h2] at hT'
      rcases hT' with ⟨_,hE⟩ | ⟨k,hk,_⟩
      · refine iteF ⟨_,rfl,by decide +kernel,_,rfl,.inl ⟨q,rfl,zq,q,rfl,Nat.le_trans lq (by decide),_,rfl,by decide +kernel,_,rfl,.inl ⟨q,rfl,zq,q,rfl,Nat.le_trans lq (by decide),_,rfl,by decide +kernel,_,rfl,.inl ⟨t,rfl,zt,t,rfl,Nat.le_trans lt (by decide),fun z3 hz3 => ⟨(by show 1 ≤ sizeLine; decide),hE⟩⟩⟩⟩⟩
      · cases hk
    · rw [h1]
      rw [h2] at hT'
      obtain ⟨a,dx,fs,d,kvs,rfl,h4,h5,h6,h7⟩:=h3
      exact iteT ⟨_,rfl,_,rfl,p,.ref a,rfl,h1 ▸ DGet.k (k:=.inr q) hp,a,CF,dx,fs,_,rfl,h4,cF,nF,h5,k1 d kvs g h6 h7 hT'⟩
end
end K29
namespace K29
open PySem L2 Kk
theorem put_congr {G T:Str × Str → Option Kd}:∀ {k:Kd},(∀ n ∈ Kd.names k,G n = T n) → Kd.put G k = Kd.put T k
  | .num _,_ => rfl
  | .name q t,h => by
    show (G (q,t)).getD _ = (T (q,t)).getD _
    rw [h (q,t) (List.mem_singleton.mpr rfl)]
  | .pair a b,h => by
    show Kd.pair (Kd.put G a) (Kd.put G b) = Kd.pair (Kd.put T a) (Kd.put T b)
    rw [put_congr (k:=a) fun n hn => h n (List.mem_append_left _ hn),put_congr (k:=b) fun n hn => h n (List.mem_append_right _ hn)]
theorem addN_mem {acc:List (Str × Str)} {m n:Str × Str} (h:n ∈ acc ∨ n = m):n ∈ addN acc m:=by
  unfold addN
  split
  · rename_i hm
    rcases h with h | rfl
    · exact h
    · exact hm
  · rcases h with h | rfl
    · exact List.mem_append_left _ h
    · exact List.mem_append_right _ (List.mem_singleton.mpr rfl)
theorem firsts_mem:∀ {l acc:List (Str × Str)} {n:Str × Str},n ∈ acc ∨ n ∈ l → n ∈ firsts acc l
  | [],acc,n,h => h.elim id fun z => nomatch z
  | m :: l,acc,n,h => by
    refine firsts_mem (l:=l) (acc:=addN acc m) ?_
    rcases h with h | h
    · exact .inl (addN_mem (.inl h))
    · rcases List.mem_cons.mp h with h | h
      · exact .inl (addN_mem (.inr h))
      · exact .inr h
theorem mem_addN {acc:List (Str × Str)} {m n:Str × Str} (h:n ∈ addN acc m):n ∈ acc ∨ n = m:=by
  unfold addN at h
  split at h
  · exact .inl h
  · rcases List.mem_append.mp h with q | q
    · exact .inl q
    · exact .inr (List.mem_singleton.mp q)
theorem mem_firsts:∀ {l acc:List (Str × Str)} {n:Str × Str},n ∈ firsts acc l → n ∈ acc ∨ n ∈ l
  | [],acc,n,h => .inl h
  | m :: l,acc,n,h => by
    rcases mem_firsts (l:=l) (acc:=addN acc m) h with q | q
    · rcases mem_addN q with q | q
      · exact .inl q
      · exact .inr (q ▸ List.mem_cons_self)
    · exact .inr (List.mem_cons_of_mem _ q)
theorem firsts_len:∀ (l acc:List (Str × Str)),(firsts acc l).length ≤ acc.length + l.length
  | [],acc => Nat.le_refl _
  | m :: l,acc => by
    have h1:=firsts_len l (addN acc m)
    have h2:=addN_len acc m
    show (firsts (addN acc m) l).length ≤ acc.length + (l.length + 1)
    omega
theorem names_len:∀ k:Kd,(Kd.names k).length ≤ k.words
  | .num _ => Nat.zero_le _
  | .name _ _ => Nat.le_refl _
  | .pair a b => by
    have h1:=names_len a
    have h2:=names_len b
    show (Kd.names a ++ Kd.names b).length ≤ 1 + a.words + b.words
    rw [List.length_append]
    omega
theorem paired_get {H:Hp}:∀ {dn:List (Str × Str)} {as:List Addr} {i:Nat} {b:Addr},Paired (fun (n:Str × Str) (a:Addr) => H a = some (.tup [.str n.1,.str n.2])) dn as → as[i]? = some b → ∃ n:Str × Str,dn[i]? = some n ∧ H b = some (.tup [.str n.1,.str n.2])
  | _,_,_,_,.nil,e => by simp at e
  | _,_,0,_,.cons a _,e => by
    obtain rfl:=Option.some.inj e
    exact ⟨_,rfl,a⟩
  | _,_,i + 1,_,.cons _ r,e => paired_get (i:=i) r e
theorem gv_put {K:PySem.W.Frag} {H:Hp} {kvs:List (List Key × V)} {G:Str × Str → Option Kd} {n:Str × Str} {v:V} {k:Kd} (h:GvAt K H kvs G) (hv:KdAt K H v k):GvAt K H (putK kvs (keyN n) v) (fun m => if m = n then some k else G m):=fun m => by
  by_cases e:m = n
  · subst e
    exact .inr ⟨v,k,by rw [valV_put,if_pos rfl],if_pos rfl,hv⟩
  · have e2:keyN m ≠ keyN n:=fun z => e (keyN_inj z)
    rcases h m with ⟨h1,h2⟩ | ⟨v',k',h1,h2,h3⟩
    · exact .inl ⟨by rw [valV_put,if_neg e2]; exact h1,(if_neg e).trans h2⟩
    · exact .inr ⟨v',k',by rw [valV_put,if_neg e2]; exact h1,(if_neg e).trans h2,h3⟩
noncomputable def spNormal (K:PySem.W.Frag) (CF CN CT:Addr):Sp:=fun vs H Q E => ∃ (x:V) (k:Kd) (o p:Addr) (m:Int) (okv pkv:List (Key × V)) (OG:Str → Option Kd) (PG:Str → Option (Str → Option Kd)),
  vs = [x,.ref o,.ref p,.int m] ∧ KdAt K H x k ∧ k.words ≤ 900 ∧ Kd.depth k ≤ 40 ∧ (∀ n ∈ Kd.names k,okW n.1 ∧ okW n.2) ∧ 0 ≤ m ∧ m ≤ 1000000 ∧ H o = some (.dK okv) ∧ KvAt K H okv OG ∧ H p = some (.dK pkv) ∧ PartsAt K H CF pkv PG ∧
  (∀ H',Same H H' → (∃ n ∈ Kd.names k,tell OG PG n = none) → E (.ref CN) none H') ∧
  ((∀ n ∈ Kd.names k,tell OG PG n ≠ none) → (Kd.put (tell OG PG) k).words ≤ 900 ∧ ∀ H',Same H H' → if ((Kd.put (tell OG PG) k).words:Int) > m then E (.ref CT) none H' else ∀ v,KdAt K H' v (Kd.put (tell OG PG) k) → Q v H')
section
variable {P:Program} {w:World} {K:PySem.W.Frag} {mg:Str → Option Value} {base:Heap}
theorem scNormal:FnScope ["kind","own","parts","most","given","part","word"] ["kind","own","parts","most"] (defScope sNormal):=⟨rfl,rfl,rfl,by decide +kernel,rfl,by decide +kernel,by decide +kernel⟩
set_option maxHeartbeats 0 in
theorem ok_normal {f fn fp fb ft CF CN CT:Addr} {dV:Value} {fd fdn fdp fdb fdt:FuncData} (F:FunD K "normal" "normal" sNormal dV f fd)
    (GN:FnOk P w K mg base CX0 1 fn fdn ["kind"] (spNames K)) (bN:Binds K fdn ["kind"] []) (kN:PySem.W.keepIn K (.ref fn) = true) (mN:mg "names_in" = some (.ref fn))
    (GP:FnOk P w K mg base CX0 40 fp fdp ["kind","given"] (spPut K 40)) (bP:Binds K fdp ["kind","given"] []) (kP:PySem.W.keepIn K (.ref fp) = true) (mP:mg "put" = some (.ref fp))
    (GB:FnOk P w K mg base (CX1 P w) 2 fb fdb ["kind","most"] (spBounded K CT)) (bB:Binds K fdb ["kind","most"] []) (kB:PySem.W.keepIn K (.ref fb) = true) (mB:mg "bounded" = some (.ref fb))
    (GT:FnOk P w K mg base (CX1 P w) 1 ft fdt ["part","word","own","parts"] (spToldKind K CF CN)) (bT:Binds K fdt ["part","word","own","parts"] []) (kT:PySem.W.keepIn K (.ref ft) = true) (mT:mg "told_kind" = some (.ref ft)) :
    FnOk P w K mg base (CX1 P w) 41 f fd ["kind","own","parts","most"] (spNormal K CF CN CT):=by
  refine F.okX scNormal (fun vs H Q E h => ?_) (fun cdv A outer s H vs Q E hr h => ?_)
  · obtain ⟨x,k,o,p,m,okv,pkv,OG,PG,rfl,_⟩:=h
    rfl
  obtain ⟨x,k,o,p,m,okv,pkv,OG,PG,rfl,hk,hw,hdp,hnm,m0,m1,ho,hO,hp,hP,q1,q2⟩:=h
  have hu:=hu_of hr
  have hr1:Room 1 _:=hr.mono (by decide)
  have hr2:Room 2 _:=hr.mono (by decide)
  refine ⟨_,pss_cons (ps_set (i:=4) scNormal.nd rfl (Or.inl rfl) pe_dnewT)
    (pss_cons (ps_for PassesOwn.leaving rfl (pi_list (pe_call GN hr1 rfl mN kN bN .nil pass0 (pa_cons (pv 0) pa_nil)))
      (pg_tup rfl (pgs_cons (pg_name (i:=5) scNormal.nd rfl (Or.inl rfl)) (pgs_cons (pg_name (i:=6) scNormal.nd rfl (Or.inl rfl)) pgs_nil)))
      (pss_one (ps_dput hu (pv 4) (pe_tup (pa_cons (pv 5) (pa_cons (pv 6) pa_nil))) (pe_call GT hr1 rfl mT kT bT .nil pass1 (pa_cons (pv 5) (pa_cons (pv 6) (pa_cons (pv 1) (pa_cons (pv 2) pa_nil))))) rfl)))
    (pss_one (ps_ret (pe_call GB hr2 rfl mB kB bB .nil pass1 (pa_cons (pe_call GP hr rfl mP kP bP .nil pass0 (pa_cons (pv 0) (pa_cons (pv 4) pa_nil))) (pa_cons (pv 3) pa_nil)))))),?_⟩
  intro g hg
  have sg:=same_new hg (.dT [])
  refine ⟨_,rfl,x,k,rfl,hk.same sg,hw,fun H1 l as s1 _ hl hpr => ?_⟩
  have gne:l ≠ g:=fun e => by
    have z:=s1 _ _ (upd_same (H:=H) (a:=g) (o:=.dT []))
    rw [← e,hl] at z
    cases z
  have hS1:Same H H1:=same_trans sg s1
  have hlen:=Paired.length hpr
  refine ⟨l,rfl,⟨_,SqL.of hl⟩,for_list (K:=K) (xs:=as.map V.ref) (fun i σ H3 => ∃ (x5 x6:Option V) (kvs:List (List Key × V)),σ = [some x,some (.ref o),some (.ref p),some (.int m),some (.ref g),x5,x6] ∧ Same H H3 ∧ H3 l = some (.lst (as.map V.ref)) ∧ H3 g = some (.dT kvs) ∧
      Paired (fun (n:Str × Str) (a:Addr) => H3 a = some (.tup [.str n.1,.str n.2])) (firsts [] (Kd.names k)) as ∧ kvs.length ≤ i ∧ (∀ n ∈ (firsts [] (Kd.names k)).take i,tell OG PG n ≠ none) ∧ GvAt K H3 kvs (fun n => if n ∈ (firsts [] (Kd.names k)).take i then tell OG PG n else none))
    ⟨none,none,[],rfl,hS1,hl,s1 _ _ upd_same,hpr,Nat.le_refl _,fun n hn => (by simp at hn),fun n => .inl ⟨rfl,by simp⟩⟩ ?_ ?_ ?_⟩
  · rintro i σ H3 _ ⟨x5,x6,kvs,rfl,_,h3,_⟩
    exact SqL.of h3
  · rintro i y σ H3 hy ⟨x5,x6,kvs,rfl,s3,hl3,hg3,hp3,hkl,hto,hG⟩
    obtain ⟨b,hb,rfl⟩:∃ b,as[i]? = some b ∧ V.ref b = y:=by
      rw [List.getElem?_map] at hy
      exact Option.map_eq_some_iff.mp hy
    obtain ⟨n,hn,htu⟩:=paired_get hp3 hb
    have hnm':n ∈ Kd.names k:=by
      rcases mem_firsts (List.mem_of_getElem? hn) with z | z
      · cases z
      · exact z
    have hil:i < as.length:=(List.getElem?_eq_some_iff.mp hb).1
    have etake:(firsts [] (Kd.names k)).take (i + 1) = (firsts [] (Kd.names k)).take i ++ [n]:=by
      rw [List.take_add_one,hn]
      rfl
    have hkz:kvs.length < sizeLine:=by
      have h1:=firsts_len (Kd.names k) []
      have h2:=names_len k
      have h3:([]:List (Str × Str)).length = 0:=rfl
      exact Nat.lt_of_lt_of_le (Nat.lt_succ_self _) (small (by omega))
    refine ⟨b,_,rfl,SqT.of htu,rfl,_,_,rfl,_,_,rfl,rfl,?_⟩
    refine ⟨_,rfl,_,rfl,_,rfl,_,rfl,n.1,n.2,o,p,okv,pkv,OG,PG,rfl,(hnm n hnm').1,(hnm n hnm').2,s3 _ _ ho,hO.same s3,s3 _ _ hp,hP.same s3,?_⟩
    cases ht:tell OG PG n with
    | none => exact .inl ⟨rfl,q1 _ s3 ⟨n,hnm',ht⟩⟩
    | some kk =>
      refine .inr ⟨kk,rfl,fun v hv => ?_⟩
      refine ⟨_,rfl,_,rfl,_,rfl,(by show 2 ≤ sizeLine; decide),fun c hc => ?_⟩
      have sc:=same_new hc (.tup [.str n.1,.str n.2])
      have hg4:=sc _ _ hg3
      have hcg:g ≠ c:=ne_of_none hg3 hc
      have hcl:l ≠ c:=ne_of_none hl3 hc
      have hc0:H c = none:=by
        cases e:H c with
        | none => rfl
        | some u => rw [s3 _ _ e] at hc; cases hc
      refine ⟨g,_,rfl,DPut.t (k:=keyN n) hg4 upd_same hkz,?_⟩
      have keep:∀ a xs,SqT K (upd H3 c (.tup [.str n.1,.str n.2])) a xs → SqT K (upd (upd H3 c (.tup [.str n.1,.str n.2])) g (.dT (putK kvs (keyN n) v))) a xs:=fun a xs t => by
        rcases t with (t | ⟨o',t⟩) | t
        · exact .inl (.inl (by rw [upd_ne (fun e => by rw [e,hg4] at t; cases t)]; exact t))
        · exact .inl (.inr ⟨o',by rw [upd_ne (fun e => by rw [e,hg4] at t; cases t)]; exact t⟩)
        · exact .inr t
      refine ⟨_,_,putK kvs (keyN n) v,rfl,sput (same_trans s3 sc) hg,?_,upd_same,?_,?_,?_,?_⟩
      · rw [upd_ne gne]
        exact sc _ _ hl3
      · exact Paired.imp' (fun m a e => by rw [upd_ne (fun z => by rw [z,hg3] at e; cases e)]; exact sc _ _ e) hp3
      · have:=length_putK kvs (keyN n) v
        omega
      · rw [etake]
        intro m hm
        rcases List.mem_append.mp hm with z | z
        · exact hto m z
        · rw [List.mem_singleton.mp z,ht]
          exact fun e => nomatch e
      · have hG2:=gv_put (n:=n) (hG.same sc) (hv.same sc)
        rw [etake]
        intro mm
        have eG:(if mm ∈ (firsts [] (Kd.names k)).take i ++ [n] then tell OG PG mm else none) = (if mm = n then some kk else if mm ∈ (firsts [] (Kd.names k)).take i then tell OG PG mm else none):=by
          by_cases e:mm = n
          · subst e
            rw [if_pos (List.mem_append_right _ (List.mem_singleton.mpr rfl)),if_pos rfl,ht]
          · rw [if_neg e]
            by_cases e2:mm ∈ (firsts [] (Kd.names k)).take i
            · rw [if_pos e2,if_pos (List.mem_append_left _ e2)]
            · rw [if_neg e2,if_neg (fun z => (List.mem_append.mp z).elim e2 fun z2 => e (List.mem_singleton.mp z2))]
        rcases hG2 mm with ⟨h1,h2⟩ | ⟨v',k',h1,h2,h3⟩
        · exact .inl ⟨h1,eG.trans h2⟩
        · exact .inr ⟨v',k',h1,eG.trans h2,kd_keep keep h3⟩
  · rintro σ H3 ⟨x5,x6,kvs,rfl,s3,hl3,hg3,hp3,hkl,hto,hG⟩
    rw [List.length_map,← hlen,List.take_length] at hto hG
    have hall:∀ n ∈ Kd.names k,tell OG PG n ≠ none:=fun n hn => hto n (firsts_mem (.inr hn))
    obtain ⟨hb9,q3⟩:=q2 hall
    have epc:Kd.put (fun n => if n ∈ firsts [] (Kd.names k) then tell OG PG n else none) k = Kd.put (tell OG PG) k:=put_congr fun n hn => if_pos (firsts_mem (.inr hn))
    refine ⟨_,rfl,_,rfl,x,g,k,kvs,_,rfl,hk.same s3,hdp,hg3,hG,fun H4 v4 s4 hv4 => ?_⟩
    rw [epc] at hv4
    refine ⟨_,rfl,v4,_,m,rfl,hv4,hb9,m0,m1,fun H5 s5 => ?_⟩
    have q4:=q3 H5 (same_trans s3 (same_trans s4 s5))
    by_cases c:((Kd.put (tell OG PG) k).words:Int) > m
    · rw [if_pos c] at q4 ⊢
      exact q4
    · rw [if_neg c] at q4 ⊢
      exact q4 v4 (hv4.same s5)
end
end K29
namespace K29
open PySem L2 Kk
section
variable {P:Program} {w:World} {K:PySem.W.Frag} {mg:Str → Option Value} {base:Heap}
noncomputable abbrev pfN:List Str:=["face","given","kinds","word","kind","funs","fun"]
noncomputable def putP (G:Str × Str → Option Kd) (q:Str × Kd):Str × Kd:=(q.1,Kd.put G q.2)
theorem sqt_fz {H:Hp} {l a:Addr} {ob:Obj} {kvs:List (Key × V)} {xs:List V} {o:HO} (h:H l = some (.frz ob (.dK kvs))) (t:SqT K H a xs):SqT K (upd H l o) a xs:=by
  rcases t with (t | ⟨o',t⟩) | t
  · exact .inl (.inl (by rw [upd_ne (fun e => by rw [e,h] at t; cases t)]; exact t))
  · exact .inl (.inr ⟨o',by rw [upd_ne (fun e => by rw [e,h] at t; cases t)]; exact t⟩)
  · exact .inr t
theorem scPutFace:FnScope pfN ["face","given"] (defScope sPutFace):=⟨rfl,rfl,rfl,by decide +kernel,rfl,by decide +kernel,by decide +kernel⟩
theorem pf_loop {n:Nat} {f fp CF:Addr} {fdp:FuncData} (GP:FnOk P w K mg base CX0 n fp fdp ["kind","given"] (spPut K n)) (bP:Binds K fdp ["kind","given"] []) (kP:PySem.W.keepIn K (.ref fp) = true) (mP:mg "put" = some (.ref fp)) (cF:Cls K CF) (nK:NoAttr K CF "kinds")
    {cdv:Value} {A:Around} {outer:List Env} {s:Shared} {H:Hp} {E:XK} (hr:Room (n + 2) (A.deeper (PyProof.Rows.envOfC "put_in_face" (defScope sPutFace) s.heap.objs.size f cdv))) :
    ∃ t,PS (cxOf CX0 P w K mg base pfN "put_in_face" (defScope sPutFace) f cdv A outer s H E).nox ((defBody sPutFace).getD 1 (.Pass ⟨0,0,0,0⟩)) t ∧
      ∀ (D:Ends) (H1:Hp) (fa g dx d1 kd:Addr) (fs:List (Str × V)) (kv1:List (Key × V)) (m1:List (Str × Kd)) (kvs:List (List Key × V)) (G:Str × Str → Option Kd),Same H H1 → H fa = some (.ins CF dx fs) → fs.lookup ("kinds":Str) = some (.ref d1) → H d1 = some (.dK kv1) → PkAt (KdAt K H) kv1 m1 → (m1.map (·.1)).Nodup → m1.length ≤ 100 →
        (∀ q ∈ m1,Kd.depth q.2 ≤ n) → H g = some (.dT kvs) → GvAt K H kvs G → H kd = none → H1 kd = some (.dK []) →
        (∀ (H4:Hp) (y3 y4:Option V) (kv':List (Key × V)),Same H H4 → H4 kd = some (.dK kv') → PkAt (KdAt K H4) kv' (m1.map (putP G)) → D.nx [some (.ref fa),some (.ref g),some (.ref kd),y3,y4,none,none] H4) →
        t D [some (.ref fa),some (.ref g),some (.ref kd),none,none,none,none] H1:=by
  have hu:=hu_of hr
  have hr0:Room n _:=hr.mono (by omega)
  refine ⟨_,ps_thaw (ps_for PassesOwn.never rfl (pi_items (pe_fld (pv 0) rfl)) (pg_tup rfl (pgs_cons (pg_name (i:=3) scPutFace.nd rfl (Or.inl rfl)) (pgs_cons (pg_name (i:=4) scPutFace.nd rfl (Or.inl rfl)) pgs_nil)))
      (pss_one (ps_dput hu (pv 2) (pv 3) (pe_call GP hr0 (by rfl) mP kP bP .nil pass0 (pa_cons (pv 4) (pa_cons (pv 1) pa_nil))) rfl))),?_⟩
  intro D H1 fa g dx d1 kd fs kv1 m1 kvs G s1 hfa hl1 hd1 hk1 hnd h100 hdp hg hG hkd hkd1 q
  have hlen:kv1.length = m1.length:=Paired.length hk1
  have nkd:kd ≠ d1:=fun e => by rw [e,hd1] at hkd; cases hkd
  refine ⟨_,rfl,fa,CF,dx,fs,_,rfl,s1 _ _ hfa,cF,nK,hl1,d1,kv1,rfl,s1 _ _ hd1,fun o => ?_⟩
  refine for_items (fun i σ H3 => ∃ (kv':List (Key × V)) (y3 y4:Option V),σ = [some (.ref fa),some (.ref g),some (.ref kd),y3,y4,none,none] ∧ (∀ b u,H b = some u → b ≠ d1 → H3 b = some u) ∧ H3 d1 = some (.frz o (.dK kv1)) ∧ H3 kd = some (.dK kv') ∧
    PkAt (KdAt K H3) kv' ((m1.take i).map (putP G)) ∧ kv'.length ≤ i ∧ (∀ a xs,SqT K H a xs → SqT K H3 a xs)) ?_ ?_ ?_ ?_
  · refine ⟨[],none,none,rfl,fun b u hb nb => by rw [upd_ne nb]; exact s1 _ _ hb,upd_same,by rw [upd_ne nkd]; exact hkd1,.nil,Nat.le_refl _,fun a xs h => sqt_dk (s1 _ _ hd1) (s1.tup h)⟩
  · rintro i σ H3 _ ⟨_,_,_,_,_,h,_⟩
    exact h
  · rintro i p a σ H3 hp ha ⟨kv',y3,y4,rfl,old,hd3,hkd3,hpk,hfew,keep⟩
    obtain ⟨⟨z,k⟩,hq,ez,hkz⟩:=pair_get hk1 hp
    obtain ⟨pk,pw⟩:=p
    replace ez:pk = .inr z:=ez
    replace hkz:KdAt K H pw k:=hkz
    subst ez
    have hi:i < m1.length:=(List.getElem?_eq_some_iff.mp hq).1
    have ea:=same_new ha (.tup [kV (.inr z),pw])
    refine ⟨a,_,rfl,SqT.of upd_same,rfl,_,_,rfl,_,_,rfl,rfl,?_⟩
    have gne:g ≠ d1:=fun e => by rw [e,hd1] at hg; cases hg
    have keepA:∀ b xs,SqT K H b xs → SqT K (upd H3 a (.tup [kV (.inr z),pw])) b xs:=fun b xs h => ea.tup (keep b xs h)
    refine ⟨_,rfl,_,rfl,pw,g,k,kvs,G,rfl,kd_keep keepA hkz,hdp (z,k) (List.mem_of_getElem? hq),ea _ _ (old g _ hg gne),fun nn => ?_,fun H4 v s4 hv => ?_⟩
    · rcases hG nn with h | ⟨v,k',h1,h2,h3⟩
      · exact .inl h
      · exact .inr ⟨v,k',h1,h2,kd_keep keepA h3⟩
    · have hkd4:=s4 _ _ (ea _ _ hkd3)
      refine ⟨_,rfl,_,rfl,kd,_,rfl,DPut.k (k:=.inr z) hkd4 (Nat.lt_of_lt_of_le (Nat.lt_succ_self _) (small (by omega))),?_⟩
      have kp5:∀ b xs,SqT K H4 b xs → SqT K (upd H4 kd (.dK (putK kv' (.inr z) v))) b xs:=fun b xs h => sqt_dk hkd4 h
      refine ⟨_,_,_,rfl,fun b u hb nb => ?_,?_,upd_same,?_,?_,fun b xs h => kp5 b xs (s4.tup (keepA b xs h))⟩
      · rw [upd_ne (fun e => by rw [e,hkd] at hb; cases hb)]
        exact s4 _ _ (ea _ _ (old b u hb nb))
      · rw [upd_ne (Ne.symm nkd)]
        exact s4 _ _ (ea _ _ hd3)
      · have et:(m1.take (i + 1)).map (putP G) = (m1.take i).map (putP G) ++ [(z,Kd.put G k)]:=by
          rw [List.take_add_one,hq]
          simp [putP]
        rw [et]
        refine PkAt.put (hpk.imp fun v' x' h => kd_keep (fun b xs t => kp5 b xs (s4.tup (ea.tup t))) h) ?_ (kd_keep kp5 hv)
        have e1:((m1.take i).map (putP G)).map (·.1) = (m1.map (·.1)).take i:=by
          rw [List.map_map,List.map_take]
          rfl
        rw [e1]
        exact out_take hnd (by rw [List.getElem?_map,hq]; rfl)
      · have:=length_putK kv' (.inr z) v
        omega
  · rintro σ H3 ⟨kv',y3,y4,rfl,old,hd3,hkd3,hpk,hfew,keep⟩
    refine ⟨d1,o,.dK kv1,hd3,fun o' u' e => ?_,?_⟩
    · have e':H d1 = some (.frz o' u'):=e
      rw [hd1] at e'
      cases e'
    · have hs:Same H (upd H3 d1 (.dK kv1)):=fun b u hb => by
        by_cases e:b = d1
        · rw [e] at hb ⊢
          rw [hd1] at hb
          cases hb
          exact upd_same
        · rw [upd_ne e]
          exact old b u hb e
      refine q _ y3 y4 kv' hs (by rw [upd_ne nkd]; exact hkd3) ?_
      rw [hlen,List.take_length] at hpk
      exact hpk.imp fun v x h => kd_keep (fun a xs t => sqt_fz hd3 t) h
end
end K29
namespace K29
open PySem L2 Kk
section
variable {P:Program} {w:World} {K:PySem.W.Frag} {mg:Str → Option Value} {base:Heap}
noncomputable def putQ (G:Str × Str → Option Kd) (q:Str × (List Kd × Kd)):Str × (List Kd × Kd):=(q.1,(q.2.1.map (Kd.put G),Kd.put G q.2.2))
theorem pf_loop2 {n:Nat} {f fp CF:Addr} {fdp:FuncData} (GP:FnOk P w K mg base CX0 (n + 1) fp fdp ["fun","given"] (spPutFun K n)) (bP:Binds K fdp ["fun","given"] []) (kP:PySem.W.keepIn K (.ref fp) = true) (mP:mg "put_in_fun" = some (.ref fp)) (cF:Cls K CF) (nK:NoAttr K CF "funs")
    {cdv:Value} {A:Around} {outer:List Env} {s:Shared} {H:Hp} {E:XK} (hr:Room (n + 2) (A.deeper (PyProof.Rows.envOfC "put_in_face" (defScope sPutFace) s.heap.objs.size f cdv))) :
    ∃ t,PS (cxOf CX0 P w K mg base pfN "put_in_face" (defScope sPutFace) f cdv A outer s H E).nox ((defBody sPutFace).getD 3 (.Pass ⟨0,0,0,0⟩)) t ∧
      ∀ (D:Ends) (B H1:Hp) (fa g dx d1 kd:Addr) (k0 y3 y4:Option V) (fs:List (Str × V)) (kv1:List (Key × V)) (m1:List (Str × (List Kd × Kd))) (kvs:List (List Key × V)) (G:Str × Str → Option Kd),(∀ o u,H d1 ≠ some (.frz o u)) → Same B H1 → B fa = some (.ins CF dx fs) → fs.lookup ("funs":Str) = some (.ref d1) → B d1 = some (.dK kv1) → PkAt (FunAt K B) kv1 m1 → (m1.map (·.1)).Nodup → m1.length ≤ 100 →
        (∀ q ∈ m1,(∀ k ∈ q.2.1,Kd.depth k ≤ n) ∧ Kd.depth q.2.2 ≤ n ∧ q.2.1.length ≤ 100) → B g = some (.dT kvs) → GvAt K B kvs G → B kd = none → H1 kd = some (.dK []) →
        (∀ (H4:Hp) (y3 y6:Option V) (kv':List (Key × V)),Same B H4 → H4 kd = some (.dK kv') → PkAt (FunAt K H4) kv' (m1.map (putQ G)) → D.nx [some (.ref fa),some (.ref g),k0,y3,y4,some (.ref kd),y6] H4) →
        t D [some (.ref fa),some (.ref g),k0,y3,y4,some (.ref kd),none] H1:=by
  have hu:=hu_of hr
  have hr0:Room (n + 1) _:=hr.mono (by omega)
  refine ⟨_,ps_thaw (ps_for PassesOwn.never rfl (pi_items (pe_fld (pv 0) rfl)) (pg_tup rfl (pgs_cons (pg_name (i:=3) scPutFace.nd rfl (Or.inl rfl)) (pgs_cons (pg_name (i:=6) scPutFace.nd rfl (Or.inl rfl)) pgs_nil)))
      (pss_one (ps_dput hu (pv 5) (pv 3) (pe_call GP hr0 (by rfl) mP kP bP .nil pass0 (pa_cons (pv 6) (pa_cons (pv 1) pa_nil))) rfl))),?_⟩
  intro D B H1 fa g dx d1 kd k0 y30 y4 fs kv1 m1 kvs G hH s1 hfa hl1 hd1 hk1 hnd h100 hdp hg hG hkd hkd1 q
  have hlen:kv1.length = m1.length:=Paired.length hk1
  have nkd:kd ≠ d1:=fun e => by rw [e,hd1] at hkd; cases hkd
  refine ⟨_,rfl,fa,CF,dx,fs,_,rfl,s1 _ _ hfa,cF,nK,hl1,d1,kv1,rfl,s1 _ _ hd1,fun o => ?_⟩
  refine for_items (fun i σ H3 => ∃ (kv':List (Key × V)) (y3 y6:Option V),σ = [some (.ref fa),some (.ref g),k0,y3,y4,some (.ref kd),y6] ∧ (∀ b u,B b = some u → b ≠ d1 → H3 b = some u) ∧ H3 d1 = some (.frz o (.dK kv1)) ∧ H3 kd = some (.dK kv') ∧
    PkAt (FunAt K H3) kv' ((m1.take i).map (putQ G)) ∧ kv'.length ≤ i ∧ (∀ a xs,SqT K B a xs → SqT K H3 a xs)) ?_ ?_ ?_ ?_
  · refine ⟨[],y30,none,rfl,fun b u hb nb => by rw [upd_ne nb]; exact s1 _ _ hb,upd_same,by rw [upd_ne nkd]; exact hkd1,.nil,Nat.le_refl _,fun a xs h => sqt_dk (s1 _ _ hd1) (s1.tup h)⟩
  · rintro i σ H3 _ ⟨_,_,_,_,_,h,_⟩
    exact h
  · rintro i p a σ H3 hp ha ⟨kv',y3,y6,rfl,old,hd3,hkd3,hpk,hfew,keep⟩
    obtain ⟨⟨z,k⟩,hq,ez,hkz⟩:=pair_get hk1 hp
    obtain ⟨pk,pw⟩:=p
    replace ez:pk = .inr z:=ez
    replace hkz:FunAt K B pw k:=hkz
    obtain ⟨tp,ta,tx,txs,rfl,f1,f2,f3,f4⟩:=hkz
    obtain ⟨dpA,dpB,dpC⟩:=hdp (z,k) (List.mem_of_getElem? hq)
    subst ez
    have hi:i < m1.length:=(List.getElem?_eq_some_iff.mp hq).1
    have ea:=same_new ha (.tup [kV (.inr z),.ref tp])
    refine ⟨a,_,rfl,SqT.of upd_same,rfl,_,_,rfl,_,_,rfl,rfl,?_⟩
    have gne:g ≠ d1:=fun e => by rw [e,hd1] at hg; cases hg
    have keepA:∀ b xs,SqT K B b xs → SqT K (upd H3 a (.tup [kV (.inr z),.ref tp])) b xs:=fun b xs h => ea.tup (keep b xs h)
    refine ⟨_,rfl,_,rfl,tp,g,ta,tx,txs,k.1,k.2,kvs,G,rfl,keepA _ _ f1,keepA _ _ f2,kds_keep keepA f3,kd_keep keepA f4,dpA,dpB,dpC,ea _ _ (old g _ hg gne),fun nn => ?_,fun H4 p4 ta4 xs4 x4 s4 v1 v2 v3 v4 => ?_⟩
    · rcases hG nn with h | ⟨v,k',h1,h2,h3⟩
      · exact .inl h
      · exact .inr ⟨v,k',h1,h2,kd_keep keepA h3⟩
    · have hkd4:=s4 _ _ (ea _ _ hkd3)
      refine ⟨_,rfl,_,rfl,kd,_,rfl,DPut.k (k:=.inr z) hkd4 (Nat.lt_of_lt_of_le (Nat.lt_succ_self _) (small (by omega))),?_⟩
      have kp5:∀ b xs,SqT K H4 b xs → SqT K (upd H4 kd (.dK (putK kv' (.inr z) (.ref p4)))) b xs:=fun b xs h => sqt_dk hkd4 h
      refine ⟨_,_,_,rfl,fun b u hb nb => ?_,?_,upd_same,?_,?_,fun b xs h => kp5 b xs (s4.tup (keepA b xs h))⟩
      · rw [upd_ne (fun e => by rw [e,hkd] at hb; cases hb)]
        exact s4 _ _ (ea _ _ (old b u hb nb))
      · rw [upd_ne (Ne.symm nkd)]
        exact s4 _ _ (ea _ _ hd3)
      · have et:(m1.take (i + 1)).map (putQ G) = (m1.take i).map (putQ G) ++ [(z,(k.1.map (Kd.put G),Kd.put G k.2))]:=by
          rw [List.take_add_one,hq]
          simp [putQ]
        rw [et]
        refine PkAt.put (hpk.imp fun v' x' h => h.keep (fun b xs t => kp5 b xs (s4.tup (ea.tup t)))) ?_ ⟨p4,ta4,x4,xs4,rfl,kp5 _ _ (SqT.of v1),kp5 _ _ (SqT.of v2),kds_keep kp5 v3,kd_keep kp5 v4⟩
        have e1:((m1.take i).map (putQ G)).map (·.1) = (m1.map (·.1)).take i:=by
          rw [List.map_map,List.map_take]
          rfl
        rw [e1]
        exact out_take hnd (by rw [List.getElem?_map,hq]; rfl)
      · have:=length_putK kv' (.inr z) (.ref p4)
        omega
  · rintro σ H3 ⟨kv',y3,y6,rfl,old,hd3,hkd3,hpk,hfew,keep⟩
    refine ⟨d1,o,.dK kv1,hd3,fun o' u' e => hH o' u' e,?_⟩
    · have hs:Same B (upd H3 d1 (.dK kv1)):=fun b u hb => by
        by_cases e:b = d1
        · rw [e] at hb ⊢
          rw [hd1] at hb
          cases hb
          exact upd_same
        · rw [upd_ne e]
          exact old b u hb e
      refine q _ y3 y6 kv' hs (by rw [upd_ne nkd]; exact hkd3) ?_
      rw [hlen,List.take_length] at hpk
      exact hpk.imp fun v x h => h.keep (fun a xs t => sqt_fz hd3 t)
end
end K29
namespace K29
open PySem L2 Kk
noncomputable def FaceN (K:PySem.W.Frag) (H0 H:Hp) (CF fa:Addr) (m1:List (Str × Kd)) (m2:List (Str × (List Kd × Kd))):Prop :=
  ∃ (dx d1 d2:Addr) (fs:List (Str × V)) (kv1 kv2:List (Key × V)),H0 d1 = none ∧ H0 d2 = none ∧ d1 ≠ d2 ∧ H fa = some (.ins CF dx fs) ∧ fs.lookup ("kinds":Str) = some (.ref d1) ∧ fs.lookup ("funs":Str) = some (.ref d2) ∧ H d1 = some (.dK kv1) ∧ H d2 = some (.dK kv2) ∧ PkAt (KdAt K H) kv1 m1 ∧ PkAt (FunAt K H) kv2 m2 ∧ fs.lookup ("hidden":Str) = none ∧ fs.lookup ("put":Str) = none
noncomputable def spPutFace (K:PySem.W.Frag) (CF:Addr) (n:Nat):Sp:=fun vs H Q _ => ∃ (fa g:Addr) (m1:List (Str × Kd)) (m2:List (Str × (List Kd × Kd))) (kvs:List (List Key × V)) (G:Str × Str → Option Kd),vs = [.ref fa,.ref g] ∧ FaceF K H CF fa m1 m2 ∧ (m1.map (·.1)).Nodup ∧ (m2.map (·.1)).Nodup ∧ m1.length ≤ 100 ∧ m2.length ≤ 100 ∧
  (∀ q ∈ m1,Kd.depth q.2 ≤ n) ∧ (∀ q ∈ m2,(∀ k ∈ q.2.1,Kd.depth k ≤ n) ∧ Kd.depth q.2.2 ≤ n ∧ q.2.1.length ≤ 100) ∧ H g = some (.dT kvs) ∧ GvAt K H kvs G ∧
  ∀ H' (x:Addr),Same H H' → H x = none → FaceN K H H' CF x (m1.map (putP G)) (m2.map (putQ G)) → Q (.ref x) H'
section
variable {P:Program} {w:World} {K:PySem.W.Frag} {mg:Str → Option Value} {base:Heap}
set_option maxHeartbeats 0 in
theorem ok_putFace {n:Nat} {f fp fq fi CF:Addr} {fd fdp fdq fdi:FuncData} (F:Fun K "put_in_face" "put_in_face" sPutFace f fd) (GP:FnOk P w K mg base CX0 n fp fdp ["kind","given"] (spPut K n)) (bP:Binds K fdp ["kind","given"] []) (kP:PySem.W.keepIn K (.ref fp) = true) (mP:mg "put" = some (.ref fp))
    (GF:FnOk P w K mg base CX0 (n + 1) fq fdq ["fun","given"] (spPutFun K n)) (bF:Binds K fdq ["fun","given"] []) (kF:PySem.W.keepIn K (.ref fq) = true) (mF:mg "put_in_fun" = some (.ref fq))
    (GI:FnOk P w K mg base CX0 1 fi fdi ["self","kinds","funs"] (spInitF CF)) (bI:Binds K fdi ["self","kinds","funs"] []) (MF:Mk K CF fi) (mC:mg "Face" = some (.ref CF)) (cF:Cls K CF) (nK:NoAttr K CF "kinds") (nF:NoAttr K CF "funs") :
    FnOk P w K mg base CX0 (n + 2 + 1) f fd ["face","given"] (spPutFace K CF n):=by
  refine F.ok scPutFace (fun vs H Q E h => ?_) (fun cdv A outer s H vs Q E hr h => ?_)
  · obtain ⟨fa,g,m1,m2,kvs,G,rfl,_⟩:=h
    rfl
  obtain ⟨fa,g,m1,m2,kvs,G,rfl,⟨dx,d1,d2,fs,kv1,kv2,hfa,l1,l2,hd1,hd2,hk1,hk2,_,_⟩,nd1,nd2,hm1,hm2,dp1,dp2,hg,hG,q⟩:=h
  have hr2:Room (1 + 1) _:=hr.mono (by omega)
  obtain ⟨t1,e1,k1⟩:=pf_loop (outer:=outer) (H:=H) (E:=E) GP bP kP mP cF nK hr
  obtain ⟨t3,e3,k3⟩:=pf_loop2 (outer:=outer) (H:=H) (E:=E) GF bF kF mF cF nF hr
  refine ⟨_,(@pss_cons _ _ _ _ _ (@ps_set _ _ 2 _ _ _ _ scPutFace.nd rfl (Or.inl rfl) (@pe_dnewK _ _) rfl (Or.inl rfl))
    (@pss_cons _ _ _ _ _ @e1
    (@pss_cons _ _ _ _ _ (@ps_set _ _ 5 _ _ _ _ scPutFace.nd rfl (Or.inl rfl) (@pe_dnewK _ _) rfl (Or.inl rfl))
    (@pss_cons _ _ _ _ _ @e3
    (pss_one (ps_ret (pe_make MF GI hr2 (by rfl) mC bI .nil pass0 (pa_cons (pv 2) (pa_cons (pv 5) pa_nil)))))))):PSs (cxOf CX0 P w K mg base pfN "put_in_face" (defScope sPutFace) f cdv A outer s H E).nox (defBody sPutFace) _),?_⟩
  intro kd hkd
  refine k1 _ _ fa g dx d1 kd fs kv1 m1 kvs G (same_new hkd _) hfa l1 hd1 hk1 nd1 hm1 dp1 hg hG hkd upd_same fun H4 y3 y4 kv' s4 hkd4 hpk => ?_
  intro fd2 hfd2
  refine k3 _ H4 _ fa g dx d2 fd2 _ y3 y4 fs kv2 m2 kvs G (fun o u e => by rw [hd2] at e; cases e) (same_new hfd2 _) (s4 _ _ hfa) l2 (s4 _ _ hd2) (hk2.imp fun v x h => h.keep fun a xs t => s4.tup t) nd2 hm2 dp2 (s4 _ _ hg) (hG.same s4) hfd2 upd_same fun H6 y3' y6 kv6 s6 hfd6 hpf => ?_
  refine ⟨_,rfl,_,rfl,fun x dx' nx ndx nex => ?_⟩
  have ea:=same_new ndx (.own x)
  have nx':upd H6 dx' (.own x) x = none:=by rw [upd_ne (Ne.symm nex)]; exact nx
  have eb:=same_new nx' (.ins CF dx' [])
  have eab:=ea.trans eb
  refine ⟨x,dx',kd,fd2,kv',kv6,rfl,upd_same,eab _ _ (s6 _ _ hkd4),eab _ _ hfd6,fun d e fs' H7 hd he nde hx lk lf lh lp hd7 he7 keep => ⟨rfl,?_⟩⟩
  have s7:Same H6 H7:=fun b o hb => keep b o (eab _ _ hb) (fun z => by rw [z,nx] at hb; cases hb)
  have sA:=s4.trans (s6.trans s7)
  exact q H7 x sA ((s4.trans s6).free nx) ⟨dx',d,e,fs',kv',kv6,(s4.trans (s6.trans eab)).free hd,(s4.trans (s6.trans eab)).free he,nde,hx,lk,lf,hd7,he7,hpk.imp fun v y h => (h.same s6).same s7,hpf.imp fun v y h => h.keep fun a xs t => s7.tup t,lh,lp⟩
end
end K29
namespace K29
open PySem L2 Kk
noncomputable abbrev sPutM:Stmt:=inClass (top 14) 1
noncomputable abbrev pmN:List Str:=["self","given","most","result","kind","taken","answer"]
section
variable {P:Program} {w:World} {K:PySem.W.Frag} {mg:Str → Option Value} {base:Heap}
theorem nofzN {H:Hp} {d:Addr} (h:H d = none):∀ o' u',H d ≠ some (.frz o' u'):=fun o' u' e => by
  rw [h] at e
  cases e
theorem scPutM:FnScope pmN ["self","given","most"] (defScope sPutM):=⟨rfl,rfl,rfl,by decide +kernel,rfl,by decide +kernel,by decide +kernel⟩
set_option maxHeartbeats 0 in
theorem pm_loop1 {f fb CF CT:Addr} {fdb:FuncData} (GB:FnOk P w K mg base (CX1 P w) 2 fb fdb ["kind","most"] (spBounded K CT)) (bB:Binds K fdb ["kind","most"] []) (kB:PySem.W.keepIn K (.ref fb) = true) (mB:mg "bounded" = some (.ref fb)) (cF:Cls K CF) (nK:NoAttr K CF "kinds")
    {cdv:Value} {A:Around} {outer:List Env} {s:Shared} {H:Hp} {E:XK} (hr:Room 2 (A.deeper (PyProof.Rows.envOfC "Face.put" (defScope sPutM) s.heap.objs.size f cdv))) :
    ∃ t,PS (cxOf (CX1 P w) P w K mg base pmN "Face.put" (defScope sPutM) f cdv A outer s H E) ((defBody sPutM).getD 1 (.Pass ⟨0,0,0,0⟩)) t ∧
      ∀ (D:Ends) (B:Hp) (a0 a1:Option V) (x dx d1:Addr) (fs:List (Str × V)) (kv1:List (Key × V)) (m1:List (Str × Kd)) (m:Int),Same H B → H d1 = none → B x = some (.ins CF dx fs) → fs.lookup ("kinds":Str) = some (.ref d1) → B d1 = some (.dK kv1) → PkAt (KdAt K B) kv1 m1 → m1.length ≤ 100 →
        (∀ q ∈ m1,q.2.words ≤ 900) → 0 ≤ m → m ≤ 1000000 →
        ((∀ q ∈ m1,(q.2.words:Int) ≤ m) → ∀ (H4:Hp) (y4:Option V),Same B H4 → D.nx [a0,a1,some (.int m),some (.ref x),y4,none,none] H4) →
        ((∃ q ∈ m1,¬ (q.2.words:Int) ≤ m) → ∀ H4:Hp,Same H H4 → E (.ref CT) none H4) →
        t D [a0,a1,some (.int m),some (.ref x),none,none,none] B:=by
  refine ⟨_,ps_thaw (ps_for PassesOwn.leaving rfl (pi_values (pe_fld (pv 3) rfl)) (pg_name (i:=4) scPutM.nd rfl (Or.inl rfl))
      (pss_one (ps_expr (pe_call GB hr rfl mB kB bB .nil pass1 (pa_cons (pv 4) (pa_cons (pv 2) pa_nil)))))),?_⟩
  intro D B a0 a1 x dx d1 fs kv1 m1 m sB hd0 hx hl1 hd1 hk1 h100 h9 m0 mM qN qE
  have hlen:kv1.length = m1.length:=Paired.length hk1
  refine ⟨_,rfl,x,CF,dx,fs,_,rfl,hx,cF,nK,hl1,d1,kv1,rfl,hd1,fun o => ?_⟩
  refine for_values (fun i σ H3 => ∃ y4:Option V,σ = [a0,a1,some (.int m),some (.ref x),y4,none,none] ∧ (∀ b u,B b = some u → b ≠ d1 → H3 b = some u) ∧ H3 d1 = some (.frz o (.dK kv1)) ∧ (∀ a xs,SqT K B a xs → SqT K H3 a xs) ∧ ∀ q ∈ m1.take i,(q.2.words:Int) ≤ m) ?_ ?_ ?_ ?_
  · exact ⟨none,rfl,fun b u hb nb => by rw [upd_ne nb]; exact hb,upd_same,fun a xs h => sqt_dk hd1 h,fun q hq => by simp at hq⟩
  · rintro i σ H3 _ ⟨_,_,_,h,_⟩
    exact h
  · rintro i p σ H3 hp ⟨y4,rfl,old,hd3,keep,hto⟩
    obtain ⟨⟨z,k⟩,hq,ez,hkz⟩:=pair_get hk1 hp
    obtain ⟨pk,pw⟩:=p
    replace hkz:KdAt K B pw k:=hkz
    have hmem:(z,k) ∈ m1:=List.mem_of_getElem? hq
    refine ⟨_,rfl,_,rfl,pw,k,m,rfl,kd_keep keep hkz,h9 _ hmem,m0,mM,fun H4 s4 => ?_⟩
    have old4:∀ b u,B b = some u → b ≠ d1 → H4 b = some u:=fun b u hb nb => s4 _ _ (old b u hb nb)
    by_cases c:(k.words:Int) > m
    · rw [if_pos c]
      refine qE ⟨_,hmem,by show ¬ (k.words:Int) ≤ m; omega⟩ H4 fun b u hb => old4 b u (sB _ _ hb) fun e => ?_
      rw [e,hd0] at hb
      cases hb
    · rw [if_neg c]
      refine ⟨_,rfl,old4,s4 _ _ hd3,fun a xs t => s4.tup (keep a xs t),fun q hq' => ?_⟩
      rw [List.take_add_one,hq] at hq'
      rcases List.mem_append.mp hq' with h | h
      · exact hto q h
      · rw [List.mem_singleton.mp h]
        show (k.words:Int) ≤ m
        omega
  · rintro σ H3 ⟨y4,rfl,old,hd3,keep,hto⟩
    rw [hlen,List.take_length] at hto
    refine ⟨d1,o,.dK kv1,hd3,nofzN hd0,qN hto _ y4 fun b u hb => ?_⟩
    by_cases e:b = d1
    · rw [e] at hb ⊢
      rw [hd1] at hb
      cases hb
      exact upd_same
    · rw [upd_ne e]
      exact old b u hb e
noncomputable def FunFit (m:Int) (g:List Kd × Kd):Prop:=(∀ k ∈ g.1,(k.words:Int) ≤ m) ∧ (g.2.words:Int) ≤ m
set_option maxHeartbeats 0 in
theorem pm_loop2 {f fb CF CT:Addr} {fdb:FuncData} (GB:FnOk P w K mg base (CX1 P w) 2 fb fdb ["kind","most"] (spBounded K CT)) (bB:Binds K fdb ["kind","most"] []) (kB:PySem.W.keepIn K (.ref fb) = true) (mB:mg "bounded" = some (.ref fb)) (cF:Cls K CF) (nF:NoAttr K CF "funs")
    {cdv:Value} {A:Around} {outer:List Env} {s:Shared} {H:Hp} {E:XK} (hr:Room 2 (A.deeper (PyProof.Rows.envOfC "Face.put" (defScope sPutM) s.heap.objs.size f cdv))) :
    ∃ t,PS (cxOf (CX1 P w) P w K mg base pmN "Face.put" (defScope sPutM) f cdv A outer s H E) ((defBody sPutM).getD 2 (.Pass ⟨0,0,0,0⟩)) t ∧
      ∀ (D:Ends) (B:Hp) (a0 a1 y4:Option V) (x dx d1:Addr) (fs:List (Str × V)) (kv1:List (Key × V)) (m1:List (Str × (List Kd × Kd))) (m:Int),Same H B → H d1 = none → B x = some (.ins CF dx fs) → fs.lookup ("funs":Str) = some (.ref d1) → B d1 = some (.dK kv1) → PkAt (FunAt K B) kv1 m1 → m1.length ≤ 100 →
        (∀ q ∈ m1,(∀ k ∈ q.2.1,k.words ≤ 900) ∧ q.2.2.words ≤ 900 ∧ q.2.1.length ≤ 100) → 0 ≤ m → m ≤ 1000000 →
        ((∀ q ∈ m1,FunFit m q.2) → ∀ (H4:Hp) (y4 y5 y6:Option V),Same B H4 → D.nx [a0,a1,some (.int m),some (.ref x),y4,y5,y6] H4) →
        ((∃ q ∈ m1,¬ FunFit m q.2) → ∀ H4:Hp,Same H H4 → E (.ref CT) none H4) →
        t D [a0,a1,some (.int m),some (.ref x),y4,none,none] B:=by
  refine ⟨_,ps_thaw (ps_for PassesOwn.leaving rfl (pi_values (pe_fld (pv 3) rfl)) (pg_tup rfl (pgs_cons (pg_name (i:=5) scPutM.nd rfl (Or.inl rfl)) (pgs_cons (pg_name (i:=6) scPutM.nd rfl (Or.inl rfl)) pgs_nil)))
      (pss_one (ps_for PassesOwn.leaving rfl (pi_tup (pe_op op_catA (pv 5) (pe_tup (pa_cons (pv 6) pa_nil)))) (pg_name (i:=4) scPutM.nd rfl (Or.inl rfl))
        (pss_one (ps_expr (pe_call GB hr rfl mB kB bB .nil pass1 (pa_cons (pv 4) (pa_cons (pv 2) pa_nil)))))))),?_⟩
  intro D B a0 a1 y40 x dx d1 fs kv1 m1 m sB hd0 hx hl1 hd1 hk1 h100 h9 m0 mM qN qE
  have hlen:kv1.length = m1.length:=Paired.length hk1
  refine ⟨_,rfl,x,CF,dx,fs,_,rfl,hx,cF,nF,hl1,d1,kv1,rfl,hd1,fun o => ?_⟩
  refine for_values (fun i σ H3 => ∃ y4 y5 y6:Option V,σ = [a0,a1,some (.int m),some (.ref x),y4,y5,y6] ∧ (∀ b u,B b = some u → b ≠ d1 → H3 b = some u) ∧ H3 d1 = some (.frz o (.dK kv1)) ∧ (∀ a xs,SqT K B a xs → SqT K H3 a xs) ∧ ∀ q ∈ m1.take i,FunFit m q.2) ?_ ?_ ?_ ?_
  · exact ⟨y40,none,none,rfl,fun b u hb nb => by rw [upd_ne nb]; exact hb,upd_same,fun a xs h => sqt_dk hd1 h,fun q hq => by simp at hq⟩
  · rintro i σ H3 _ ⟨_,_,_,_,_,h,_⟩
    exact h
  · rintro i p σ H3 hp ⟨y4,y5,y6,rfl,old,hd3,keep,hto⟩
    obtain ⟨⟨z,g⟩,hq,ez,hkz⟩:=pair_get hk1 hp
    obtain ⟨pk,pw⟩:=p
    replace hkz:FunAt K B pw g:=hkz
    obtain ⟨tp,ta,tx,txs,rfl,f1,f2,f3,f4⟩:=hkz
    have hmem:(z,g) ∈ m1:=List.mem_of_getElem? hq
    obtain ⟨w1,w2,w3⟩:=h9 _ hmem
    have hl3:=f3.length
    refine ⟨tp,_,rfl,keep _ _ f1,rfl,_,_,rfl,_,_,rfl,rfl,?_⟩
    refine ⟨_,rfl,_,rfl,(by show 1 ≤ sizeLine; decide),fun p1 hp1 => ?_⟩
    have e1:=same_new hp1 (.tup [tx])
    have hw3:txs.length + ([tx]:List V).length ≤ sizeLine:=small (by show txs.length + 1 ≤ 1000; have:g.1.length ≤ 100:=w3; omega)
    refine ⟨ta,p1,txs,[tx],rfl,rfl,e1.tup (keep _ _ f2),SqT.of upd_same,(by intro z; cases z),hw3,fun p2 H4 s4 hp2 => ?_⟩
    have sA:=e1.trans s4
    have hks:KdsAt K B (txs ++ [tx]) (g.1 ++ [g.2]):=f3.append (one f4)
    refine ⟨p2,rfl,⟨_,hp2⟩,for_tup (K:=K) (xs:=txs ++ [tx]) (fun j σ H5 => ∃ y4:Option V,σ = [a0,a1,some (.int m),some (.ref x),y4,some (.ref ta),some tx] ∧ Same H4 H5 ∧ ∀ k ∈ (g.1 ++ [g.2]).take j,(k.words:Int) ≤ m) ⟨y4,rfl,Same.refl _,fun k hk => by simp at hk⟩ ?_ ?_ ?_⟩
    · rintro j σ H5 _ ⟨_,_,s5,_⟩
      exact s5.tup hp2
    · rintro j y σ H5 hy ⟨y4',rfl,s5,hto5⟩
      obtain ⟨k,hk,hky⟩:=kds_get hks hy
      have hkm:k ∈ g.1 ++ [g.2]:=List.mem_of_getElem? hk
      have hk9:k.words ≤ 900:=by
        rcases List.mem_append.mp hkm with h | h
        · exact w1 k h
        · rw [List.mem_singleton.mp h]; exact w2
      have keep5:∀ a xs,SqT K B a xs → SqT K H5 a xs:=fun a xs t => (sA.trans s5).tup (keep a xs t)
      refine ⟨_,rfl,_,rfl,y,k,m,rfl,kd_keep keep5 hky,hk9,m0,mM,fun H6 s6 => ?_⟩
      by_cases c:(k.words:Int) > m
      · rw [if_pos c]
        refine qE ⟨_,hmem,fun hf => ?_⟩ H6 fun b u hb => s6 _ _ (s5 _ _ (sA _ _ (old b u (sB _ _ hb) fun e => ?_)))
        · rcases List.mem_append.mp hkm with h | h
          · have:=hf.1 k h
            omega
          · have h2:(g.2.words:Int) ≤ m:=hf.2
            rw [List.mem_singleton.mp h] at c
            omega
        · rw [e,hd0] at hb
          cases hb
      · rw [if_neg c]
        refine ⟨_,rfl,s5.trans s6,fun k' hk' => ?_⟩
        rw [List.take_add_one,hk] at hk'
        rcases List.mem_append.mp hk' with h | h
        · exact hto5 k' h
        · rw [List.mem_singleton.mp h]
          omega
    · rintro σ H5 ⟨y4',rfl,s5,hto5⟩
      have el:(txs ++ [tx]).length = (g.1 ++ [g.2]).length:=hks.length
      rw [el,List.take_length] at hto5
      refine ⟨_,_,_,rfl,fun b u hb nb => s5 _ _ (sA _ _ (old b u hb nb)),s5 _ _ (sA _ _ hd3),fun a xs t => (sA.trans s5).tup (keep a xs t),fun q hq' => ?_⟩
      rw [List.take_add_one,hq] at hq'
      rcases List.mem_append.mp hq' with h | h
      · exact hto q h
      · rw [List.mem_singleton.mp h]
        exact ⟨fun k hk => hto5 k (List.mem_append_left _ hk),hto5 g.2 (List.mem_append_right _ (List.mem_singleton.mpr rfl))⟩
  · rintro σ H3 ⟨y4,y5,y6,rfl,old,hd3,keep,hto⟩
    rw [hlen,List.take_length] at hto
    refine ⟨d1,o,.dK kv1,hd3,nofzN hd0,qN hto _ y4 y5 y6 fun b u hb => ?_⟩
    by_cases e:b = d1
    · rw [e] at hb ⊢
      rw [hd1] at hb
      cases hb
      exact upd_same
    · rw [upd_ne e]
      exact old b u hb e
noncomputable def FitsM (m:Int) (m1:List (Str × Kd)) (m2:List (Str × (List Kd × Kd))):Prop:=(∀ q ∈ m1,(q.2.words:Int) ≤ m) ∧ ∀ q ∈ m2,FunFit m q.2
noncomputable def spPutM (K:PySem.W.Frag) (CF CT:Addr) (n:Nat):Sp:=fun vs H Q E => ∃ (fa g:Addr) (m:Int) (m1:List (Str × Kd)) (m2:List (Str × (List Kd × Kd))) (kvs:List (List Key × V)) (G:Str × Str → Option Kd),vs = [.ref fa,.ref g,.int m] ∧ FaceF K H CF fa m1 m2 ∧ (m1.map (·.1)).Nodup ∧ (m2.map (·.1)).Nodup ∧ m1.length ≤ 100 ∧ m2.length ≤ 100 ∧
  (∀ q ∈ m1,Kd.depth q.2 ≤ n) ∧ (∀ q ∈ m2,(∀ k ∈ q.2.1,Kd.depth k ≤ n) ∧ Kd.depth q.2.2 ≤ n ∧ q.2.1.length ≤ 100) ∧ H g = some (.dT kvs) ∧ GvAt K H kvs G ∧
  (∀ q ∈ m1,(Kd.put G q.2).words ≤ 900) ∧ (∀ q ∈ m2,(∀ k ∈ q.2.1,(Kd.put G k).words ≤ 900) ∧ (Kd.put G q.2.2).words ≤ 900) ∧ 0 ≤ m ∧ m ≤ 1000000 ∧
  (FitsM m (m1.map (putP G)) (m2.map (putQ G)) → ∀ H' (x:Addr),Same H H' → H x = none → FaceN K H H' CF x (m1.map (putP G)) (m2.map (putQ G)) → Q (.ref x) H') ∧
  (¬ FitsM m (m1.map (putP G)) (m2.map (putQ G)) → ∀ H',Same H H' → E (.ref CT) none H')
theorem ok_putM {n:Nat} {f fq fb CF CT:Addr} {dV:Value} {fd fdq fdb:FuncData} (F:FunD K "put" "Face.put" sPutM dV f fd) (GF:FnOk P w K mg base CX0 (n + 2 + 1) fq fdq ["face","given"] (spPutFace K CF n)) (bF:Binds K fdq ["face","given"] []) (kF:PySem.W.keepIn K (.ref fq) = true) (mF:mg "put_in_face" = some (.ref fq))
    (GB:FnOk P w K mg base (CX1 P w) 2 fb fdb ["kind","most"] (spBounded K CT)) (bB:Binds K fdb ["kind","most"] []) (kB:PySem.W.keepIn K (.ref fb) = true) (mB:mg "bounded" = some (.ref fb)) (cF:Cls K CF) (nK:NoAttr K CF "kinds") (nF:NoAttr K CF "funs") :
    FnOk P w K mg base (CX1 P w) (n + 2 + 1 + 1) f fd ["self","given","most"] (spPutM K CF CT n):=by
  refine F.okX scPutM (fun vs H Q E h => ?_) (fun cdv A outer s H vs Q E hr h => ?_)
  · obtain ⟨fa,g,m,m1,m2,kvs,G,rfl,_⟩:=h
    rfl
  obtain ⟨fa,g,m,m1,m2,kvs,G,rfl,hF,nd1,nd2,hm1,hm2,dp1,dp2,hg,hG,w1,w2,m0,mM,qN,qE⟩:=h
  have hr2:Room 2 _:=hr.mono (by omega)
  obtain ⟨t1,e1,k1⟩:=pm_loop1 (outer:=outer) (H:=H) (E:=E) GB bB kB mB cF nK hr2
  obtain ⟨t2,e2,k2⟩:=pm_loop2 (outer:=outer) (H:=H) (E:=E) GB bB kB mB cF nF hr2
  refine ⟨_,(@pss_cons _ _ _ _ _ (ps_set (i:=3) scPutM.nd rfl (Or.inl rfl) (pe_call GF hr (by rfl) mF kF bF .nil pass0 (pa_cons (pv 0) (pa_cons (pv 1) pa_nil))))
    (@pss_cons _ _ _ _ _ @e1
    (@pss_cons _ _ _ _ _ @e2
    (pss_one (ps_ret (pv 3))))):PSs (cxOf (CX1 P w) P w K mg base pmN "Face.put" (defScope sPutM) f cdv A outer s H E) (defBody sPutM) _),?_⟩
  refine ⟨_,rfl,_,rfl,fa,g,m1,m2,kvs,G,rfl,hF,nd1,nd2,hm1,hm2,dp1,dp2,hg,hG,fun H1 x s1 hx hN => ?_⟩
  obtain ⟨dx,d1,d2,fs,kv1,kv2,n1,n2,ne,hfx,l1,l2,hd1,hd2,hk1,hk2,lh,lp⟩:=id hN
  refine k1 _ H1 _ _ x dx d1 fs kv1 (m1.map (putP G)) m s1 n1 hfx l1 hd1 hk1 (by rw [List.length_map]; exact hm1) ?_ m0 mM (fun hf1 H2 y4 s2 => ?_) fun hb1 H2 s2 => qE (fun hf => ?_) H2 s2
  · intro q hq
    obtain ⟨q',hq',rfl⟩:=List.mem_map.mp hq
    exact w1 q' hq'
  · refine k2 _ H2 _ _ y4 x dx d2 fs kv2 (m2.map (putQ G)) m (s1.trans s2) n2 (s2 _ _ hfx) l2 (s2 _ _ hd2) (hk2.imp fun v y h => h.keep fun a xs t => s2.tup t) (by rw [List.length_map]; exact hm2) ?_ m0 mM (fun hf2 H3 y4 y5 y6 s3 => ?_) fun hb2 H3 s3 => qE (fun hf => ?_) H3 s3
    · intro q hq
      obtain ⟨q',hq',rfl⟩:=List.mem_map.mp hq
      refine ⟨fun k hk => ?_,(w2 q' hq').2,?_⟩
      · obtain ⟨k',hk',rfl⟩:=List.mem_map.mp hk
        exact (w2 q' hq').1 k' hk'
      · show (q'.2.1.map (Kd.put G)).length ≤ 100
        rw [List.length_map]
        exact (dp2 q' hq').2.2
    · have s23:=s2.trans s3
      refine ⟨_,rfl,qN ⟨hf1,hf2⟩ H3 x (s1.trans s23) hx ⟨dx,d1,d2,fs,kv1,kv2,n1,n2,ne,s23 _ _ hfx,l1,l2,s23 _ _ hd1,s23 _ _ hd2,hk1.imp fun v y h => h.same s23,hk2.imp fun v y h => h.keep fun a xs t => s23.tup t,lh,lp⟩⟩
    · obtain ⟨q,hq,hn⟩:=hb2
      exact hn (hf.2 q hq)
  · obtain ⟨q,hq,hn⟩:=hb1
    exact hn (hf.1 q hq)
end
end K29
namespace K29
open PySem L2 Kk
noncomputable def ownG (gl:List (Str × Kd)):Str × Str → Option Kd:=fun n => if n.1 = "" then look gl n.2 else none
noncomputable def spPutL (K:PySem.W.Frag) (n:Nat):Sp:=fun vs H Q _ => ∃ (x:V) (g:Addr) (k:Kd) (kvs:List (Key × V)) (gl:List (Str × Kd)),vs = [x,.ref g] ∧ KdAt K H x k ∧ Kd.depth k ≤ n ∧ H g = some (.dK kvs) ∧ PkAt (KdAt K H) kvs gl ∧
  ∀ H' v,Same H H' → KdAt K H' v (Kd.put (ownG gl) k) → Q v H'
section
variable {P:Program} {w:World} {K:PySem.W.Frag} {mg:Str → Option Value} {base:Heap}
noncomputable abbrev plP:List Str:=["_law_kind","_law_given"]
theorem scPutL:FnScope plP plP (defScope sPutL):=⟨rfl,rfl,rfl,by decide +kernel,rfl,by decide +kernel,by decide +kernel⟩
theorem ok_putL {f:Addr} {fd:FuncData} (F:Fun K "_law_put" "_law_put" sPutL f fd) (bP:Binds K fd plP []) (kP:PySem.W.keepIn K (.ref f) = true) (mP:mg "_law_put" = some (.ref f)) :
    ∀ n,FnOk P w K mg base CX0 n f fd plP (spPutL K n)
  | 0 => ⟨fun vs H Q E h => by obtain ⟨x,g,k,kvs,gl,rfl,_⟩:=h; rfl,fun A outer s H args us vs Q E _ _ _ _ h => by
      obtain ⟨x,g,k,kvs,gl,_,_,hd,_⟩:=h
      have:=depth_pos k
      omega⟩
  | n + 1 => by
    have IH:=ok_putL F bP kP mP n
    refine F.ok scPutL (fun vs H Q E h => ?_) (fun cdv A outer s H vs Q E hr h => ?_)
    · obtain ⟨x,g,k,kvs,gl,rfl,_⟩:=h
      rfl
    obtain ⟨x,g,k,kvs,gl,rfl,hk,hd,hg,hG,q⟩:=h
    have hu:=hu_of hr
    refine ⟨_,pss_cons (ps_if (pt_cmpR op_eq (pe_ix ix_tup (pv 0) pe_int (fun _ _ => rfl)) pe_str (nomark _))
        (pss_one (ps_ret (pe_tup (pa_cons pe_str (pa_cons (pe_call IH hr rfl mP kP bP .nil pass0 (pa_cons (pe_ix ix_tup (pv 0) pe_int (fun _ _ => rfl)) (pa_cons (pv 1) pa_nil)))
          (pa_cons (pe_call IH hr rfl mP kP bP .nil pass0 (pa_cons (pe_ix ix_tup (pv 0) pe_int (fun _ _ => rfl)) (pa_cons (pv 1) pa_nil))) pa_nil)))))) pss_nil)
      (pss_cons (ps_if (PW.pt (pw_and (pt_cmpR op_eq (pe_ix ix_tup (pv 0) pe_int (fun _ _ => rfl)) pe_str (nomark _)) (pw_and1 (pt_cmpR op_eq (pe_ix ix_tup (pv 0) pe_int (fun _ _ => rfl)) pe_str (nomark _)))))
        (pss_one (ps_ret (pe_dget2 hu (pv 1) (pe_ix ix_tup (pv 0) pe_int (fun _ _ => rfl)) (pv 0) ⟨rfl,rfl,rfl,rfl⟩))) pss_nil)
      (pss_one (ps_ret (pv 0)))),?_⟩
    cases hk with
    | @num p m t =>
      refine ⟨_,rfl,_,_,_,_,rfl,rfl,t,(show atI [V.str "num",.int m] 0 = some (.str "num") from rfl),rfl,_,rfl,ite2 (fun c => absurd c (by decide +kernel)) (fun _ => ?_)⟩
      refine ⟨_,rfl,_,_,_,_,rfl,rfl,t,(show atI [V.str "num",.int m] 0 = some (.str "num") from rfl),rfl,_,rfl,ite2 (fun c => absurd c (by decide +kernel)) (fun _ => iteF ?_)⟩
      exact ⟨_,rfl,q _ _ (Same.refl _) (.num t)⟩
    | @name p a b t =>
      refine ⟨_,rfl,_,_,_,_,rfl,rfl,t,(show atI [V.str "name",.str a,.str b] 0 = some (.str "name") from rfl),rfl,_,rfl,ite2 (fun c => absurd c (by decide +kernel)) (fun _ => ?_)⟩
      refine ⟨_,rfl,_,_,_,_,rfl,rfl,t,(show atI [V.str "name",.str a,.str b] 0 = some (.str "name") from rfl),rfl,_,rfl,ite2 (fun _ => ?_) (fun c => absurd (by decide +kernel) c)⟩
      refine ⟨_,rfl,_,_,_,_,rfl,rfl,t,(show atI [V.str "name",.str a,.str b] 1 = some (.str a) from rfl),rfl,_,rfl,ite2 (fun c => ?_) (fun c => ?_)⟩
      · have e:a = "":=V.str.inj (of_decide_eq_true c)
        subst e
        refine ⟨_,rfl,g,rfl,.inl ⟨kvs,.inl hg⟩,_,rfl,_,_,_,_,rfl,rfl,t,(show atI [V.str "name",.str "",.str b] 2 = some (.str b) from rfl),_,rfl,_,DGet.k (k:=.inr b) hg,q _ _ (Same.refl _) ?_⟩
        show KdAt K _ _ ((ownG gl ("",b)).getD (.name "" b))
        have eo:ownG gl ("",b) = look gl b:=if_pos rfl
        rw [eo]
        rcases look_val hG b with ⟨h1,h2⟩ | ⟨v,k',h1,h2,h3⟩
        · rw [h1,h2]
          exact .name t
        · rw [h1,h2]
          exact h3
      · have e:a ≠ "":=fun z => c (decide_eq_true (by rw [z]))
        refine ⟨_,rfl,q _ _ (Same.refl _) ?_⟩
        show KdAt K _ _ ((ownG gl (a,b)).getD (.name a b))
        have eo:ownG gl (a,b) = none:=if_neg e
        rw [eo]
        exact .name t
    | @pair p y z a b t ha hb =>
      have hd':1 + max (Kd.depth a) (Kd.depth b) ≤ n + 1:=hd
      refine ⟨_,rfl,_,_,_,_,rfl,rfl,t,(show atI [V.str "pair",y,z] 0 = some (.str "pair") from rfl),rfl,_,rfl,ite2 (fun _ => ?_) (fun c => absurd (by decide +kernel) c)⟩
      refine ⟨_,rfl,_,_,_,_,rfl,rfl,t,(show atI [V.str "pair",y,z] 1 = some y from rfl),_,rfl,y,g,a,kvs,gl,rfl,ha,by omega,hg,hG,fun H1 v1 s1 k1 => ?_⟩
      refine ⟨_,rfl,_,_,_,_,rfl,rfl,s1.tup t,(show atI [V.str "pair",y,z] 2 = some z from rfl),_,rfl,z,g,b,kvs,gl,rfl,hb.same s1,by omega,s1 _ _ hg,hG.imp fun _ _ h => h.same s1,fun H2 v2 s2 k2 => ?_⟩
      refine ⟨(by show 3 ≤ sizeLine; decide),fun c hc => q _ _ (same_trans (same_trans s1 s2) (same_new hc _)) ?_⟩
      exact .pair (SqT.of upd_same) ((k1.same s2).same (same_new hc _)) (k2.same (same_new hc _))
end
end K29
namespace K29
open PySem L2 Kk
theorem own_sm {z:Str} (h:smW z):Kd.sm (ownK z):=⟨⟨by decide +kernel,by decide +kernel⟩,h⟩
theorem e18:(0:Int) < ((10:Int) ^ (18:Int).toNat):=by decide
theorem sm_num (c:Int):Kd.sm (.num (1 + c % (10:Int) ^ (18:Int).toNat)):=by
  have a0:=Int.emod_nonneg c (Int.ne_of_gt e18)
  have a1:=Int.emod_lt_of_pos c e18
  have e10:(10:Int) ^ (18:Int).toNat = 10 ^ 18:=rfl
  refine ⟨by omega,?_⟩
  rw [e10] at a1 ⊢
  omega
theorem look_in {α:Type} {m:List (Str × α)} {z:Str} {x:α} (h:look m z = some x):(z,x) ∈ m:=by
  unfold look at h
  obtain ⟨q,hq,rfl⟩:=Option.map_eq_some_iff.mp h
  have e0:=List.find?_some hq
  have e:q.1 = z:=of_decide_eq_true e0
  rw [← e]
  exact List.mem_of_find?_eq_some hq
theorem in_look {α:Type}:∀ {m:List (Str × α)} {z:Str} {x:α},(m.map (·.1)).Nodup → (z,x) ∈ m → look m z = some x
  | [],_,_,_,h => nomatch h
  | (y,w) :: m,z,x,hn,h => by
    have hn':=List.nodup_cons.mp (List.map_cons ▸ hn)
    unfold look
    rw [List.find?_cons]
    by_cases e:y = z
    · have hy:(y,w) = (z,x):=by
        rcases List.mem_cons.mp h with q | q
        · exact q.symm
        · exact absurd (List.mem_map.mpr ⟨_,q,e.symm⟩) hn'.1
      rw [show decide ((y,w).1 = z) = true from decide_eq_true e]
      cases hy
      rfl
    · rw [show decide ((y,w).1 = z) = false from decide_eq_false e]
      refine in_look hn'.2 ((List.mem_cons.mp h).resolve_left fun q => e ?_)
      cases q
      rfl
noncomputable def over {α:Type} (m:List (Str × α)) (z:Str) (x:α):List (Str × α):=m.map fun q => if q.1 = z then (q.1,x) else q
noncomputable def less {α:Type} (m:List (Str × α)) (z:Str):List (Str × α):=m.filter fun q => decide (q.1 ≠ z)
theorem over_mem {α:Type} {m:List (Str × α)} {z:Str} {x:α} {q:Str × α} (h:q ∈ over m z x):(q = (z,x) ∧ ∃ y,(z,y) ∈ m) ∨ q ∈ m:=by
  unfold over at h
  obtain ⟨p,hp,rfl⟩:=List.mem_map.mp h
  by_cases e:p.1 = z
  · rw [if_pos e]
    refine .inl ⟨by rw [e],p.2,?_⟩
    rw [← e]
    exact hp
  · rw [if_neg e]
    exact .inr hp
theorem pk_map {α:Type} {R:V → α → Prop} {z:Str} {v:V} {x:α} (hv:R v x) {kvs:List (Key × V)} {m:List (Str × α)} (h:PkAt R kvs m):PkAt R (kvs.map fun kv => if kv.1 = .inr z then (kv.1,v) else kv) (over m z x):=by
  unfold PkAt at h
  induction h with
  | nil => exact .nil
  | @cons p q ps qs hd tl ih =>
    refine Paired.cons ?_ ih
    obtain ⟨e,r⟩:=hd
    dsimp only
    by_cases c:q.1 = z
    · rw [if_pos (show p.1 = .inr z by rw [e,c]),if_pos c]
      exact ⟨e,hv⟩
    · rw [if_neg (show ¬ p.1 = .inr z by rw [e]; exact fun w => c (Sum.inr.inj w)),if_neg c]
      exact ⟨e,r⟩
theorem PkAt.over {α:Type} {R:V → α → Prop} {z:Str} {v:V} {x y:α} {kvs:List (Key × V)} {m:List (Str × α)} (h:PkAt R kvs m) (hz:(z,y) ∈ m) (hv:R v x):PkAt R (putK kvs (.inr z) v) (over m z x):=by
  unfold putK
  rw [if_pos]
  · exact pk_map hv h
  · rw [List.any_eq_true]
    have:(Sum.inr z:Key) ∈ kvs.map (·.1):=by
      rw [h.keys]
      exact List.mem_map.mpr ⟨_,hz,rfl⟩
    obtain ⟨p,hp,e⟩:=List.mem_map.mp this
    exact ⟨p,hp,decide_eq_true e⟩
theorem PkAt.drop {α:Type} {R:V → α → Prop} {z:Str} {kvs:List (Key × V)} {m:List (Str × α)} (h:PkAt R kvs m):PkAt R (dropK kvs (.inr z)) (less m z):=by
  unfold PkAt at h
  induction h with
  | nil => exact .nil
  | @cons p q ps qs hd tl ih =>
    by_cases c:q.1 = z
    · rw [dropK_pos (by rw [hd.1,c])]
      unfold less
      rw [List.filter_cons_of_neg (by simpa using c)]
      exact ih
    · rw [dropK_neg (by rw [hd.1]; exact fun w => c (Sum.inr.inj w))]
      unfold less
      rw [List.filter_cons_of_pos (by simpa using c)]
      exact Paired.cons hd ih
structure FD (K:PySem.W.Frag) (H:Hp) (t d e:Addr) (kv fv:List (Key × V)) (m1:List (Str × Kd)) (m2:List (Str × (List Kd × Kd))):Prop where
  tu:SqT K H t [.ref d,.ref e]
  h1:H d = some (.dK kv)
  h2:H e = some (.dK fv)
  p1:PkAt (KdAt K H) kv m1
  p2:PkAt (FunAt K H) fv m2
theorem FD.same {K:PySem.W.Frag} {H H':Hp} {t d e:Addr} {kv fv:List (Key × V)} {m1:List (Str × Kd)} {m2:List (Str × (List Kd × Kd))} (x:FD K H t d e kv fv m1 m2) (s:Same H H'):FD K H' t d e kv fv m1 m2 :=
  ⟨s.tup x.tu,s _ _ x.h1,s _ _ x.h2,x.p1.imp fun _ _ h => h.same s,x.p2.imp fun _ _ h => h.keep fun _ _ t => s.tup t⟩
end K29
namespace K29
open PySem L2 Kk
inductive It where
  | hid (w:Str) | told (w:Str) (k:Kd) | fn (w:Str) (as:List Kd) (r:Kd)
noncomputable def ItAt (K:PySem.W.Frag) (H:Hp) (v:V):It → Prop
  | .hid w => ∃ p,v = .ref p ∧ SqT K H p [.str "hid",.str w]
  | .told w k => ∃ p x,v = .ref p ∧ SqT K H p [.str "told",.str w,x] ∧ KdAt K H x k
  | .fn w as r => ∃ p ta x xs,v = .ref p ∧ SqT K H p [.str "fun",.str w,.ref ta,x] ∧ SqT K H ta xs ∧ KdsAt K H xs as ∧ KdAt K H x r
theorem ItAt.keep {K:PySem.W.Frag} {H H':Hp} (hk:∀ a xs,SqT K H a xs → SqT K H' a xs) {v:V}:∀ {i:It},ItAt K H v i → ItAt K H' v i
  | .hid _,⟨p,h1,h2⟩ => ⟨p,h1,hk _ _ h2⟩
  | .told _ _,⟨p,x,h1,h2,h3⟩ => ⟨p,x,h1,hk _ _ h2,kd_keep hk h3⟩
  | .fn _ _ _,⟨p,ta,x,xs,h1,h2,h3,h4,h5⟩ => ⟨p,ta,x,xs,h1,hk _ _ h2,hk _ _ h3,kds_keep hk h4,kd_keep hk h5⟩
theorem ItAt.same {K:PySem.W.Frag} {H H':Hp} (s:Same H H') {v:V} {i:It} (h:ItAt K H v i):ItAt K H' v i:=h.keep fun _ _ t => s.tup t
noncomputable abbrev Rw:=List (Str × Kd) × List (Str × (List Kd × Kd))
noncomputable def rstep (g:Str → Option Kd) (s:Rw):It → Rw
  | .hid w => (s.1 ++ [(w,(g w).getD (ownK w))],s.2)
  | .told w k => (s.1 ++ [(w,Kd.put (ownG s.1) k)],s.2)
  | .fn w as r => (s.1,s.2 ++ [(w,putFn (ownG s.1) (as,r))])
noncomputable def rows (g:Str → Option Kd) (its:List It):Rw:=its.foldl (rstep g) ([],[])
noncomputable def It.k:It → Option Str
  | .hid w => some w | .told w _ => some w | .fn _ _ _ => none
noncomputable def It.f:It → Option Str
  | .fn w _ _ => some w | _ => none
noncomputable def kW (its:List It):List Str:=its.filterMap It.k
noncomputable def fW (its:List It):List Str:=its.filterMap It.f
theorem kW_snoc {its:List It} {it:It}:kW (its ++ [it]) = kW its ++ (It.k it).toList:=by
  unfold kW
  rw [List.filterMap_append]
  cases h:It.k it <;> simp [h]
theorem fW_snoc {its:List It} {it:It}:fW (its ++ [it]) = fW its ++ (It.f it).toList:=by
  unfold fW
  rw [List.filterMap_append]
  cases h:It.f it <;> simp [h]
theorem rows_snoc {g:Str → Option Kd} {its:List It} {it:It}:rows g (its ++ [it]) = rstep g (rows g its) it:=by
  unfold rows
  rw [List.foldl_append]
  rfl
theorem take_snoc {its:List It} {i:Nat} {it:It} (h:its[i]? = some it):its.take (i + 1) = its.take i ++ [it]:=by
  rw [List.take_add_one,h]
  rfl
theorem snoc_ind {P:List It → Prop} (h0:P []) (hs:∀ l it,P l → P (l ++ [it])):∀ l,P l:=fun l => by
  have:∀ n,P (l.take n):=fun n => by
    induction n with
    | zero => exact h0
    | succ n ih =>
      cases h:l[n]? with
      | none => rw [List.take_of_length_le (Nat.le_succ_of_le (List.getElem?_eq_none_iff.mp h))]; rw [List.take_of_length_le (List.getElem?_eq_none_iff.mp h)] at ih; exact ih
      | some x => rw [take_snoc h]; exact hs _ _ ih
  have:=this l.length
  rwa [List.take_length] at this
theorem rows_k (g:Str → Option Kd):∀ its,(rows g its).1.map (·.1) = kW its:=by
  refine snoc_ind rfl fun l it ih => ?_
  rw [rows_snoc,kW_snoc,← ih]
  cases it <;> simp [rstep,It.k]
theorem rows_f (g:Str → Option Kd):∀ its,(rows g its).2.map (·.1) = fW its:=by
  refine snoc_ind rfl fun l it ih => ?_
  rw [rows_snoc,fW_snoc,← ih]
  cases it <;> simp [rstep,It.f]
noncomputable def Tk (ws:List Str) (k:Kd):Prop:=(∃ z ∈ ws,k = ownK z) ∨ ∃ z ∈ ws,∃ n:Int,k = .pair (ownK z) (.num n) ∧ 0 ≤ n ∧ n ≤ 10 ^ 18
noncomputable def ItOk (pre:List It):It → Prop
  | .hid w => smW w ∧ w ∉ kW pre
  | .told w k => smW w ∧ w ∉ kW pre ∧ Tk (kW pre) k
  | .fn w as r => smW w ∧ w ∉ fW pre ∧ as.length ≤ 4 ∧ ∀ k ∈ r :: as,∃ z ∈ kW pre,k = ownK z
structure ItsOk (its:List It):Prop where
  each:∀ i it,its[i]? = some it → ItOk (its.take i) it
  l1:(kW its).length ≤ 16
  l2:(fW its).length ≤ 16
  ln:its.length ≤ 32
structure RS (s:Rw):Prop where
  k:∀ j q,s.1[j]? = some q → smW q.1 ∧ Kd.sm q.2 ∧ q.2.words ≤ 2 * j + 1 ∧ Kd.depth q.2 ≤ j + 1
  f:∀ q ∈ s.2,smW q.1 ∧ q.2.1.length ≤ 4 ∧ ∀ k ∈ q.2.2 :: q.2.1,∃ p ∈ s.1,k = p.2
  n1:(s.1.map (·.1)).Nodup
  n2:(s.2.map (·.1)).Nodup
theorem nd_snoc {α:Type} {l:List (Str × α)} {z:Str} {x:α} (h:(l.map (·.1)).Nodup) (hz:z ∉ l.map (·.1)):((l ++ [(z,x)]).map (·.1)).Nodup:=by
  rw [List.map_append,List.nodup_append]
  refine ⟨h,by simp,fun a ha b hb e => ?_⟩
  have hb':b = z:=List.mem_singleton.mp hb
  rw [e,hb'] at ha
  exact hz ha
theorem look_ex {α:Type} {m:List (Str × α)} {z:Str} (h:z ∈ m.map (·.1)):∃ x,look m z = some x:=by
  cases hh:look m z with
  | some x => exact ⟨x,rfl⟩
  | none =>
    unfold look at hh
    rw [Option.map_eq_none_iff,List.find?_eq_none] at hh
    obtain ⟨q,hq,e⟩:=List.mem_map.mp h
    exact absurd (decide_eq_true e) (hh q hq)
theorem own_put {ks:List (Str × Kd)} {z:Str} {k:Kd} (h:look ks z = some k):Kd.put (ownG ks) (ownK z) = k:=by
  show (ownG ks ("",z)).getD _ = k
  have e:ownG ks ("",z) = look ks z:=if_pos rfl
  rw [e,h]
  rfl
theorem get_snoc {α:Type} {l:List α} {x q:α} {j:Nat} (h:(l ++ [x])[j]? = some q):l[j]? = some q ∨ (j = l.length ∧ q = x):=by
  rcases Nat.lt_or_ge j l.length with hj | hj
  · rw [List.getElem?_append_left hj] at h
    exact .inl h
  · rw [List.getElem?_append_right hj] at h
    have h0:j - l.length = 0:=by
      have:=(List.getElem?_eq_some_iff.mp h).1
      simp only [List.length_singleton] at this
      omega
    rw [h0] at h
    exact .inr ⟨by omega,(Option.some.inj h).symm⟩
theorem RS.look {s:Rw} (h:RS s) {z:Str} (hz:z ∈ s.1.map (·.1)):∃ k,K29.look s.1 z = some k ∧ (z,k) ∈ s.1 ∧ ∃ j,j < s.1.length ∧ s.1[j]? = some (z,k):=by
  obtain ⟨k,hk⟩:=look_ex hz
  have hm:=look_in hk
  obtain ⟨j,hj⟩:=List.mem_iff_getElem?.mp hm
  exact ⟨k,hk,hm,j,(List.getElem?_eq_some_iff.mp hj).1,hj⟩
theorem RS.step {g:Str → Option Kd} (hg:∀ z k,g z = some k → Kd.sm k ∧ k.words = 1 ∧ Kd.depth k = 1) {s:Rw} {it:It} {pre:List It} (h:RS s) (h1:s.1.map (·.1) = kW pre) (h2:s.2.map (·.1) = fW pre) (ok:ItOk pre it):RS (rstep g s it):=by
  cases it with
  | hid w =>
    obtain ⟨sw,nw⟩:=ok
    rw [← h1] at nw
    refine ⟨fun j q hq => ?_,fun q hq => ?_,nd_snoc h.n1 nw,h.n2⟩
    · rcases get_snoc hq with hq | ⟨_,rfl⟩
      · exact h.k j q hq
      · refine ⟨sw,?_⟩
        show Kd.sm ((g w).getD (ownK w)) ∧ ((g w).getD (ownK w)).words ≤ _ ∧ Kd.depth ((g w).getD (ownK w)) ≤ _
        cases e:g w with
        | none => exact ⟨own_sm sw,by show 1 ≤ _; omega,by show 1 ≤ _; omega⟩
        | some k =>
          obtain ⟨a,b,c⟩:=hg w k e
          exact ⟨a,by show k.words ≤ _; omega,by show Kd.depth k ≤ _; omega⟩
    · obtain ⟨a,b,c⟩:=h.f q hq
      exact ⟨a,b,fun k hk => let ⟨p,hp,e⟩:=c k hk; ⟨p,List.mem_append_left _ hp,e⟩⟩
  | told w k =>
    obtain ⟨sw,nw,tk⟩:=ok
    rw [← h1] at nw tk
    refine ⟨fun j q hq => ?_,fun q hq => ?_,nd_snoc h.n1 nw,h.n2⟩
    · rcases get_snoc hq with hq | ⟨ej,rfl⟩
      · exact h.k j q hq
      · refine ⟨sw,?_⟩
        show Kd.sm (Kd.put (ownG s.1) k) ∧ (Kd.put (ownG s.1) k).words ≤ _ ∧ Kd.depth (Kd.put (ownG s.1) k) ≤ _
        rcases tk with ⟨z,hz,rfl⟩ | ⟨z,hz,n,rfl,n0,n1⟩
        · obtain ⟨k',e,_,i,hi,hj⟩:=h.look hz
          obtain ⟨_,a,b,c⟩:=h.k i _ hj
          rw [own_put e]
          exact ⟨a,by show k'.words ≤ _; have:k'.words ≤ 2 * i + 1:=b; omega,by show Kd.depth k' ≤ _; have:Kd.depth k' ≤ i + 1:=c; omega⟩
        · obtain ⟨k',e,_,i,hi,hj⟩:=h.look hz
          obtain ⟨_,a,b,c⟩:=h.k i _ hj
          have e':Kd.put (ownG s.1) (.pair (ownK z) (.num n)) = .pair k' (.num n):=by
            show Kd.pair (Kd.put (ownG s.1) (ownK z)) (.num n) = _
            rw [own_put e]
          rw [e']
          have b':k'.words ≤ 2 * i + 1:=b
          have c':Kd.depth k' ≤ i + 1:=c
          refine ⟨⟨a,n0,n1⟩,?_,?_⟩
          · show 1 + k'.words + 1 ≤ _
            omega
          · show 1 + max (Kd.depth k') 1 ≤ _
            have:=depth_pos k'
            omega
    · obtain ⟨a,b,c⟩:=h.f q hq
      exact ⟨a,b,fun k hk => let ⟨p,hp,e⟩:=c k hk; ⟨p,List.mem_append_left _ hp,e⟩⟩
  | fn w as r =>
    obtain ⟨sw,nw,l4,al⟩:=ok
    rw [← h2] at nw
    rw [← h1] at al
    refine ⟨h.k,fun q hq => ?_,h.n1,nd_snoc h.n2 nw⟩
    rcases List.mem_append.mp hq with hq | hq
    · exact h.f q hq
    · rw [List.mem_singleton.mp hq]
      have one:∀ k ∈ r :: as,∃ p ∈ s.1,Kd.put (ownG s.1) k = p.2:=fun k hk => by
        obtain ⟨z,hz,rfl⟩:=al k hk
        obtain ⟨k',e,hm,_⟩:=h.look hz
        exact ⟨_,hm,own_put e⟩
      refine ⟨sw,by show (as.map _).length ≤ 4; rw [List.length_map]; exact l4,fun k hk => ?_⟩
      rcases List.mem_cons.mp hk with rfl | hk
      · exact one r (.head _)
      · obtain ⟨k',hk',rfl⟩:=List.mem_map.mp hk
        exact one k' (.tail _ hk')
theorem rows_rs {g:Str → Option Kd} (hg:∀ z k,g z = some k → Kd.sm k ∧ k.words = 1 ∧ Kd.depth k = 1) {its:List It} (h:ItsOk its):∀ i,i ≤ its.length → RS (rows g (its.take i))
  | 0,_ => ⟨fun j q hq => (nomatch hq),fun q hq => (nomatch hq),List.nodup_nil,List.nodup_nil⟩
  | i + 1,hi => by
    have ih:=rows_rs hg h i (by omega)
    have e:=List.getElem?_eq_getElem (l:=its) (i:=i) (by omega)
    rw [take_snoc e,rows_snoc]
    exact ih.step hg (rows_k g _) (rows_f g _) (h.each i _ e)
theorem kW_take {its:List It} (h:ItsOk its) (i:Nat):(kW (its.take i)).length ≤ 16:=by
  refine Nat.le_trans ?_ h.l1
  unfold kW
  exact (List.Sublist.filterMap _ (List.take_sublist i its)).length_le
theorem fW_take {its:List It} (h:ItsOk its) (i:Nat):(fW (its.take i)).length ≤ 16:=by
  refine Nat.le_trans ?_ h.l2
  unfold fW
  exact (List.Sublist.filterMap _ (List.take_sublist i its)).length_le
end K29
namespace K29
open PySem L2 Kk
noncomputable def spRows (K:PySem.W.Frag):Sp:=fun vs H Q _ => ∃ (l g:Addr) (xs:List V) (its:List It) (gk:List (Key × V)) (gl:List (Str × Kd)),vs = [.ref l,.ref g] ∧ H l = some (.lst xs) ∧ Paired (ItAt K H) xs its ∧ ItsOk its ∧ H g = some (.dK gk) ∧ PkAt (KdAt K H) gk gl ∧ (∀ z k,look gl z = some k → Kd.sm k ∧ k.words = 1 ∧ Kd.depth k = 1) ∧
  ∀ H' (t d e:Addr) (kv fv:List (Key × V)),Same H H' → H d = none → H e = none → d ≠ e → H t = none → FD K H' t d e kv fv (rows (look gl) its).1 (rows (look gl) its).2 → Q (.ref t) H'
section
variable {P:Program} {w:World} {K:PySem.W.Frag} {mg:Str → Option Value} {base:Heap}
noncomputable abbrev rwN:List Str:=["_law_items_here","_law_first","_law_kinds","_law_funs","_law_item"]
noncomputable abbrev rwP:List Str:=["_law_items_here","_law_first"]
theorem scRows:FnScope rwN rwP (defScope sRows):=⟨rfl,rfl,rfl,by decide +kernel,rfl,by decide +kernel,by decide +kernel⟩
set_option maxHeartbeats 0 in
theorem ok_rows {n:Nat} (hn:2 ≤ n) {f fp:Addr} {fd fdp:FuncData} (F:Fun K "_law_rows" "_law_rows" sRows f fd) (GP:FnOk P w K mg base CX0 n fp fdp plP (spPutL K n)) (bP:Binds K fdp plP []) (kP:PySem.W.keepIn K (.ref fp) = true) (mP:mg "_law_put" = some (.ref fp)) (mt:mg "tuple" = none) :
    FnOk P w K mg base CX0 (n + 1) f fd rwP (spRows K):=by
  refine F.ok scRows (fun vs H Q E h => ?_) (fun cdv A outer s H vs Q E hr h => ?_)
  · obtain ⟨l,g,xs,its,gk,gl,rfl,_⟩:=h
    rfl
  obtain ⟨l,g,xs,its,gk,gl,rfl,hl,hits,hok,hg,hG,hsm,q⟩:=h
  have hu:=hu_of hr
  refine ⟨_,pss_cons (ps_set (i:=2) scRows.nd rfl (Or.inr rfl) pe_dnewK)
    (pss_cons (ps_set (i:=3) scRows.nd rfl (Or.inl rfl) pe_dnewK)
    (pss_cons (ps_for PassesOwn.never rfl (pi_list (pv 0)) (pg_name (i:=4) scRows.nd rfl (Or.inl rfl))
      (pss_one (ps_if (pt_cmpR op_eq (pe_ix ix_tup (pv 4) pe_int (fun _ _ => rfl)) pe_str (nomark _))
        (pss_one (ps_dput hu (pv 2) (pe_ix ix_tup (pv 4) pe_int (fun _ _ => rfl)) (pe_dget2 hu (pv 1) (pe_ix ix_tup (pv 4) pe_int (fun _ _ => rfl)) (pe_tup (pa_cons pe_str (pa_cons pe_str (pa_cons (pe_ix ix_tup (pv 4) pe_int (fun _ _ => rfl)) pa_nil)))) ⟨rfl,rfl,rfl,rfl⟩) rfl))
        (pss_one (ps_if (pt_cmpR op_eq (pe_ix ix_tup (pv 4) pe_int (fun _ _ => rfl)) pe_str (nomark _))
          (pss_one (ps_dput hu (pv 2) (pe_ix ix_tup (pv 4) pe_int (fun _ _ => rfl)) (pe_call GP hr rfl mP kP bP .nil pass0 (pa_cons (pe_ix ix_tup (pv 4) pe_int (fun _ _ => rfl)) (pa_cons (pv 2) pa_nil))) rfl))
          (pss_one (ps_dput hu (pv 3) (pe_ix ix_tup (pv 4) pe_int (fun _ _ => rfl)) (pe_tup (pa_cons (pe_callTy call_tuple_of (by rfl) mt bootTuple (pa_cons (pe_comp (own:=["_law_kind"]) (caps:=["_law_kinds"]) (κ:=[2]) rfl ⟨rfl,by decide +kernel,by decide +kernel,rfl,rfl,(fun y hy => by obtain rfl:=List.mem_singleton.mp hy; rfl),(fun y hy => by obtain rfl:=List.mem_singleton.mp hy; exact ⟨.inl rfl,rfl,.inl rfl⟩)⟩ rfl
              (pi_tup (pe_ix ix_tup (pv 4) pe_int (fun _ _ => rfl))) (fun _ _ _ _ => pg_name (i:=0) (show (["_law_kind","_law_kinds"]:List Str).Nodup from by decide +kernel) rfl (Or.inl rfl)) (fun _ _ _ _ => pe_call GP hr rfl mP kP bP .nil pass0 (pa_cons (pv 0) (pa_cons (pv 1) pa_nil)))) pa_nil))
            (pa_cons (pe_call GP hr (by rfl) mP kP bP .nil pass0 (pa_cons (pe_ix ix_tup (pv 4) pe_int (fun _ _ => rfl)) (pa_cons (pv 2) pa_nil))) pa_nil))) rfl)))))))
    (pss_one (ps_ret (pe_tup (pa_cons (pv 2) (pa_cons (pv 3) pa_nil))))))),?_⟩
  intro d hd0
  have sd:=same_new hd0 (.dK [])
  intro e he0
  have se:=same_new he0 (.dK [])
  have he00:H e = none:=sd.free he0
  have nde:d ≠ e:=fun z => by rw [← z,upd_same] at he0; cases he0
  have s00:=sd.trans se
  have hlen:xs.length = its.length:=hits.length
  refine ⟨_,rfl,l,rfl,⟨_,SqL.of (s00 _ _ hl)⟩,for_list (K:=K) (xs:=xs) (fun i σ H3 => ∃ (kv fv:List (Key × V)) (x4:Option V),σ = [some (.ref l),some (.ref g),some (.ref d),some (.ref e),x4] ∧ Same H H3 ∧ H3 d = some (.dK kv) ∧ H3 e = some (.dK fv) ∧ PkAt (KdAt K H3) kv (rows (look gl) (its.take i)).1 ∧ PkAt (FunAt K H3) fv (rows (look gl) (its.take i)).2)
    ⟨[],[],none,rfl,s00,se _ _ upd_same,upd_same,.nil,.nil⟩ ?_ ?_ ?_⟩
  · rintro i σ H3 _ ⟨_,_,_,_,s3,_⟩
    exact SqL.of (s3 _ _ hl)
  · rintro i y σ H3 hy ⟨kv,fv,x4,rfl,s3,hd3,he3,hp1,hp2⟩
    obtain ⟨it,hit,hat⟩:=pair_get hits hy
    have hi:i < its.length:=(List.getElem?_eq_some_iff.mp hit).1
    have R:=rows_rs hsm hok i (by omega)
    have ok:=hok.each i it hit
    have l1:=kW_take hok i
    have l2:=fW_take hok i
    rw [← rows_k (look gl)] at l1
    rw [← rows_f (look gl)] at l2
    rw [List.length_map] at l1 l2
    have kl:kv.length = (rows (look gl) (its.take i)).1.length:=Paired.length hp1
    have fl:fv.length = (rows (look gl) (its.take i)).2.length:=Paired.length hp2
    have kz:kv.length < sizeLine:=Nat.lt_of_lt_of_le (Nat.lt_succ_self _) (small (by omega))
    have fz:fv.length < sizeLine:=Nat.lt_of_lt_of_le (Nat.lt_succ_self _) (small (by omega))
    rw [take_snoc hit,rows_snoc]
    replace hat:=hat.same s3
    have putK1:∀ (H4:Hp) (z:Str) (v:V) (k:Kd) (x4:Option V),Same H3 H4 → KdAt K H4 v k → z ∉ kW (its.take i) → ∃ (kv' fv':List (Key × V)) (y4:Option V),[some (.ref l),some (.ref g),some (.ref d),some (.ref e),x4] = [some (.ref l),some (.ref g),some (.ref d),some (.ref e),y4] ∧ Same H (upd H4 d (.dK (putK kv (.inr z) v))) ∧ upd H4 d (.dK (putK kv (.inr z) v)) d = some (.dK kv') ∧ upd H4 d (.dK (putK kv (.inr z) v)) e = some (.dK fv') ∧ PkAt (KdAt K (upd H4 d (.dK (putK kv (.inr z) v)))) kv' ((rows (look gl) (its.take i)).1 ++ [(z,k)]) ∧ PkAt (FunAt K (upd H4 d (.dK (putK kv (.inr z) v)))) fv' (rows (look gl) (its.take i)).2:=by
      intro H4 z v k x4 s4 hv hz
      have hd4:=s4 _ _ hd3
      have kp:∀ a ys,SqT K H4 a ys → SqT K (upd H4 d (.dK (putK kv (.inr z) v))) a ys:=fun a ys t => sqt_dk hd4 t
      refine ⟨_,fv,x4,rfl,sput (s3.trans s4) hd0,upd_same,by rw [upd_ne (Ne.symm nde)]; exact s4 _ _ he3,PkAt.put (hp1.imp fun v' x' h => kd_keep (fun a ys t => kp a ys (s4.tup t)) h) (by rw [rows_k]; exact hz) (kd_keep kp hv),hp2.imp fun v' x' h => h.keep fun a ys t => kp a ys (s4.tup t)⟩
    cases it with
    | hid z =>
      obtain ⟨p,rfl,hp⟩:=hat
      refine ⟨_,rfl,_,_,_,_,rfl,rfl,hp,(show atI [V.str "hid",.str z] 0 = some (.str "hid") from rfl),rfl,_,rfl,ite2 (fun _ => ?_) (fun c => absurd (by decide +kernel) c)⟩
      refine ⟨_,rfl,g,rfl,.inl ⟨gk,.inl (s3 _ _ hg)⟩,_,rfl,_,_,_,_,rfl,rfl,hp,(show atI [V.str "hid",.str z] 1 = some (.str z) from rfl),_,rfl,_,_,_,_,rfl,rfl,hp,(show atI [V.str "hid",.str z] 1 = some (.str z) from rfl),(by show 3 ≤ sizeLine; decide),fun p1 hp1 => ?_⟩
      have s1:=same_new hp1 (.tup [.str "name",.str "",.str z])
      have s31:=s3.trans s1
      refine ⟨_,DGet.k (k:=.inr z) (s31 _ _ hg),_,rfl,_,rfl,_,_,_,_,rfl,rfl,s1.tup hp,(show atI [V.str "hid",.str z] 1 = some (.str z) from rfl),d,_,rfl,DPut.k (k:=.inr z) (s1 _ _ hd3) kz,?_⟩
      refine putK1 _ z _ ((look gl z).getD (ownK z)) _ s1 ?_ ok.2
      rcases look_val hG z with ⟨h1,h2⟩ | ⟨v,k',h1,h2,h3⟩
      · rw [h1,h2]
        exact .name (SqT.of upd_same)
      · rw [h1,h2]
        exact h3.same s31
    | told z k =>
      obtain ⟨p,x,rfl,hp,hx⟩:=hat
      refine ⟨_,rfl,_,_,_,_,rfl,rfl,hp,(show atI [V.str "told",.str z,x] 0 = some (.str "told") from rfl),rfl,_,rfl,ite2 (fun c => absurd c (by decide +kernel)) (fun _ => ?_)⟩
      refine ⟨_,rfl,_,_,_,_,rfl,rfl,hp,(show atI [V.str "told",.str z,x] 0 = some (.str "told") from rfl),rfl,_,rfl,ite2 (fun _ => ?_) (fun c => absurd (by decide +kernel) c)⟩
      have dk:Kd.depth k ≤ n:=by
        refine Nat.le_trans ?_ hn
        rcases ok.2.2 with ⟨z',_,rfl⟩ | ⟨z',_,n',rfl,_⟩
        · show 1 ≤ 2
          decide
        · show 1 + max 1 1 ≤ 2
          decide
      refine ⟨_,rfl,_,_,_,_,rfl,rfl,hp,(show atI [V.str "told",.str z,x] 2 = some x from rfl),_,rfl,x,d,k,kv,_,rfl,hx,dk,hd3,hp1,fun H4 v s4 hv => ?_⟩
      exact ⟨_,rfl,_,rfl,_,_,_,_,rfl,rfl,s4.tup hp,(show atI [V.str "told",.str z,x] 1 = some (.str z) from rfl),d,_,rfl,DPut.k (k:=.inr z) (s4 _ _ hd3) kz,putK1 _ z _ _ _ s4 hv ok.2.1⟩
    | fn z as r =>
      obtain ⟨p,ta,x,ys,rfl,hp,hta,hks,hx⟩:=hat
      refine ⟨_,rfl,_,_,_,_,rfl,rfl,hp,(show atI [V.str "fun",.str z,.ref ta,x] 0 = some (.str "fun") from rfl),rfl,_,rfl,ite2 (fun c => absurd c (by decide +kernel)) (fun _ => ?_)⟩
      refine ⟨_,rfl,_,_,_,_,rfl,rfl,hp,(show atI [V.str "fun",.str z,.ref ta,x] 0 = some (.str "fun") from rfl),rfl,_,rfl,ite2 (fun c => absurd c (by decide +kernel)) (fun _ => ?_)⟩
      have hlx:=hks.length
      have d1:∀ k ∈ r :: as,Kd.depth k ≤ n:=fun k hk => by
        obtain ⟨z',_,rfl⟩:=ok.2.2.2 k hk
        show 1 ≤ n
        omega
      have l4:as.length ≤ 4:=ok.2.2.1
      refine ⟨_,rfl,_,_,_,_,rfl,rfl,hp,(show atI [V.str "fun",.str z,.ref ta,x] 2 = some (.ref ta) from rfl),ta,rfl,⟨_,hta⟩,?_⟩
      refine comp_by (xs:=ys) (fun j us H4 => Same H3 H4 ∧ KdsAt K H4 us ((as.take j).map (Kd.put (ownG (rows (look gl) (its.take i)).1))) ∧ us.length = j) ⟨Same.refl _,.nil,rfl⟩ (small (by omega)) ?_ ?_ ?_ ?_ ?_ ?_
      · rintro j us H4 ⟨_,_,h⟩
        exact Nat.le_of_eq h
      · rintro j u us H4 hu ⟨s4,_⟩
        exact ⟨_,_,s4.tup hta,hu⟩
      · rintro j us u H4 H' hn ⟨s4,_⟩ hy
        exact ⟨hy.1,hy.2 _ (s4.tup hta)⟩
      · rintro us H4 ⟨s4,_⟩
        exact ⟨_,s4.tup hta,Nat.le_refl _⟩
      · rintro j u us H4 N hN hu ⟨s4,hus,hz⟩
        obtain ⟨k1,hk1,hku⟩:=kds_get hks hu
        have hm:k1 ∈ as:=List.mem_of_getElem? hk1
        refine ⟨rfl,tYes_go ⟨_,rfl,_,rfl,u,d,k1,kv,_,rfl,hku.same s4,d1 k1 (.tail _ hm),s4 _ _ hd3,hp1.imp fun _ _ h => h.same s4,fun H5 v s5 hv => hN _ _ ⟨s4.trans s5,?_,?_⟩⟩⟩
        · have e:(as.take (j + 1)).map (Kd.put (ownG (rows (look gl) (its.take i)).1)) = (as.take j).map (Kd.put (ownG (rows (look gl) (its.take i)).1)) ++ [Kd.put (ownG (rows (look gl) (its.take i)).1) k1]:=by
            rw [List.take_add_one,hk1]
            simp
          rw [e]
          exact (hus.same s5).append (one hv)
        · rw [List.length_append,hz]
          rfl
      · rintro us H4 D ⟨s4,hus,hz⟩ hD
        have eA:as.take ys.length = as:=by rw [hlx]; exact List.take_length
        rw [eA] at hus
        have e1:=same_new hD (.lst us)
        refine ⟨D,us,rfl,.inl ⟨SqL.of upd_same,fun ta' hta' => ?_⟩⟩
        have e2:=same_new hta' (.tup us)
        have s5:=s4.trans (e1.trans e2)
        refine ⟨_,rfl,_,_,_,_,rfl,rfl,s5.tup hp,(show atI [V.str "fun",.str z,.ref ta,x] 3 = some x from rfl),_,rfl,x,d,r,kv,_,rfl,hx.same s5,d1 r (.head _),s5 _ _ hd3,hp1.imp fun _ _ h => h.same s5,fun H6 x' s6 hx' => ?_⟩
        refine ⟨(by show 2 ≤ sizeLine; decide),fun p' hp' => ?_⟩
        have e7:=same_new hp' (.tup [.ref ta',x'])
        have s7:=s5.trans (s6.trans e7)
        have he7:=s7 _ _ he3
        refine ⟨_,rfl,_,rfl,_,_,_,_,rfl,rfl,s7.tup hp,(show atI [V.str "fun",.str z,.ref ta,x] 1 = some (.str z) from rfl),e,_,rfl,DPut.k (k:=.inr z) he7 fz,?_⟩
        have kp:∀ a zs,SqT K (upd H6 p' (.tup [.ref ta',x'])) a zs → SqT K (upd (upd H6 p' (.tup [.ref ta',x'])) e (.dK (putK fv (.inr z) (.ref p')))) a zs:=fun a zs t => sqt_dk he7 t
        refine ⟨kv,_,_,rfl,sput (s3.trans s7) he00,by rw [upd_ne nde]; exact s7 _ _ hd3,upd_same,hp1.imp fun _ _ h => kd_keep (fun a zs t => kp a zs (s7.tup t)) h,?_⟩
        refine PkAt.put (hp2.imp fun _ _ h => h.keep fun a zs t => kp a zs (s7.tup t)) (by rw [rows_f]; exact ok.2.1) ⟨p',ta',x',us,rfl,kp _ _ (SqT.of upd_same),kp _ _ (SqT.of (e7 _ _ (s6 _ _ upd_same))),kds_keep (fun a zs t => kp a zs ((e1.trans (e2.trans (s6.trans e7))).tup t)) hus,kd_keep (fun a zs t => kp a zs (e7.tup t)) hx'⟩
  · rintro σ H3 ⟨kv,fv,x4,rfl,s3,hd3,he3,hp1,hp2⟩
    rw [hlen,List.take_length] at hp1 hp2
    refine ⟨_,rfl,_,rfl,(by show 2 ≤ sizeLine; decide),fun t ht => ?_⟩
    have st:=same_new ht (.tup [.ref d,.ref e])
    exact q _ t d e kv fv (s3.trans st) hd0 he00 nde (s3.free ht) ⟨SqT.of upd_same,st _ _ hd3,st _ _ he3,hp1.imp fun _ _ h => h.same st,hp2.imp fun _ _ h => h.keep fun _ _ t => st.tup t⟩
end
end K29
namespace K29
open PySem L2 Kk
theorem tell_own {ks:List (Str × Kd)}:tell (look ks) (fun _ => none) = ownG ks:=by
  funext n
  unfold tell ownG
  by_cases e:n.1 = ""
  · rw [if_pos e,if_pos e]
  · rw [if_neg e,if_neg e]
    rfl
theorem kv_of {K:PySem.W.Frag} {H:Hp} {kvs:List (Key × V)} {m:List (Str × Kd)} (h:PkAt (KdAt K H) kvs m):KvAt K H kvs (look m):=fun t => by
  rcases look_val h t with h | ⟨v,k,h1,h2,h3⟩
  · exact .inl h
  · exact .inr ⟨v,k,h1,h2,h3⟩
theorem passNo {P:Program} {w:World} {X:Cx}:Passes (CX1 P w) X (fun _ _ _ => False):=fun _ _ _ _ _ _ _ ⟨_,_,_,_,_,_,_,h⟩ => h.elim
structure Nm (ks:List (Str × Kd)) (k:Kd):Prop where
  w:k.words ≤ 3
  d:Kd.depth k ≤ 2
  n:∀ n ∈ Kd.names k,smW n.2 ∧ n.1 = "" ∧ look ks n.2 ≠ none
  s:(Kd.put (ownG ks) k).words ≤ 40
theorem nm_own {s:Rw} (R:RS s) (h16:s.1.length ≤ 16) {z:Str} (hz:z ∈ s.1.map (·.1)):Nm s.1 (ownK z):=by
  obtain ⟨k,e,hm,j,hj,hg⟩:=R.look hz
  obtain ⟨a,b,c,d⟩:=R.k j _ hg
  refine ⟨by show 1 ≤ 3; decide,by show 1 ≤ 2; decide,fun n hn => ?_,?_⟩
  · have hn':n = (("":Str),z):=List.mem_singleton.mp hn
    subst hn'
    exact ⟨a,rfl,by rw [e]; exact fun z => nomatch z⟩
  · rw [own_put e]
    have:k.words ≤ 2 * j + 1:=c
    omega
theorem nm_told {s:Rw} (R:RS s) (h16:s.1.length ≤ 16) {k:Kd} (hk:Tk (s.1.map (·.1)) k):Nm s.1 k:=by
  rcases hk with ⟨z,hz,rfl⟩ | ⟨z,hz,n,rfl,_,_⟩
  · exact nm_own R h16 hz
  · obtain ⟨k,e,hm,j,hj,hg⟩:=R.look hz
    obtain ⟨a,b,c,d⟩:=R.k j _ hg
    refine ⟨by show 1 + 1 + 1 ≤ 3; decide,by show 1 + max 1 1 ≤ 2; decide,fun n hn => ?_,?_⟩
    · have hn':n ∈ [(("":Str),z)] ++ []:=hn
      rw [List.append_nil] at hn'
      have:=List.mem_singleton.mp hn'
      subst this
      exact ⟨a,rfl,by rw [e]; exact fun z => nomatch z⟩
    · show 1 + (Kd.put (ownG s.1) (ownK z)).words + 1 ≤ 40
      rw [own_put e]
      have:k.words ≤ 2 * j + 1:=c
      omega
noncomputable def spFaceOf (K:PySem.W.Frag) (CF:Addr):Sp:=fun vs H Q _ => ∃ (l g:Addr) (xs:List V) (its:List It),vs = [.ref l,.ref g] ∧ SqT K H l xs ∧ Paired (ItAt K H) xs its ∧ ItsOk its ∧ H g = some (.dK []) ∧
  ∀ H' (x:Addr),Same H H' → H x = none → FaceN K H H' CF x (rows (fun _ => none) its).1 (rows (fun _ => none) its).2 → Q (.ref x) H'
section
variable {P:Program} {w:World} {K:PySem.W.Frag} {mg:Str → Option Value} {base:Heap}
theorem bindNm {f T:Addr} {fd:FuncData} {oT:Value} {dT:Option Addr} {nT:Nat} {sT:Array (Option Value)} {tk:Tok} (F:FunD K "normal" "normal" sNormal (.ref T) f fd) (lT:K.lookup T = some ⟨oT,dT,.seq #[.int 40 tk] nT,sT⟩):Binds K fd ["kind","own","parts","most"] [.int 40 tk] :=
  F.binds lT fun _ _ _ _ _ _ us hl => by
    have hl':us.length = 3:=by simpa using hl
    match us,hl' with
    | [_,_,_],_ => exact ⟨_,rfl,rfl⟩
noncomputable abbrev foN:List Str:=["items","parts","kinds","funs","item","word","taken"]
noncomputable abbrev foP:List Str:=["items","parts"]
theorem scFaceOf:FnScope foN foP (defScope sFaceOf):=⟨rfl,rfl,rfl,by decide +kernel,rfl,by decide +kernel,by decide +kernel⟩
theorem nm_sp {CF CN CT d g:Addr} {H:Hp} {x:V} {k:Kd} {Q:VK} {kv:List (Key × V)} {ks:List (Str × Kd)} (hx:KdAt K H x k) (n:Nm ks k) (hd:H d = some (.dK kv)) (hp:PkAt (KdAt K H) kv ks) (hg:H g = some (.dK [])) (q:∀ H' v,Same H H' → KdAt K H' v (Kd.put (ownG ks) k) → Q v H') :
    spNormal K CF CN CT [x,.ref d,.ref g,.int 40] H Q (fun _ _ _ => False):=by
  refine ⟨x,k,d,g,40,kv,[],look ks,fun _ => none,rfl,hx,Nat.le_trans n.w (by decide),Nat.le_trans n.d (by decide),fun m hm => ?_,by decide,by decide,hd,kv_of hp,hg,fun _ => .inl ⟨rfl,rfl⟩,fun H' s' ⟨m,hm,e⟩ => ?_,fun _ => ?_⟩
  · obtain ⟨a,b,c⟩:=n.n m hm
    exact ⟨by rw [b]; exact ⟨by decide +kernel,by decide +kernel⟩,a.1,by have:=a.2; omega⟩
  · obtain ⟨a,b,c⟩:=n.n m hm
    rw [tell_own] at e
    have:ownG ks m = look ks m.2:=if_pos b
    rw [this] at e
    exact c e
  · rw [tell_own]
    refine ⟨Nat.le_trans n.s (by decide),fun H' s' => ?_⟩
    have:=n.s
    rw [if_neg (by omega)]
    exact fun v hv => q H' v s' hv
set_option maxHeartbeats 0 in
theorem ok_faceOf {f fn fo fi CF CN CT T:Addr} {fd fdn fdo fdi:FuncData} {oT:Value} {dT:Option Addr} {nT:Nat} {sT:Array (Option Value)} {tk:Tok} (F:Fun K "face_of" "face_of" sFaceOf f fd)
    (FN:FunD K "normal" "normal" sNormal (.ref T) fn fdn) (lT:K.lookup T = some ⟨oT,dT,.seq #[.int 40 tk] nT,sT⟩) (GN:FnOk P w K mg base (CX1 P w) 41 fn fdn ["kind","own","parts","most"] (spNormal K CF CN CT)) (kN:PySem.W.keepIn K (.ref fn) = true) (mN:mg "normal" = some (.ref fn))
    (GO:FnOk P w K mg base CX0 1 fo fdo ["word"] (spOwn K)) (bO:Binds K fdo ["word"] []) (kO:PySem.W.keepIn K (.ref fo) = true) (mO:mg "own_name" = some (.ref fo))
    (GI:FnOk P w K mg base CX0 1 fi fdi ["self","kinds","funs"] (spInitF CF)) (bI:Binds K fdi ["self","kinds","funs"] []) (MF:Mk K CF fi) (mC:mg "Face" = some (.ref CF)) (mt:mg "tuple" = none) :
    FnOk P w K mg base CX0 42 f fd foP (spFaceOf K CF):=by
  refine F.ok scFaceOf (fun vs H Q E h => ?_) (fun cdv A outer s H vs Q E hr h => ?_)
  · obtain ⟨l,g,xs,its,rfl,_⟩:=h
    rfl
  obtain ⟨l,g,xs,its,rfl,hl,hits,hok,hg,q⟩:=h
  have hu:=hu_of hr
  have hr1:Room 1 _:=hr.mono (by decide)
  have hr2:Room (1 + 1) _:=hr.mono (by decide)
  have bN:=bindNm FN lT
  have dN:Vals [V.int 40] [Value.int 40 tk]:=.cons ⟨tk,rfl⟩ .nil
  refine ⟨_,pss_cons (ps_set (i:=2) scFaceOf.nd rfl (Or.inr rfl) pe_dnewK)
    (pss_cons (ps_set (i:=3) scFaceOf.nd rfl (Or.inl rfl) pe_dnewK)
    (pss_cons (ps_for PassesOwn.never rfl (pi_tup (pv 0)) (pg_name (i:=4) scFaceOf.nd rfl (Or.inl rfl))
      (pss_cons (ps_set (i:=5) scFaceOf.nd rfl (Or.inl rfl) (pe_ix ix_tup (pv 4) pe_int (fun _ _ => rfl)))
      (pss_cons (ps_if (pt_cmp (pc_din hu (pv 5) (pe_ifExp (pt_cmpR op_eq (pe_ix ix_tup (pv 4) pe_int (fun _ _ => rfl)) pe_str (nomark _)) (pv 3) (pv 2))) (by with_unfolding_all rfl)) pss_no pss_nil)
      (pss_one (ps_if (pt_cmpR op_eq (pe_ix ix_tup (pv 4) pe_int (fun _ _ => rfl)) pe_str (nomark _))
        (pss_one (ps_dput hu (pv 2) (pv 5) (pe_call GO hr1 rfl mO kO bO .nil pass0 (pa_cons (pv 5) pa_nil)) rfl))
        (pss_one (ps_if (pt_cmpR op_eq (pe_ix ix_tup (pv 4) pe_int (fun _ _ => rfl)) pe_str (nomark _))
          (pss_one (ps_dput hu (pv 2) (pv 5) (pe_call GN hr rfl mN kN bN dN passNo (pa_cons (pe_ix ix_tup (pv 4) pe_int (fun _ _ => rfl)) (pa_cons (pv 2) (pa_cons (pv 1) pa_nil)))) rfl))
          (pss_cons (ps_set (i:=6) scFaceOf.nd rfl (Or.inl rfl) (pe_callTy call_tuple_of (by rfl) mt bootTuple (pa_cons (pe_comp (own:=["kind"]) (caps:=["kinds","parts"]) (κ:=[2,1]) rfl ⟨rfl,by decide +kernel,by decide +kernel,rfl,rfl,(fun y hy => by simp only [List.mem_cons,List.not_mem_nil,or_false] at hy; rcases hy with rfl | rfl <;> rfl),(fun y hy => by simp only [List.mem_cons,List.not_mem_nil,or_false] at hy; rcases hy with rfl | rfl <;> exact ⟨.inl rfl,rfl,.inl rfl⟩)⟩ rfl
              (pi_tup (pe_ix ix_tup (pv 4) pe_int (fun _ _ => rfl))) (fun _ _ _ _ => pg_name (i:=0) (show (["kind","kinds","parts"]:List Str).Nodup from by decide +kernel) rfl (Or.inl rfl)) (fun _ _ _ _ => pe_call GN hr rfl mN kN bN dN passNo (pa_cons (pv 0) (pa_cons (pv 1) (pa_cons (pv 2) pa_nil))))) pa_nil)))
          (pss_one (ps_dput hu (pv 3) (pv 5) (pe_tup (pa_cons (pv 6) (pa_cons (pe_call GN hr (by rfl) mN kN bN dN passNo (pa_cons (pe_ix ix_tup (pv 4) pe_int (fun _ _ => rfl)) (pa_cons (pv 2) (pa_cons (pv 1) pa_nil)))) pa_nil))) rfl))))))))))
    (pss_one (ps_ret (pe_make MF GI hr2 (by rfl) mC bI .nil pass0 (pa_cons (pv 2) (pa_cons (pv 3) pa_nil))))))),?_⟩
  intro d hd0
  have sd:=same_new hd0 (.dK [])
  intro e he0
  have se:=same_new he0 (.dK [])
  have he00:H e = none:=sd.free he0
  have nde:d ≠ e:=fun z => by rw [← z,upd_same] at he0; cases he0
  have s00:=sd.trans se
  have hlen:xs.length = its.length:=hits.length
  refine ⟨_,rfl,l,rfl,⟨_,s00.tup hl⟩,for_tup (K:=K) (xs:=xs) (fun i σ H3 => ∃ (kv fv:List (Key × V)) (x4 x5 x6:Option V),σ = [some (.ref l),some (.ref g),some (.ref d),some (.ref e),x4,x5,x6] ∧ Same H H3 ∧ H3 d = some (.dK kv) ∧ H3 e = some (.dK fv) ∧ PkAt (KdAt K H3) kv (rows (fun _ => none) (its.take i)).1 ∧ PkAt (FunAt K H3) fv (rows (fun _ => none) (its.take i)).2)
    ⟨[],[],none,none,none,rfl,s00,se _ _ upd_same,upd_same,.nil,.nil⟩ ?_ ?_ ?_⟩
  · rintro i σ H3 _ ⟨_,_,_,_,_,_,s3,_⟩
    exact s3.tup hl
  · rintro i y σ H3 hy ⟨kv,fv,x4,x5,x6,rfl,s3,hd3,he3,hp1,hp2⟩
    obtain ⟨it,hit,hat⟩:=pair_get hits hy
    have hi:i < its.length:=(List.getElem?_eq_some_iff.mp hit).1
    have R:=rows_rs (g:=fun _ => none) (fun _ _ z => nomatch z) hok i (by omega)
    have ok:=hok.each i it hit
    have l1:=kW_take hok i
    have l2:=fW_take hok i
    rw [← rows_k (fun _ => none)] at l1
    rw [← rows_f (fun _ => none)] at l2
    rw [List.length_map] at l1 l2
    have kl:kv.length = (rows (fun _ => none) (its.take i)).1.length:=Paired.length hp1
    have fl:fv.length = (rows (fun _ => none) (its.take i)).2.length:=Paired.length hp2
    have kz:kv.length < sizeLine:=Nat.lt_of_lt_of_le (Nat.lt_succ_self _) (small (by omega))
    have fz:fv.length < sizeLine:=Nat.lt_of_lt_of_le (Nat.lt_succ_self _) (small (by omega))
    rw [take_snoc hit,rows_snoc]
    replace hat:=hat.same s3
    have hg3:=s3 _ _ hg
    have noK:∀ z,z ∉ kW (its.take i) → valV kv (.inr z) = none:=fun z hz => by
      rcases look_val hp1 z with ⟨h,_⟩ | ⟨v,k,_,h,_⟩
      · exact h
      · exact absurd (by rw [← rows_k (fun _ => none)]; exact List.mem_map.mpr ⟨_,look_in h,rfl⟩) hz
    have noF:∀ z,z ∉ fW (its.take i) → valV fv (.inr z) = none:=fun z hz => by
      rcases look_val hp2 z with ⟨h,_⟩ | ⟨v,k,_,h,_⟩
      · exact h
      · exact absurd (by rw [← rows_f (fun _ => none)]; exact List.mem_map.mpr ⟨_,look_in h,rfl⟩) hz
    have putK1:∀ (H4:Hp) (z:Str) (v:V) (k:Kd) (x4 x5 x6:Option V),Same H3 H4 → KdAt K H4 v k → z ∉ kW (its.take i) → ∃ (kv' fv':List (Key × V)) (y4 y5 y6:Option V),[some (.ref l),some (.ref g),some (.ref d),some (.ref e),x4,x5,x6] = [some (.ref l),some (.ref g),some (.ref d),some (.ref e),y4,y5,y6] ∧ Same H (upd H4 d (.dK (putK kv (.inr z) v))) ∧ upd H4 d (.dK (putK kv (.inr z) v)) d = some (.dK kv') ∧ upd H4 d (.dK (putK kv (.inr z) v)) e = some (.dK fv') ∧ PkAt (KdAt K (upd H4 d (.dK (putK kv (.inr z) v)))) kv' ((rows (fun _ => none) (its.take i)).1 ++ [(z,k)]) ∧ PkAt (FunAt K (upd H4 d (.dK (putK kv (.inr z) v)))) fv' (rows (fun _ => none) (its.take i)).2:=by
      intro H4 z v k x4 x5 x6 s4 hv hz
      have hd4:=s4 _ _ hd3
      have kp:∀ a ys,SqT K H4 a ys → SqT K (upd H4 d (.dK (putK kv (.inr z) v))) a ys:=fun a ys t => sqt_dk hd4 t
      refine ⟨_,fv,x4,x5,x6,rfl,sput (s3.trans s4) hd0,upd_same,by rw [upd_ne (Ne.symm nde)]; exact s4 _ _ he3,PkAt.put (hp1.imp fun v' x' h => kd_keep (fun a ys t => kp a ys (s4.tup t)) h) (by rw [rows_k]; exact hz) (kd_keep kp hv),hp2.imp fun v' x' h => h.keep fun a ys t => kp a ys (s4.tup t)⟩
    cases it with
    | hid z =>
      obtain ⟨p,rfl,hp⟩:=hat
      refine ⟨_,rfl,_,_,_,_,rfl,rfl,hp,(show atI [V.str "hid",.str z] 1 = some (.str z) from rfl),?_⟩
      refine ⟨_,rfl,_,rfl,_,_,_,_,rfl,rfl,hp,(show atI [V.str "hid",.str z] 0 = some (.str "hid") from rfl),rfl,_,rfl,ite2 (fun c => absurd c (by decide +kernel)) (fun _ => ?_)⟩
      refine ⟨_,rfl,d,_,rfl,DGet.k (k:=.inr z) hd3,_,rfl,?_⟩
      rw [noK z ok.2]
      refine iteF ?_
      refine ⟨_,rfl,_,_,_,_,rfl,rfl,hp,(show atI [V.str "hid",.str z] 0 = some (.str "hid") from rfl),rfl,_,rfl,ite2 (fun _ => ?_) (fun c => absurd (by decide +kernel) c)⟩
      refine ⟨_,rfl,z,rfl,fun H4 x s4 hx => ?_⟩
      exact ⟨_,rfl,_,rfl,d,_,rfl,DPut.k (k:=.inr z) (s4 _ _ hd3) kz,putK1 _ z _ _ _ _ _ s4 hx ok.2⟩
    | told z k =>
      obtain ⟨p,x,rfl,hp,hx⟩:=hat
      have nm:Nm (rows (fun _ => none) (its.take i)).1 k:=nm_told R l1 (by rw [rows_k]; exact ok.2.2)
      refine ⟨_,rfl,_,_,_,_,rfl,rfl,hp,(show atI [V.str "told",.str z,x] 1 = some (.str z) from rfl),?_⟩
      refine ⟨_,rfl,_,rfl,_,_,_,_,rfl,rfl,hp,(show atI [V.str "told",.str z,x] 0 = some (.str "told") from rfl),rfl,_,rfl,ite2 (fun c => absurd c (by decide +kernel)) (fun _ => ?_)⟩
      refine ⟨_,rfl,d,_,rfl,DGet.k (k:=.inr z) hd3,_,rfl,?_⟩
      rw [noK z ok.2.1]
      refine iteF ?_
      refine ⟨_,rfl,_,_,_,_,rfl,rfl,hp,(show atI [V.str "told",.str z,x] 0 = some (.str "told") from rfl),rfl,_,rfl,ite2 (fun c => absurd c (by decide +kernel)) (fun _ => ?_)⟩
      refine ⟨_,rfl,_,_,_,_,rfl,rfl,hp,(show atI [V.str "told",.str z,x] 0 = some (.str "told") from rfl),rfl,_,rfl,ite2 (fun _ => ?_) (fun c => absurd (by decide +kernel) c)⟩
      refine ⟨_,rfl,_,_,_,_,rfl,rfl,hp,(show atI [V.str "told",.str z,x] 2 = some x from rfl),_,rfl,_,rfl,nm_sp (CN:=CN) (CT:=CT) hx nm hd3 hp1 hg3 fun H4 v s4 hv => ?_⟩
      exact ⟨_,rfl,_,rfl,d,_,rfl,DPut.k (k:=.inr z) (s4 _ _ hd3) kz,putK1 _ z _ _ _ _ _ s4 hv ok.2.1⟩
    | fn z as r =>
      obtain ⟨p,ta,x,ys,rfl,hp,hta,hks,hx⟩:=hat
      have nm:∀ k ∈ r :: as,Nm (rows (fun _ => none) (its.take i)).1 k:=fun k hk => by
        obtain ⟨z',hz',rfl⟩:=ok.2.2.2 k hk
        exact nm_own R l1 (by rw [rows_k]; exact hz')
      refine ⟨_,rfl,_,_,_,_,rfl,rfl,hp,(show atI [V.str "fun",.str z,.ref ta,x] 1 = some (.str z) from rfl),?_⟩
      refine ⟨_,rfl,_,rfl,_,_,_,_,rfl,rfl,hp,(show atI [V.str "fun",.str z,.ref ta,x] 0 = some (.str "fun") from rfl),rfl,_,rfl,ite2 (fun _ => ?_) (fun c => absurd (by decide +kernel) c)⟩
      refine ⟨_,rfl,e,_,rfl,DGet.k (k:=.inr z) he3,_,rfl,?_⟩
      rw [noF z ok.2.1]
      refine iteF ?_
      refine ⟨_,rfl,_,_,_,_,rfl,rfl,hp,(show atI [V.str "fun",.str z,.ref ta,x] 0 = some (.str "fun") from rfl),rfl,_,rfl,ite2 (fun c => absurd c (by decide +kernel)) (fun _ => ?_)⟩
      refine ⟨_,rfl,_,_,_,_,rfl,rfl,hp,(show atI [V.str "fun",.str z,.ref ta,x] 0 = some (.str "fun") from rfl),rfl,_,rfl,ite2 (fun c => absurd c (by decide +kernel)) (fun _ => ?_)⟩
      have hlx:=hks.length
      have l4:as.length ≤ 4:=ok.2.2.1
      refine ⟨_,rfl,_,_,_,_,rfl,rfl,hp,(show atI [V.str "fun",.str z,.ref ta,x] 2 = some (.ref ta) from rfl),ta,rfl,⟨_,hta⟩,?_⟩
      refine comp_by (xs:=ys) (fun j us H4 => Same H3 H4 ∧ KdsAt K H4 us ((as.take j).map (Kd.put (ownG (rows (fun _ => none) (its.take i)).1))) ∧ us.length = j) ⟨Same.refl _,.nil,rfl⟩ (small (by omega)) ?_ ?_ ?_ ?_ ?_ ?_
      · rintro j us H4 ⟨_,_,h⟩
        exact Nat.le_of_eq h
      · rintro j u us H4 hu ⟨s4,_⟩
        exact ⟨_,_,s4.tup hta,hu⟩
      · rintro j us u H4 H' hn ⟨s4,_⟩ hy
        exact ⟨hy.1,hy.2 _ (s4.tup hta)⟩
      · rintro us H4 ⟨s4,_⟩
        exact ⟨_,s4.tup hta,Nat.le_refl _⟩
      · rintro j u us H4 N hN hu ⟨s4,hus,hz⟩
        obtain ⟨k1,hk1,hku⟩:=kds_get hks hu
        have hm:k1 ∈ as:=List.mem_of_getElem? hk1
        refine ⟨rfl,tYes_go ⟨_,rfl,_,rfl,_,rfl,nm_sp (CN:=CN) (CT:=CT) (hku.same s4) (nm k1 (.tail _ hm)) (s4 _ _ hd3) (hp1.imp fun _ _ h => h.same s4) (s4 _ _ hg3) fun H5 v s5 hv => hN _ _ ⟨s4.trans s5,?_,?_⟩⟩⟩
        · have e:(as.take (j + 1)).map (Kd.put (ownG (rows (fun _ => none) (its.take i)).1)) = (as.take j).map (Kd.put (ownG (rows (fun _ => none) (its.take i)).1)) ++ [Kd.put (ownG (rows (fun _ => none) (its.take i)).1) k1]:=by
            rw [List.take_add_one,hk1]
            simp
          rw [e]
          exact (hus.same s5).append (one hv)
        · rw [List.length_append,hz]
          rfl
      · rintro us H4 D ⟨s4,hus,hz⟩ hD
        have eA:as.take ys.length = as:=by rw [hlx]; exact List.take_length
        rw [eA] at hus
        have e1:=same_new hD (.lst us)
        refine ⟨D,us,rfl,.inl ⟨SqL.of upd_same,fun ta' hta' => ?_⟩⟩
        have e2:=same_new hta' (.tup us)
        have s5:=s4.trans (e1.trans e2)
        refine ⟨_,rfl,_,rfl,_,_,_,_,rfl,rfl,s5.tup hp,(show atI [V.str "fun",.str z,.ref ta,x] 3 = some x from rfl),_,rfl,_,rfl,nm_sp (CN:=CN) (CT:=CT) (hx.same s5) (nm r (.head _)) (s5 _ _ hd3) (hp1.imp fun _ _ h => h.same s5) (s5 _ _ hg3) fun H6 x' s6 hx' => ?_⟩
        refine ⟨(by show 2 ≤ sizeLine; decide),fun p' hp' => ?_⟩
        have e7:=same_new hp' (.tup [.ref ta',x'])
        have s7:=s5.trans (s6.trans e7)
        have he7:=s7 _ _ he3
        refine ⟨_,rfl,_,rfl,e,_,rfl,DPut.k (k:=.inr z) he7 fz,?_⟩
        have kp:∀ a zs,SqT K (upd H6 p' (.tup [.ref ta',x'])) a zs → SqT K (upd (upd H6 p' (.tup [.ref ta',x'])) e (.dK (putK fv (.inr z) (.ref p')))) a zs:=fun a zs t => sqt_dk he7 t
        refine ⟨kv,_,_,_,_,rfl,sput (s3.trans s7) he00,by rw [upd_ne nde]; exact s7 _ _ hd3,upd_same,hp1.imp fun _ _ h => kd_keep (fun a zs t => kp a zs (s7.tup t)) h,?_⟩
        refine PkAt.put (hp2.imp fun _ _ h => h.keep fun a zs t => kp a zs (s7.tup t)) (by rw [rows_f]; exact ok.2.1) ⟨p',ta',x',us,rfl,kp _ _ (SqT.of upd_same),kp _ _ (SqT.of (e7 _ _ (s6 _ _ upd_same))),kds_keep (fun a zs t => kp a zs ((e1.trans (e2.trans (s6.trans e7))).tup t)) hus,kd_keep (fun a zs t => kp a zs (e7.tup t)) hx'⟩
  · rintro σ H3 ⟨kv,fv,x4,x5,x6,rfl,s3,hd3,he3,hp1,hp2⟩
    rw [hlen,List.take_length] at hp1 hp2
    refine ⟨_,rfl,_,rfl,fun x dx' nx ndx nex => ?_⟩
    have ea:=same_new ndx (.own x)
    have nx':upd H3 dx' (.own x) x = none:=by rw [upd_ne (Ne.symm nex)]; exact nx
    have eb:=same_new nx' (.ins CF dx' [])
    have eab:=ea.trans eb
    refine ⟨x,dx',d,e,kv,fv,rfl,upd_same,eab _ _ hd3,eab _ _ he3,fun d2 e2 fs' H7 hd he nde2 hx lk lf lh lp hd7 he7 keep => ⟨rfl,?_⟩⟩
    have s7:Same H3 H7:=fun b o hb => keep b o (eab _ _ hb) (fun z => by rw [z,nx] at hb; cases hb)
    exact q H7 x (s3.trans s7) (s3.free nx) ⟨dx',d2,e2,fs',kv,fv,(s3.trans eab).free hd,(s3.trans eab).free he,nde2,hx,lk,lf,hd7,he7,hp1.imp fun v y h => h.same s7,hp2.imp fun v y h => h.keep fun a xs t => s7.tup t,lh,lp⟩
end
end K29
namespace K29
open PySem L2 Kk
noncomputable def lstep (m:List (Str × Kd)) (acc:List (Str × Kd)) (z:Str):List (Str × Kd) :=
  match look m z with
  | some (.name q t) => if q = "" ∧ look acc t = none then acc ++ [(t,ownK z)] else acc
  | _ => acc
noncomputable def lgivL (m:List (Str × Kd)) (zs:List Str):List (Str × Kd):=zs.foldl (lstep m) []
noncomputable abbrev keysL {α:Type} (m:List (Str × α)):List Str:=srt (m.map (·.1))
noncomputable def lgiv (m:List (Str × Kd)):List (Str × Kd):=lgivL m (keysL m)
theorem lgivL_take {m:List (Str × Kd)} {zs:List Str} {i:Nat} {z:Str} (h:zs[i]? = some z):lgivL m (zs.take (i + 1)) = lstep m (lgivL m (zs.take i)) z:=by
  unfold lgivL
  rw [List.take_add_one,h,List.foldl_append]
  rfl
theorem lstep_name {m acc:List (Str × Kd)} {z t:Str} (h:look m z = some (.name "" t)):lstep m acc z = if look acc t = none then acc ++ [(t,ownK z)] else acc:=by
  unfold lstep
  rw [h]
  simp only [true_and]
theorem lstep_far {m acc:List (Str × Kd)} {z q t:Str} (h:look m z = some (.name q t)) (hq:q ≠ ""):lstep m acc z = acc:=by
  unfold lstep
  rw [h]
  exact if_neg fun z => hq z.1
theorem lstep_num {m acc:List (Str × Kd)} {z:Str} {n:Int} (h:look m z = some (.num n)):lstep m acc z = acc:=by
  unfold lstep
  rw [h]
theorem lstep_pair {m acc:List (Str × Kd)} {z:Str} {a b:Kd} (h:look m z = some (.pair a b)):lstep m acc z = acc:=by
  unfold lstep
  rw [h]
noncomputable def rowKD (g m:List (Str × Kd)) (z:Str):PyData:=.tuple [.str z,((look m z).map fun k => Kd.dat (Kd.put (ownG g) k)).getD .none]
noncomputable def rowFD (g:List (Str × Kd)) (m:List (Str × (List Kd × Kd))) (z:Str):PyData:=((look m z).map fun f => PyData.tuple [.str z,.tuple ((putFn (ownG g) f).1.map Kd.dat),Kd.dat (putFn (ownG g) f).2]).getD .none
noncomputable def leastD (m1:List (Str × Kd)) (m2:List (Str × (List Kd × Kd))):PyData:=.tuple [.tuple ((keysL m1).map (rowKD (lgiv m1) m1)),.tuple ((keysL m2).map (rowFD (lgiv m1) m2))]
theorem look_none {α:Type} {m:List (Str × α)} {z:Str} (h:look m z = none):z ∉ m.map (·.1):=fun hz => by
  obtain ⟨x,e⟩:=look_ex hz
  rw [h] at e
  cases e
theorem pt_own {K:PySem.W.Frag} {H:Hp} {kvs:List (List Key × V)} {gl:List (Str × Kd)} (h:PtAt K H kvs gl) (nd:(gl.map (·.1)).Nodup):GvAt K H kvs (ownG gl):=fun n => by
  rcases pt_val h n with ⟨h1,h2⟩ | ⟨v,k,h1,h2,h3,h4⟩
  · refine .inl ⟨h1,?_⟩
    unfold ownG
    by_cases e:n.1 = ""
    · rw [if_pos e]
      cases hh:look gl n.2 with
      | none => rfl
      | some k => exact absurd (List.mem_map.mpr ⟨_,look_in hh,rfl⟩) (h2 e)
    · exact if_neg e
  · refine .inr ⟨v,k,h1,?_,h4⟩
    unfold ownG
    rw [if_pos h2]
    exact in_look nd h3
theorem pk_keys {α:Type} {R:V → α → Prop}:∀ {kvs:List (Key × V)} {m:List (Str × α)},PkAt R kvs m → kvs.map (·.1) = (m.map (·.1)).map Sum.inr
  | _,_,.nil => rfl
  | _,_,.cons ⟨h,_⟩ t => by rw [List.map_cons,List.map_cons,List.map_cons,h,pk_keys t]
theorem pt_len {K:PySem.W.Frag} {H:Hp} {kvs:List (List Key × V)} {gl:List (Str × Kd)} (h:PtAt K H kvs gl):kvs.length = gl.length:=Paired.length h
theorem lstep_len (m acc:List (Str × Kd)) (z:Str):(lstep m acc z).length ≤ acc.length + 1:=by
  unfold lstep
  split
  · split
    · rw [List.length_append]
      exact Nat.le_refl _
    · omega
  · omega
theorem lstep_nd {m acc:List (Str × Kd)} {z:Str} (h:(acc.map (·.1)).Nodup):((lstep m acc z).map (·.1)).Nodup:=by
  unfold lstep
  split
  · split
    · rename_i c
      exact nd_snoc h (look_none c.2)
    · exact h
  · exact h
theorem lgivL_ok {m:List (Str × Kd)}:∀ (zs:List Str) (i:Nat),((lgivL m (zs.take i)).map (·.1)).Nodup ∧ (lgivL m (zs.take i)).length ≤ i
  | zs,0 => ⟨List.nodup_nil,Nat.le_refl _⟩
  | zs,i + 1 => by
    obtain ⟨h1,h2⟩:=lgivL_ok (m:=m) zs i
    cases h:zs[i]? with
    | none =>
      have e:=List.getElem?_eq_none_iff.mp h
      rw [List.take_of_length_le (Nat.le_succ_of_le e)]
      rw [List.take_of_length_le e] at h1 h2
      exact ⟨h1,Nat.le_succ_of_le h2⟩
    | some z =>
      rw [lgivL_take h]
      have:=lstep_len m (lgivL m (zs.take i)) z
      exact ⟨lstep_nd h1,by omega⟩
noncomputable def spLeast (K:PySem.W.Frag) (CF:Addr) (n:Nat):Sp:=fun vs H Q _ => ∃ (fa:Addr) (m1:List (Str × Kd)) (m2:List (Str × (List Kd × Kd))),vs = [.ref fa] ∧ FaceAt K H CF fa m1 m2 ∧ m1.length ≤ 16 ∧ m2.length ≤ 16 ∧ (∀ q ∈ m1,Kd.depth q.2 ≤ n) ∧ (∀ q ∈ m2,q.2.1.length ≤ 4 ∧ ∀ k ∈ q.2.2 :: q.2.1,Kd.depth k ≤ n) ∧
  ∀ H' v,Same H H' → Dat K H' v (leastD m1 m2) → Q v H'
section
variable {P:Program} {w:World} {K:PySem.W.Frag} {mg:Str → Option Value} {base:Heap}
theorem bootSorted:bootBuiltins "sorted" = some (.builtin "sorted"):=by decide +kernel
theorem fldK {X:Cx} {e:Expr} {f:Str} {pos:Pos} {ta:TE} (h:X.K = K) (he:PE X e ta) (hb:attributeBase e f X.env (eval e X.env) = eval e X.env):PE X (.Attribute e f pos) (tFld K ta f):=by
  subst h
  exact pe_fld he hb
theorem catK {X:Cx} (h:X.K = K):OpR X (binaryOp .Add) (rCatA K):=by
  subst h
  exact op_catA
noncomputable abbrev leN:List Str:=["face","given","word","kind","kinds","funs"]
theorem scLeast:FnScope leN ["face"] (defScope sLeast):=⟨rfl,rfl,rfl,by decide +kernel,rfl,by decide +kernel,by decide +kernel⟩
theorem dats_snoc {H:Hp}:∀ {xs:List V} {ds:List PyData} {x:V} {d:PyData},Dats K H xs ds → Dat K H x d → Dats K H (xs ++ [x]) (ds ++ [d])
  | _,_,_,_,.nil,h => .cons h .nil
  | _,_,_,_,.cons a t,h => .cons a (dats_snoc t h)
set_option maxHeartbeats 0 in
theorem ok_least {n:Nat} {f fp fq fo CF:Addr} {fd fdp fdq fdo:FuncData} (F:Fun K "least" "least" sLeast f fd) (GP:FnOk P w K mg base CX0 n fp fdp ["kind","given"] (spPut K n)) (bP:Binds K fdp ["kind","given"] []) (kP:PySem.W.keepIn K (.ref fp) = true) (mP:mg "put" = some (.ref fp))
    (GF:FnOk P w K mg base CX0 (n + 1) fq fdq ["fun","given"] (spPutFun K n)) (bF:Binds K fdq ["fun","given"] []) (kF:PySem.W.keepIn K (.ref fq) = true) (mF:mg "put_in_fun" = some (.ref fq))
    (GO:FnOk P w K mg base CX0 1 fo fdo ["word"] (spOwn K)) (bO:Binds K fdo ["word"] []) (kO:PySem.W.keepIn K (.ref fo) = true) (mO:mg "own_name" = some (.ref fo)) (ms:mg "sorted" = none) (mt:mg "tuple" = none) (cF:Cls K CF) (nK:NoAttr K CF "kinds") (nF:NoAttr K CF "funs") :
    FnOk P w K mg base CX0 (n + 2) f fd ["face"] (spLeast K CF n):=by
  refine F.ok scLeast (fun vs H Q E h => ?_) (fun cdv A outer s H vs Q E hr h => ?_)
  · obtain ⟨fa,m1,m2,rfl,_⟩:=h
    rfl
  obtain ⟨fa,m1,m2,rfl,⟨dx,d1,d2,fs,kv1,kv2,FA⟩,l1,l2,dp1,dp2,q⟩:=h
  have hu:=hu_of hr
  have hr0:Room n _:=hr.mono (by omega)
  have hr1:Room 1 _:=hr.mono (by omega)
  refine ⟨_,(@pss_cons _ _ _ _ _ (ps_set (i:=1) scLeast.nd rfl (Or.inr rfl) pe_dnewT)
    (@pss_cons _ _ _ _ _ (ps_for PassesOwn.never rfl (pi_list (pe_callB (call_sorted_dK rfl) rfl ms bootSorted (pa_cons (pe_fld (pv 0) rfl) pa_nil))) (pg_name (i:=2) scLeast.nd rfl (Or.inl rfl))
      (pss_cons (ps_set (i:=3) scLeast.nd rfl (Or.inl rfl) (pe_dget hu (pe_fld (pv 0) rfl) (pv 2) (fun _ _ => rfl)))
      (pss_one (ps_if (PW.pt (pw_and (pt_cmpR op_eq (pe_ix ix_tup (pv 3) pe_int (fun _ _ => rfl)) pe_str (nomark _)) (pw_and1 (pt_cmpR op_eq (pe_ix ix_tup (pv 3) pe_int (fun _ _ => rfl)) pe_str (nomark _)))))
        (pss_one (ps_expr (pe_dsetT hu (pv 1) (pe_tup (pa_cons pe_str (pa_cons (pe_ix ix_tup (pv 3) pe_int (fun _ _ => rfl)) pa_nil))) (pe_call GO hr1 rfl mO kO bO .nil pass0 (pa_cons (pv 2) pa_nil)) ⟨rfl,rfl,rfl,rfl⟩))) pss_nil))))
    (@pss_cons _ _ _ _ _ (ps_comp (i0:=4) (own:=["word"]) (caps:=["face","given"]) (κ:=[0,1]) scLeast.nd rfl (Or.inl rfl) rfl ⟨rfl,by decide +kernel,by decide +kernel,rfl,rfl,(fun y hy => by simp only [List.mem_cons,List.not_mem_nil,or_false] at hy; rcases hy with rfl | rfl <;> rfl),(fun y hy => by simp only [List.mem_cons,List.not_mem_nil,or_false] at hy; rcases hy with rfl | rfl <;> exact ⟨.inl rfl,rfl,.inl rfl⟩)⟩ rfl
        (pi_list (pe_callB (call_sorted_dK rfl) rfl ms bootSorted (pa_cons (pe_fld (pv 0) rfl) pa_nil))) (fun _ _ _ _ => pg_name (i:=0) (show (["word","face","given"]:List Str).Nodup from by decide +kernel) rfl (Or.inl rfl))
        (fun _ _ _ _ => pe_tup (pa_cons (pv 0) (pa_cons (pe_call GP hr0 rfl mP kP bP .nil pass0 (pa_cons (pe_dget hu (fldK (K:=K) rfl (pv 1) rfl) (pv 0) (fun _ _ => rfl)) (pa_cons (pv 2) pa_nil))) pa_nil))))
    (@pss_cons _ _ _ _ _ (ps_comp (i0:=5) (own:=["word"]) (caps:=["face","given"]) (κ:=[0,1]) scLeast.nd rfl (Or.inl rfl) rfl ⟨rfl,by decide +kernel,by decide +kernel,rfl,rfl,(fun y hy => by simp only [List.mem_cons,List.not_mem_nil,or_false] at hy; rcases hy with rfl | rfl <;> rfl),(fun y hy => by simp only [List.mem_cons,List.not_mem_nil,or_false] at hy; rcases hy with rfl | rfl <;> exact ⟨.inl rfl,rfl,.inl rfl⟩)⟩ rfl
        (pi_list (pe_callB (call_sorted_dK rfl) rfl ms bootSorted (pa_cons (pe_fld (pv 0) rfl) pa_nil))) (fun _ _ _ _ => pg_name (i:=0) (show (["word","face","given"]:List Str).Nodup from by decide +kernel) rfl (Or.inl rfl))
        (fun _ _ _ _ => pe_op (catK (K:=K) rfl) (pe_tup (pa_cons (pv 0) pa_nil)) (pe_call GF hr rfl mF kF bF .nil pass0 (pa_cons (pe_dget hu (fldK (K:=K) rfl (pv 1) rfl) (pv 0) (fun _ _ => rfl)) (pa_cons (pv 2) pa_nil)))))
    (@pss_one _ _ _ (ps_ret (pe_tup (pa_cons (pe_callTy call_tuple_of rfl mt bootTuple (pa_cons (pv 4) pa_nil)) (pa_cons (pe_callTy call_tuple_of rfl mt bootTuple (pa_cons (pv 5) pa_nil)) pa_nil)))))))):PSs (cxOf CX0 P w K mg base leN "least" (defScope sLeast) f cdv A outer s H E).nox (defBody sLeast) _),?_⟩
  intro gd hgd0
  have sg:=same_new hgd0 (.dT [])
  have FA0:=FA.same sg
  have ks1:=pk_keys FA.p1
  have ks2:=pk_keys FA.p2
  have h64:(m1.map (·.1)).length < 64:=by rw [List.length_map]; omega
  have h642:(m2.map (·.1)).length < 64:=by rw [List.length_map]; omega
  have zl:(keysL m1).length ≤ 16:=by rw [srt_len,List.length_map]; exact l1
  have zl2:(keysL m2).length ≤ 16:=by rw [srt_len,List.length_map]; exact l2
  have getK:∀ z ∈ keysL m1,∃ v k,valV kv1 (.inr z) = some v ∧ look m1 z = some k ∧ KdAt K H v k:=fun z hz => by
    obtain ⟨k,hk⟩:=look_ex (srt_mem.mp hz)
    rcases look_val FA.p1 z with ⟨_,h2⟩ | h
    · rw [hk] at h2
      cases h2
    · exact h
  have getF:∀ z ∈ keysL m2,∃ v k,valV kv2 (.inr z) = some v ∧ look m2 z = some k ∧ FunAt K H v k:=fun z hz => by
    obtain ⟨k,hk⟩:=look_ex (srt_mem.mp hz)
    rcases look_val FA.p2 z with ⟨_,h2⟩ | h
    · rw [hk] at h2
      cases h2
    · exact h
  refine ⟨_,rfl,fa,CF,dx,fs,_,rfl,FA0.obj,cF,nK,FA0.fk,d1,kv1,_,rfl,FA0.h1,ks1,h64,fun l hl => ?_⟩
  have sl:=same_new hl (.lst ((keysL m1).map V.str))
  have ngl:gd ≠ l:=fun e => by rw [← e,upd_same] at hl; cases hl
  have hl0:H l = none:=sg.free hl
  refine ⟨l,rfl,⟨_,SqL.of upd_same⟩,for_list (K:=K) (xs:=(keysL m1).map V.str) (fun i σ H3 => ∃ (x2 x3:Option V) (kvs:List (List Key × V)),σ = [some (.ref fa),some (.ref gd),x2,x3,none,none] ∧ Same H H3 ∧ H3 l = some (.lst ((keysL m1).map V.str)) ∧ H3 gd = some (.dT kvs) ∧ PtAt K H3 kvs (lgivL m1 ((keysL m1).take i)))
    ⟨none,none,[],rfl,sg.trans sl,upd_same,sl _ _ upd_same,.nil⟩ ?_ ?_ ?_⟩
  · rintro i σ H3 _ ⟨_,_,_,_,_,h,_⟩
    exact SqL.of h
  · rintro i y σ H3 hy ⟨x2,x3,kvs,rfl,s3,hL3,hg3,hpt⟩
    rw [List.getElem?_map] at hy
    obtain ⟨z,hz,rfl⟩:=Option.map_eq_some_iff.mp hy
    obtain ⟨nd,ln⟩:=lgivL_ok (m:=m1) (keysL m1) i
    obtain ⟨v,k,hv,hk,hkd⟩:=getK z (List.mem_of_getElem? hz)
    have hi:i < (keysL m1).length:=(List.getElem?_eq_some_iff.mp hz).1
    have FA3:=FA.same s3
    have pl:=pt_len hpt
    rw [lgivL_take hz]
    refine ⟨_,rfl,fa,CF,dx,fs,_,rfl,FA3.obj,cF,nK,FA3.fk,_,rfl,d1,v,rfl,?_,?_⟩
    · rw [← hv]
      exact DGet.k (k:=.inr z) FA3.h1
    replace hkd:=hkd.same s3
    cases hkd with
    | @num p m t =>
      refine ⟨_,rfl,_,_,_,_,rfl,rfl,t,(show atI [V.str "num",.int m] 0 = some (.str "num") from rfl),rfl,_,rfl,ite2 (fun c => absurd c (by decide +kernel)) (fun _ => iteF ?_)⟩
      rw [lstep_num hk]
      exact ⟨_,_,kvs,rfl,s3,hL3,hg3,hpt⟩
    | @pair p y z' a b t ha hb =>
      refine ⟨_,rfl,_,_,_,_,rfl,rfl,t,(show atI [V.str "pair",y,z'] 0 = some (.str "pair") from rfl),rfl,_,rfl,ite2 (fun c => absurd c (by decide +kernel)) (fun _ => iteF ?_)⟩
      rw [lstep_pair hk]
      exact ⟨_,_,kvs,rfl,s3,hL3,hg3,hpt⟩
    | @name p a b t =>
      refine ⟨_,rfl,_,_,_,_,rfl,rfl,t,(show atI [V.str "name",.str a,.str b] 0 = some (.str "name") from rfl),rfl,_,rfl,ite2 (fun _ => ?_) (fun c => absurd (by decide +kernel) c)⟩
      refine ⟨_,rfl,_,_,_,_,rfl,rfl,t,(show atI [V.str "name",.str a,.str b] 1 = some (.str a) from rfl),rfl,_,rfl,ite2 (fun c => ?_) (fun c => ?_)⟩
      · have e:a = "":=V.str.inj (of_decide_eq_true c)
        subst e
        rw [lstep_name hk]
        refine ⟨_,rfl,gd,rfl,.inr ⟨kvs,.inl hg3⟩,_,rfl,_,_,_,_,rfl,rfl,t,(show atI [V.str "name",.str "",.str b] 2 = some (.str b) from rfl),(by show 2 ≤ sizeLine; decide),fun c2 hc2 => ?_⟩
        have sc:=same_new hc2 (.tup [.str "",.str b])
        refine ⟨_,rfl,z,rfl,fun H5 x s5 hx => ?_⟩
        have s35:=sc.trans s5
        have hg5:=s35 _ _ hg3
        refine ⟨kvs,keyN ("",b),c2,hg5,rfl,s5 _ _ upd_same,Nat.lt_of_lt_of_le (Nat.lt_succ_self _) (small (by omega)),?_⟩
        rcases pt_val hpt ("",b) with ⟨h1,h2⟩ | ⟨v',k',h1,_,h3,h4⟩
        · have no:look (lgivL m1 ((keysL m1).take i)) b = none:=by
            cases hh:look (lgivL m1 ((keysL m1).take i)) b with
            | none => rfl
            | some k => exact absurd (List.mem_map.mpr ⟨_,look_in hh,rfl⟩) (h2 rfl)
          rw [if_pos no]
          have kp:∀ a xs,SqT K H5 a xs → SqT K (upd H5 gd (.dT (putK kvs (keyN ("",b)) x))) a xs:=fun a xs t => by
            rcases t with (t | ⟨o',t⟩) | t
            · exact .inl (.inl (by rw [upd_ne (fun e => by rw [e,hg5] at t; cases t)]; exact t))
            · exact .inl (.inr ⟨o',by rw [upd_ne (fun e => by rw [e,hg5] at t; cases t)]; exact t⟩)
            · exact .inr t
          refine .inr ⟨h1,_,_,_,rfl,sput (s3.trans s35) hgd0,by rw [upd_ne (Ne.symm ngl)]; exact s35 _ _ hL3,upd_same,?_⟩
          exact pt_put (hpt.keep fun a xs t => kp a xs (s35.tup t)) (look_none no) (kd_keep kp hx)
        · have yes:¬ look (lgivL m1 ((keysL m1).take i)) b = none:=fun e => by
            rw [in_look nd h3] at e
            cases e
          rw [if_neg yes]
          exact .inl ⟨v',h1,_,_,kvs,rfl,s3.trans s35,s35 _ _ hL3,hg5,hpt.same s35⟩
      · have e:a ≠ "":=fun z => c (decide_eq_true (by rw [z]))
        rw [lstep_far hk e]
        exact ⟨_,_,kvs,rfl,s3,hL3,hg3,hpt⟩
  · rintro σ H3 ⟨x2,x3,kvs,rfl,s3,hL3,hg3,hpt⟩
    have gnd:=(lgivL_ok (m:=m1) (keysL m1) (keysL m1).length).1
    rw [List.length_map] at hpt
    rw [List.take_length] at hpt gnd
    replace hpt:PtAt K H3 kvs (lgiv m1):=hpt
    replace gnd:((lgiv m1).map (·.1)).Nodup:=gnd
    have hG:=pt_own hpt gnd
    have FA3:=FA.same s3
    refine ⟨_,rfl,fa,CF,dx,fs,_,rfl,FA3.obj,cF,nK,FA3.fk,d1,kv1,_,rfl,FA3.h1,ks1,h64,fun l4 hl4 => ?_⟩
    have s4:=same_new hl4 (.lst ((keysL m1).map V.str))
    have hL4:upd H3 l4 (.lst ((keysL m1).map V.str)) l4 = some (.lst ((keysL m1).map V.str)):=upd_same
    generalize upd H3 l4 (.lst ((keysL m1).map V.str)) = H4 at s4 hL4 ⊢
    refine ⟨l4,rfl,⟨_,SqL.of hL4⟩,?_⟩
    refine comp_by (xs:=(keysL m1).map V.str) (fun j us H5 => Same H4 H5 ∧ Dats K H5 us (((keysL m1).take j).map (rowKD (lgiv m1) m1)) ∧ us.length = j) ⟨Same.refl _,.nil,rfl⟩ (by rw [List.length_map]; exact small (by omega)) ?_ ?_ ?_ ?_ ?_ ?_
    · rintro j us H5 ⟨_,_,h⟩
      exact Nat.le_of_eq h
    · rintro j u us H5 hu ⟨s5,_⟩
      exact ⟨_,_,SqL.of (s5 _ _ hL4),hu⟩
    · rintro j us u H5 H' hn ⟨s5,_⟩ hy
      exact ⟨hy.1,hy.2 _ (SqL.of (s5 _ _ hL4))⟩
    · rintro us H5 ⟨s5,_⟩
      exact ⟨_,SqL.of (s5 _ _ hL4),Nat.le_refl _⟩
    · rintro j u us H5 N hN hu ⟨s5,hus,hz⟩
      rw [List.getElem?_map] at hu
      obtain ⟨z,hz',rfl⟩:=Option.map_eq_some_iff.mp hu
      obtain ⟨v,k,hv,hk,hkd⟩:=getK z (List.mem_of_getElem? hz')
      have s45:=s4.trans s5
      have s05:=s3.trans s45
      have FA5:=FA.same s05
      refine ⟨rfl,tYes_go ⟨_,rfl,_,rfl,fa,CF,dx,fs,_,rfl,FA5.obj,cF,nK,FA5.fk,_,rfl,d1,v,rfl,?_,_,rfl,v,gd,k,kvs,ownG (lgiv m1),rfl,hkd.same s05,dp1 _ (look_in hk),s45 _ _ hg3,hG.same s45,fun H6 v6 s6 hv6 => ⟨(by show 2 ≤ sizeLine; decide),fun p hp => hN _ _ ⟨s5.trans (s6.trans (same_new hp _)),?_,?_⟩⟩⟩⟩
      · rw [← hv]
        exact DGet.k (k:=.inr z) FA5.h1
      · have e:((keysL m1).take (j + 1)).map (rowKD (lgiv m1) m1) = ((keysL m1).take j).map (rowKD (lgiv m1) m1) ++ [rowKD (lgiv m1) m1 z]:=by
          rw [List.take_add_one,hz']
          simp
        rw [e]
        have s7:=same_new hp (.tup [.str z,v6])
        refine dats_snoc (hus.same (s6.trans s7)) ?_
        have er:rowKD (lgiv m1) m1 z = .tuple [.str z,Kd.dat (Kd.put (ownG (lgiv m1)) k)]:=by
          unfold rowKD
          rw [hk]
          rfl
        rw [er]
        exact .tup (SqT.of upd_same) (.cons (.str _) (.cons (kd_dat (hv6.same s7)) .nil))
      · rw [List.length_append,hz]
        rfl
    · rintro us H5 D ⟨s5,hus,hz⟩ hD
      have eA:(keysL m1).take ((keysL m1).map V.str).length = keysL m1:=by rw [List.length_map]; exact List.take_length
      rw [eA] at hus
      have e1:=same_new hD (.lst us)
      have hD':upd H5 D (.lst us) D = some (.lst us):=upd_same
      have hus':=hus.same e1
      have s36:=s4.trans (s5.trans e1)
      generalize upd H5 D (.lst us) = H6 at e1 hD' hus' s36 ⊢
      have s06:=s3.trans s36
      have FA6:=FA.same s06
      refine ⟨_,rfl,fa,CF,dx,fs,_,rfl,FA6.obj,cF,nF,FA6.ff,d2,kv2,_,rfl,FA6.h2,ks2,h642,fun l7 hl7 => ?_⟩
      have s7:=same_new hl7 (.lst ((keysL m2).map V.str))
      have hL7:upd H6 l7 (.lst ((keysL m2).map V.str)) l7 = some (.lst ((keysL m2).map V.str)):=upd_same
      generalize upd H6 l7 (.lst ((keysL m2).map V.str)) = H7 at s7 hL7 ⊢
      refine ⟨l7,rfl,⟨_,SqL.of hL7⟩,?_⟩
      refine comp_by (xs:=(keysL m2).map V.str) (fun j ws H8 => Same H7 H8 ∧ Dats K H8 ws (((keysL m2).take j).map (rowFD (lgiv m1) m2)) ∧ ws.length = j) ⟨Same.refl _,.nil,rfl⟩ (by rw [List.length_map]; exact small (by omega)) ?_ ?_ ?_ ?_ ?_ ?_
      · rintro j ws H8 ⟨_,_,h⟩
        exact Nat.le_of_eq h
      · rintro j u ws H8 hu ⟨s8,_⟩
        exact ⟨_,_,SqL.of (s8 _ _ hL7),hu⟩
      · rintro j ws u H8 H' hn ⟨s8,_⟩ hy
        exact ⟨hy.1,hy.2 _ (SqL.of (s8 _ _ hL7))⟩
      · rintro ws H8 ⟨s8,_⟩
        exact ⟨_,SqL.of (s8 _ _ hL7),Nat.le_refl _⟩
      · rintro j u ws H8 N hN hu ⟨s8,hws,hz8⟩
        rw [List.getElem?_map] at hu
        obtain ⟨z,hz',rfl⟩:=Option.map_eq_some_iff.mp hu
        obtain ⟨v,fn,hv,hk,hfn⟩:=getF z (List.mem_of_getElem? hz')
        obtain ⟨fl4,fdp'⟩:=dp2 _ (look_in hk)
        have s38:=s36.trans (s7.trans s8)
        have s08:=s3.trans s38
        have FA8:=FA.same s08
        obtain ⟨pp,ta,x,xs,rfl,f1,f2,f3,f4⟩:=hfn
        refine ⟨rfl,tYes_go ⟨_,rfl,(by show 1 ≤ sizeLine; decide),fun p1 hp1 => ?_⟩⟩
        have s9:=same_new hp1 (.tup [.str z])
        have s09:=s08.trans s9
        have FA9:=FA.same s09
        refine ⟨_,rfl,fa,CF,dx,fs,_,rfl,FA9.obj,cF,nF,FA9.ff,_,rfl,d2,.ref pp,rfl,?_,_,rfl,pp,gd,ta,x,xs,fn.1,fn.2,kvs,ownG (lgiv m1),rfl,s09.tup f1,s09.tup f2,f3.same s09,f4.same s09,fun k hk => fdp' k (.tail _ hk),fdp' _ (.head _),Nat.le_trans fl4 (by decide),(s38.trans s9) _ _ hg3,hG.same (s38.trans s9),fun H10 p4 ta4 xs4 x4 s10 v1 v2 v3 v4 => ?_⟩
        · rw [← hv]
          exact DGet.k (k:=.inr z) FA9.h2
        refine ⟨p1,p4,[.str z],[.ref ta4,x4],rfl,rfl,SqT.of (s10 _ _ upd_same),SqT.of v1,(by intro z; cases z),(by show 1 + 2 ≤ sizeLine; decide),fun p11 H11 s11 h11 => hN _ _ ⟨s8.trans (s9.trans (s10.trans s11)),?_,?_⟩⟩
        · have e:((keysL m2).take (j + 1)).map (rowFD (lgiv m1) m2) = ((keysL m2).take j).map (rowFD (lgiv m1) m2) ++ [rowFD (lgiv m1) m2 z]:=by
            rw [List.take_add_one,hz']
            simp
          rw [e]
          refine dats_snoc (hws.same (s9.trans (s10.trans s11))) ?_
          have er:rowFD (lgiv m1) m2 z = .tuple [.str z,.tuple ((putFn (ownG (lgiv m1)) fn).1.map Kd.dat),Kd.dat (putFn (ownG (lgiv m1)) fn).2]:=by
            unfold rowFD
            rw [hk]
            rfl
          rw [er]
          exact .tup h11 (.cons (.str _) (.cons (.tup (s11.tup (SqT.of v2)) (kds_dat (v3.same s11))) (.cons (kd_dat (v4.same s11)) .nil)))
        · rw [List.length_append,hz8]
          rfl
      · rintro ws H8 D8 ⟨s8,hws,hz8⟩ hD8
        have eB:(keysL m2).take ((keysL m2).map V.str).length = keysL m2:=by rw [List.length_map]; exact List.take_length
        rw [eB] at hws
        have e8:=same_new hD8 (.lst ws)
        have s69:=s7.trans (s8.trans e8)
        refine ⟨_,rfl,D,us,rfl,.inl ⟨SqL.of (s69 _ _ hD'),fun t1 ht1 => ?_⟩⟩
        have e9:=same_new ht1 (.tup us)
        refine ⟨_,rfl,D8,ws,rfl,.inl ⟨SqL.of (e9 _ _ upd_same),fun t2 ht2 => ?_⟩⟩
        have e10:=same_new ht2 (.tup ws)
        refine ⟨(by show 2 ≤ sizeLine; decide),fun t3 ht3 => ?_⟩
        have e11:=same_new ht3 (.tup [.ref t1,.ref t2])
        have sZ:=s69.trans (e9.trans (e10.trans e11))
        exact q _ _ (s06.trans sZ) (.tup (SqT.of upd_same) (.cons (.tup (SqT.of ((e10.trans e11) _ _ upd_same)) (hus'.same sZ)) (.cons (.tup (SqT.of (e11 _ _ upd_same)) (hws.same (e8.trans (e9.trans (e10.trans e11))))) .nil)))
end
end K29
namespace K29
open PySem L2 Kk
noncomputable def RfAt (K:PySem.W.Frag) (H:Hp) (v:V) (q:Str × (List Kd × Kd)):Prop:=∃ p ta x xs,v = .ref p ∧ SqT K H p [.str q.1,.ref ta,x] ∧ SqT K H ta xs ∧ KdsAt K H xs q.2.1 ∧ KdAt K H x q.2.2
theorem RfAt.keep {K:PySem.W.Frag} {H H':Hp} (hk:∀ a xs,SqT K H a xs → SqT K H' a xs) {v:V} {q:Str × (List Kd × Kd)} (h:RfAt K H v q):RfAt K H' v q :=
  let ⟨p,ta,x,xs,h1,h2,h3,h4,h5⟩:=h
  ⟨p,ta,x,xs,h1,hk _ _ h2,hk _ _ h3,kds_keep hk h4,kd_keep hk h5⟩
noncomputable def rfD (g:List (Str × Kd)) (m:List (Str × (List Kd × Kd))) (z:Str):Str × (List Kd × Kd):=(z,putFn (ownG g) ((look m z).getD ([],.num 0)))
theorem rf_dats {K:PySem.W.Frag} {H:Hp} {g:List (Str × Kd)} {m:List (Str × (List Kd × Kd))}:∀ {us:List V} {zs:List Str},(∀ z ∈ zs,∃ f,look m z = some f) → Paired (RfAt K H) us (zs.map (rfD g m)) → Dats K H us (zs.map (rowFD g m))
  | _,[],_,.nil => .nil
  | _,z :: zs,hz,.cons h t => by
    obtain ⟨f,hf⟩:=hz z (.head _)
    refine .cons ?_ (rf_dats (fun y hy => hz y (.tail _ hy)) t)
    have e:rowFD g m z = .tuple [.str z,.tuple ((putFn (ownG g) f).1.map Kd.dat),Kd.dat (putFn (ownG g) f).2]:=by
      unfold rowFD
      rw [hf]
      rfl
    have e2:rfD g m z = (z,putFn (ownG g) f):=by
      unfold rfD
      rw [hf]
      rfl
    rw [e2] at h
    rw [e]
    obtain ⟨p,ta,x,xs,rfl,h1,h2,h3,h4⟩:=h
    exact .tup h1 (.cons (.str _) (.cons (.tup h2 (kds_dat h3)) (.cons (kd_dat h4) .nil)))
theorem sqt_lst {K:PySem.W.Frag} {H:Hp} {l a:Addr} {us xs:List V} {o:HO} (h:H l = some (.lst us)) (t:SqT K H a xs):SqT K (upd H l o) a xs:=by
  rcases t with (t | ⟨o',t⟩) | t
  · exact .inl (.inl (by rw [upd_ne (fun e => by rw [e,h] at t; cases t)]; exact t))
  · exact .inl (.inr ⟨o',by rw [upd_ne (fun e => by rw [e,h] at t; cases t)]; exact t⟩)
  · exact .inr t
theorem paired_snoc {α β:Type} {R:α → β → Prop}:∀ {xs:List α} {ys:List β} {x:α} {y:β},Paired R xs ys → R x y → Paired R (xs ++ [x]) (ys ++ [y])
  | _,_,_,_,.nil,h => .cons h .nil
  | _,_,_,_,.cons a t,h => .cons a (paired_snoc t h)
noncomputable def spLeastL (K:PySem.W.Frag) (n:Nat):Sp:=fun vs H Q _ => ∃ (d1 d2:Addr) (kv1 kv2:List (Key × V)) (m1:List (Str × Kd)) (m2:List (Str × (List Kd × Kd))),vs = [.ref d1,.ref d2] ∧ H d1 = some (.dK kv1) ∧ H d2 = some (.dK kv2) ∧ PkAt (KdAt K H) kv1 m1 ∧ PkAt (FunAt K H) kv2 m2 ∧ m1.length ≤ 16 ∧ m2.length ≤ 16 ∧ (∀ q ∈ m1,Kd.depth q.2 ≤ n) ∧ (∀ q ∈ m2,q.2.1.length ≤ 4 ∧ ∀ k ∈ q.2.2 :: q.2.1,Kd.depth k ≤ n) ∧
  (∀ q ∈ m1,∀ a t,q.2 = .name a t → a = "") ∧ ∀ H' v,Same H H' → Dat K H' v (leastD m1 m2) → Q v H'
section
variable {P:Program} {w:World} {K:PySem.W.Frag} {mg:Str → Option Value} {base:Heap}
noncomputable abbrev llN:List Str:=["_law_kinds","_law_funs","_law_given","_law_t","_law_kind","_law_rows_here","_law_calls","_law_f","_law_args"]
noncomputable abbrev llP:List Str:=["_law_kinds","_law_funs"]
theorem scLeastL:FnScope llN llP (defScope sLeastL):=⟨rfl,rfl,rfl,by decide +kernel,rfl,by decide +kernel,by decide +kernel⟩
set_option maxHeartbeats 0 in
theorem ok_leastL {n:Nat} {f fp:Addr} {fd fdp:FuncData} (F:Fun K "_law_least" "_law_least" sLeastL f fd) (GP:FnOk P w K mg base CX0 n fp fdp plP (spPutL K n)) (bP:Binds K fdp plP []) (kP:PySem.W.keepIn K (.ref fp) = true) (mP:mg "_law_put" = some (.ref fp)) (ms:mg "sorted" = none) (mt:mg "tuple" = none) :
    FnOk P w K mg base CX0 (n + 1) f fd llP (spLeastL K n):=by
  refine F.ok scLeastL (fun vs H Q E h => ?_) (fun cdv A outer s H vs Q E hr h => ?_)
  · obtain ⟨d1,d2,kv1,kv2,m1,m2,rfl,_⟩:=h
    rfl
  obtain ⟨d1,d2,kv1,kv2,m1,m2,rfl,hd1,hd2,hp1,hp2,l1,l2,dp1,dp2,own,q⟩:=h
  have hu:=hu_of hr
  refine ⟨_,(@pss_cons _ _ _ _ _ (ps_set (i:=2) scLeastL.nd rfl (Or.inr rfl) pe_dnewK)
    (@pss_cons _ _ _ _ _ (ps_for PassesOwn.never rfl (pi_list (pe_callB (call_sorted_dK rfl) rfl ms bootSorted (pa_cons (pv 0) pa_nil))) (pg_name (i:=3) scLeastL.nd rfl (Or.inl rfl))
      (pss_cons (ps_set (i:=4) scLeastL.nd rfl (Or.inl rfl) (pe_dget hu (pv 0) (pv 3) (fun _ _ => rfl)))
      (pss_one (ps_if (PW.pt (pw_and (pt_cmpR op_eq (pe_ix ix_tup (pv 4) pe_int (fun _ _ => rfl)) pe_str (nomark _)) (pw_and1 (pt_cmp (pc_dnotin hu (pe_ix ix_tup (pv 4) pe_int (fun _ _ => rfl)) (pv 2)) (by with_unfolding_all rfl)))))
        (pss_one (ps_dput hu (pv 2) (pe_ix ix_tup (pv 4) pe_int (fun _ _ => rfl)) (pe_tup (pa_cons pe_str (pa_cons pe_str (pa_cons (pv 3) pa_nil)))) rfl)) pss_nil))))
    (@pss_cons _ _ _ _ _ (ps_comp (i0:=5) (own:=["_law_t"]) (caps:=["_law_kinds","_law_given"]) (κ:=[0,2]) scLeastL.nd rfl (Or.inl rfl) rfl ⟨rfl,by decide +kernel,by decide +kernel,rfl,rfl,(fun y hy => by simp only [List.mem_cons,List.not_mem_nil,or_false] at hy; rcases hy with rfl | rfl <;> rfl),(fun y hy => by simp only [List.mem_cons,List.not_mem_nil,or_false] at hy; rcases hy with rfl | rfl <;> exact ⟨.inl rfl,rfl,.inl rfl⟩)⟩ rfl
        (pi_list (pe_callB (call_sorted_dK rfl) rfl ms bootSorted (pa_cons (pv 0) pa_nil))) (fun _ _ _ _ => pg_name (i:=0) (show (["_law_t","_law_kinds","_law_given"]:List Str).Nodup from by decide +kernel) rfl (Or.inl rfl))
        (fun _ _ _ _ => pe_tup (pa_cons (pv 0) (pa_cons (pe_call GP hr rfl mP kP bP .nil pass0 (pa_cons (pe_dget hu (pv 1) (pv 0) (fun _ _ => rfl)) (pa_cons (pv 2) pa_nil))) pa_nil))))
    (@pss_cons _ _ _ _ _ (ps_set (i:=6) scLeastL.nd rfl (Or.inl rfl) (pe_lst pa_nil))
    (@pss_cons _ _ _ _ _ (ps_for PassesOwn.never rfl (pi_list (pe_callB (call_sorted_dK rfl) rfl ms bootSorted (pa_cons (pv 1) pa_nil))) (pg_name (i:=7) scLeastL.nd rfl (Or.inl rfl))
      (pss_cons (ps_set (i:=8) scLeastL.nd rfl (Or.inl rfl) (pe_callTy call_tuple_of (by rfl) mt bootTuple (pa_cons (pe_comp (own:=["_law_kind"]) (caps:=["_law_given"]) (κ:=[2]) rfl ⟨rfl,by decide +kernel,by decide +kernel,rfl,rfl,(fun y hy => by obtain rfl:=List.mem_singleton.mp hy; rfl),(fun y hy => by obtain rfl:=List.mem_singleton.mp hy; exact ⟨.inl rfl,rfl,.inl rfl⟩)⟩ rfl
          (pi_tup (pe_ix ix_tup (pe_dget hu (pv 1) (pv 7) (fun _ _ => rfl)) pe_int (fun _ _ => rfl))) (fun _ _ _ _ => pg_name (i:=0) (show (["_law_kind","_law_given"]:List Str).Nodup from by decide +kernel) rfl (Or.inl rfl)) (fun _ _ _ _ => pe_call GP hr rfl mP kP bP .nil pass0 (pa_cons (pv 0) (pa_cons (pv 1) pa_nil)))) pa_nil)))
      (pss_one (ps_expr (pe_bm PySem.F.plainAttrs_list PySem.F.slot_list_append PySem.F.type_list_append mt_append (pv 6) (pa_cons (pe_tup (pa_cons (pv 7) (pa_cons (pv 8) (pa_cons (pe_call GP hr (by rfl) mP kP bP .nil pass0 (pa_cons (pe_ix ix_tup (pe_dget hu (pv 1) (pv 7) (fun _ _ => rfl)) pe_int (fun _ _ => rfl)) (pa_cons (pv 2) pa_nil))) pa_nil)))) pa_nil))))))
    (@pss_one _ _ _ (ps_ret (pe_tup (pa_cons (pe_callTy call_tuple_of rfl mt bootTuple (pa_cons (pv 5) pa_nil)) (pa_cons (pe_callTy call_tuple_of rfl mt bootTuple (pa_cons (pv 6) pa_nil)) pa_nil))))))))):PSs (cxOf CX0 P w K mg base llN "_law_least" (defScope sLeastL) f cdv A outer s H E).nox (defBody sLeastL) _),?_⟩
  intro gd hgd0
  have sg:=same_new hgd0 (.dK [])
  have ks1:=pk_keys hp1
  have ks2:=pk_keys hp2
  have h64:(m1.map (·.1)).length < 64:=by rw [List.length_map]; omega
  have h642:(m2.map (·.1)).length < 64:=by rw [List.length_map]; omega
  have zl:(keysL m1).length ≤ 16:=by rw [srt_len,List.length_map]; exact l1
  have zl2:(keysL m2).length ≤ 16:=by rw [srt_len,List.length_map]; exact l2
  have getK:∀ z ∈ keysL m1,∃ v k,valV kv1 (.inr z) = some v ∧ look m1 z = some k ∧ KdAt K H v k:=fun z hz => by
    obtain ⟨k,hk⟩:=look_ex (srt_mem.mp hz)
    rcases look_val hp1 z with ⟨_,h2⟩ | h
    · rw [hk] at h2
      cases h2
    · exact h
  have getF:∀ z ∈ keysL m2,∃ v k,valV kv2 (.inr z) = some v ∧ look m2 z = some k ∧ FunAt K H v k:=fun z hz => by
    obtain ⟨k,hk⟩:=look_ex (srt_mem.mp hz)
    rcases look_val hp2 z with ⟨_,h2⟩ | h
    · rw [hk] at h2
      cases h2
    · exact h
  refine ⟨_,rfl,d1,kv1,_,rfl,sg _ _ hd1,ks1,h64,fun l hl => ?_⟩
  have sl:=same_new hl (.lst ((keysL m1).map V.str))
  have ngl:gd ≠ l:=fun e => by rw [← e,upd_same] at hl; cases hl
  refine ⟨l,rfl,⟨_,SqL.of upd_same⟩,for_list (K:=K) (xs:=(keysL m1).map V.str) (fun i σ H3 => ∃ (x2 x3:Option V) (kvs:List (Key × V)),σ = [some (.ref d1),some (.ref d2),some (.ref gd),x2,x3,none,none,none,none] ∧ Same H H3 ∧ H3 l = some (.lst ((keysL m1).map V.str)) ∧ H3 gd = some (.dK kvs) ∧ PkAt (KdAt K H3) kvs (lgivL m1 ((keysL m1).take i)))
    ⟨none,none,[],rfl,sg.trans sl,upd_same,sl _ _ upd_same,.nil⟩ ?_ ?_ ?_⟩
  · rintro i σ H3 _ ⟨_,_,_,_,_,h,_⟩
    exact SqL.of h
  · rintro i y σ H3 hy ⟨x2,x3,kvs,rfl,s3,hL3,hg3,hpt⟩
    rw [List.getElem?_map] at hy
    obtain ⟨z,hz,rfl⟩:=Option.map_eq_some_iff.mp hy
    obtain ⟨nd,ln⟩:=lgivL_ok (m:=m1) (keysL m1) i
    obtain ⟨v,k,hv,hk,hkd⟩:=getK z (List.mem_of_getElem? hz)
    have hi:i < (keysL m1).length:=(List.getElem?_eq_some_iff.mp hz).1
    have pl:kvs.length = (lgivL m1 ((keysL m1).take i)).length:=Paired.length hpt
    rw [lgivL_take hz]
    refine ⟨_,rfl,_,rfl,d1,v,rfl,?_,?_⟩
    · rw [← hv]
      exact DGet.k (k:=.inr z) (s3 _ _ hd1)
    replace hkd:=hkd.same s3
    cases hkd with
    | @num p m t =>
      refine ⟨_,rfl,_,_,_,_,rfl,rfl,t,(show atI [V.str "num",.int m] 0 = some (.str "num") from rfl),rfl,_,rfl,ite2 (fun c => absurd c (by decide +kernel)) (fun _ => iteF ?_)⟩
      rw [lstep_num hk]
      exact ⟨_,_,kvs,rfl,s3,hL3,hg3,hpt⟩
    | @pair p y z' a b t ha hb =>
      refine ⟨_,rfl,_,_,_,_,rfl,rfl,t,(show atI [V.str "pair",y,z'] 0 = some (.str "pair") from rfl),rfl,_,rfl,ite2 (fun c => absurd c (by decide +kernel)) (fun _ => iteF ?_)⟩
      rw [lstep_pair hk]
      exact ⟨_,_,kvs,rfl,s3,hL3,hg3,hpt⟩
    | @name p a b t =>
      obtain rfl:=own _ (look_in hk) a b rfl
      rw [lstep_name hk]
      refine ⟨_,rfl,_,_,_,_,rfl,rfl,t,(show atI [V.str "name",.str "",.str b] 0 = some (.str "name") from rfl),rfl,_,rfl,ite2 (fun _ => ?_) (fun c => absurd (by decide +kernel) c)⟩
      refine ⟨_,rfl,_,_,_,_,rfl,rfl,t,(show atI [V.str "name",.str "",.str b] 2 = some (.str b) from rfl),_,rfl,gd,_,rfl,DGet.k (k:=.inr b) hg3,_,rfl,?_⟩
      rcases look_val hpt b with ⟨h1,no⟩ | ⟨v',k',h1,yes,_⟩
      · rw [h1,if_pos no]
        refine iteT ⟨_,rfl,(by show 3 ≤ sizeLine; decide),fun c2 hc2 => ?_⟩
        have sc:=same_new hc2 (.tup [.str "name",.str "",.str z])
        have hg5:=sc _ _ hg3
        refine ⟨_,rfl,_,rfl,_,_,_,_,rfl,rfl,sc.tup t,(show atI [V.str "name",.str "",.str b] 2 = some (.str b) from rfl),gd,_,rfl,DPut.k (k:=.inr b) hg5 (Nat.lt_of_lt_of_le (Nat.lt_succ_self _) (small (by omega))),?_⟩
        have kp:∀ a xs,SqT K (upd H3 c2 (.tup [.str "name",.str "",.str z])) a xs → SqT K (upd (upd H3 c2 (.tup [.str "name",.str "",.str z])) gd (.dK (putK kvs (.inr b) (.ref c2)))) a xs:=fun a xs t => sqt_dk hg5 t
        refine ⟨_,_,_,rfl,sput (s3.trans sc) hgd0,by rw [upd_ne (Ne.symm ngl)]; exact sc _ _ hL3,upd_same,?_⟩
        exact PkAt.put (hpt.imp fun _ _ h => kd_keep (fun a xs t => kp a xs (sc.tup t)) h) (look_none no) (.name (kp _ _ (SqT.of upd_same)))
      · have yes':¬ look (lgivL m1 ((keysL m1).take i)) b = none:=fun e => by
          rw [yes] at e
          cases e
        rw [h1,if_neg yes']
        exact iteF ⟨_,_,kvs,rfl,s3,hL3,hg3,hpt⟩
  · rintro σ H3 ⟨x2,x3,kvs,rfl,s3,hL3,hg3,hpt⟩
    rw [List.length_map,List.take_length] at hpt
    replace hpt:PkAt (KdAt K H3) kvs (lgiv m1):=hpt
    refine ⟨_,rfl,d1,kv1,_,rfl,s3 _ _ hd1,ks1,h64,fun l4 hl4 => ?_⟩
    have s4:=same_new hl4 (.lst ((keysL m1).map V.str))
    have hL4:upd H3 l4 (.lst ((keysL m1).map V.str)) l4 = some (.lst ((keysL m1).map V.str)):=upd_same
    generalize upd H3 l4 (.lst ((keysL m1).map V.str)) = H4 at s4 hL4 ⊢
    refine ⟨l4,rfl,⟨_,SqL.of hL4⟩,?_⟩
    refine comp_by (xs:=(keysL m1).map V.str) (fun j us H5 => Same H4 H5 ∧ Dats K H5 us (((keysL m1).take j).map (rowKD (lgiv m1) m1)) ∧ us.length = j) ⟨Same.refl _,.nil,rfl⟩ (by rw [List.length_map]; exact small (by omega)) ?_ ?_ ?_ ?_ ?_ ?_
    · rintro j us H5 ⟨_,_,h⟩
      exact Nat.le_of_eq h
    · rintro j u us H5 hu ⟨s5,_⟩
      exact ⟨_,_,SqL.of (s5 _ _ hL4),hu⟩
    · rintro j us u H5 H' hn ⟨s5,_⟩ hy
      exact ⟨hy.1,hy.2 _ (SqL.of (s5 _ _ hL4))⟩
    · rintro us H5 ⟨s5,_⟩
      exact ⟨_,SqL.of (s5 _ _ hL4),Nat.le_refl _⟩
    · rintro j u us H5 N hN hu ⟨s5,hus,hz⟩
      rw [List.getElem?_map] at hu
      obtain ⟨z,hz',rfl⟩:=Option.map_eq_some_iff.mp hu
      obtain ⟨v,k,hv,hk,hkd⟩:=getK z (List.mem_of_getElem? hz')
      have s45:=s4.trans s5
      have s05:=s3.trans s45
      refine ⟨rfl,tYes_go ⟨_,rfl,_,rfl,_,rfl,d1,v,rfl,?_,_,rfl,v,gd,k,kvs,lgiv m1,rfl,hkd.same s05,dp1 _ (look_in hk),s45 _ _ hg3,hpt.imp fun _ _ h => h.same s45,fun H6 v6 s6 hv6 => ⟨(by show 2 ≤ sizeLine; decide),fun p hp => hN _ _ ⟨s5.trans (s6.trans (same_new hp _)),?_,?_⟩⟩⟩⟩
      · rw [← hv]
        exact DGet.k (k:=.inr z) (s05 _ _ hd1)
      · have e:((keysL m1).take (j + 1)).map (rowKD (lgiv m1) m1) = ((keysL m1).take j).map (rowKD (lgiv m1) m1) ++ [rowKD (lgiv m1) m1 z]:=by
          rw [List.take_add_one,hz']
          simp
        rw [e]
        have s7:=same_new hp (.tup [.str z,v6])
        refine dats_snoc (hus.same (s6.trans s7)) ?_
        have er:rowKD (lgiv m1) m1 z = .tuple [.str z,Kd.dat (Kd.put (ownG (lgiv m1)) k)]:=by
          unfold rowKD
          rw [hk]
          rfl
        rw [er]
        exact .tup (SqT.of upd_same) (.cons (.str _) (.cons (kd_dat (hv6.same s7)) .nil))
      · rw [List.length_append,hz]
        rfl
    · rintro us H5 D ⟨s5,hus,hz⟩ hD
      have eA:(keysL m1).take ((keysL m1).map V.str).length = keysL m1:=by rw [List.length_map]; exact List.take_length
      rw [eA] at hus
      have e1:=same_new hD (.lst us)
      have hD':upd H5 D (.lst us) D = some (.lst us):=upd_same
      have hus':=hus.same e1
      have s36:=s4.trans (s5.trans e1)
      generalize upd H5 D (.lst us) = H6 at e1 hD' hus' s36 ⊢
      have s06:=s3.trans s36
      refine ⟨(by show 0 ≤ sizeLine; decide),fun cl hcl => ?_⟩
      have sC:=same_new hcl (.lst [])
      refine ⟨_,rfl,d2,kv2,_,rfl,(s06.trans sC) _ _ hd2,ks2,h642,fun l7 hl7 => ?_⟩
      have s7:=same_new hl7 (.lst ((keysL m2).map V.str))
      have ncl:cl ≠ l7:=fun e => by rw [← e,upd_same] at hl7; cases hl7
      refine ⟨l7,rfl,⟨_,SqL.of upd_same⟩,for_list (K:=K) (xs:=(keysL m2).map V.str) (fun i σ H8 => ∃ (x7 x8:Option V) (ws:List V),σ = [some (.ref d1),some (.ref d2),some (.ref gd),x2,x3,some (.ref D),some (.ref cl),x7,x8] ∧ Same H6 H8 ∧ H8 l7 = some (.lst ((keysL m2).map V.str)) ∧ H8 cl = some (.lst ws) ∧ ws.length = i ∧ Paired (RfAt K H8) ws (((keysL m2).take i).map (rfD (lgiv m1) m2)))
        ⟨none,none,[],rfl,sC.trans s7,upd_same,s7 _ _ upd_same,rfl,.nil⟩ ?_ ?_ ?_⟩
      · rintro i σ H8 _ ⟨_,_,_,_,_,h,_⟩
        exact SqL.of h
      · rintro i y σ H8 hy ⟨x7,x8,ws,rfl,s8,hL8,hc8,hwl,hws⟩
        rw [List.getElem?_map] at hy
        obtain ⟨z,hz',rfl⟩:=Option.map_eq_some_iff.mp hy
        obtain ⟨v,fn,hv,hk,hfn⟩:=getF z (List.mem_of_getElem? hz')
        obtain ⟨fl4,fdp'⟩:=dp2 _ (look_in hk)
        replace fl4:fn.1.length ≤ 4:=fl4
        have hi:i < (keysL m2).length:=(List.getElem?_eq_some_iff.mp hz').1
        have s38:=s36.trans s8
        have s08:=s3.trans s38
        obtain ⟨pp,ta,x,xs,rfl,f1,f2,f3,f4⟩:=hfn
        replace f1:=s08.tup f1
        replace f2:=s08.tup f2
        replace f3:=f3.same s08
        replace f4:=f4.same s08
        have hlx:=f3.length
        have hd8:=s08 _ _ hd2
        have hg8:=s38 _ _ hg3
        have hpt8:PkAt (KdAt K H8) kvs (lgiv m1):=hpt.imp fun _ _ h => h.same s38
        refine ⟨_,rfl,_,rfl,d2,.ref pp,rfl,?_,_,_,_,_,rfl,rfl,f1,(show atI [V.ref ta,x] 0 = some (.ref ta) from rfl),ta,rfl,⟨_,f2⟩,?_⟩
        · rw [← hv]
          exact DGet.k (k:=.inr z) hd8
        refine comp_by (xs:=xs) (fun j us H9 => Same H8 H9 ∧ KdsAt K H9 us ((fn.1.take j).map (Kd.put (ownG (lgiv m1)))) ∧ us.length = j) ⟨Same.refl _,.nil,rfl⟩ (small (by omega)) ?_ ?_ ?_ ?_ ?_ ?_
        · rintro j us H9 ⟨_,_,h⟩
          exact Nat.le_of_eq h
        · rintro j u us H9 hu ⟨s9,_⟩
          exact ⟨_,_,s9.tup f2,hu⟩
        · rintro j us u H9 H' hn ⟨s9,_⟩ hy
          exact ⟨hy.1,hy.2 _ (s9.tup f2)⟩
        · rintro us H9 ⟨s9,_⟩
          exact ⟨_,s9.tup f2,Nat.le_refl _⟩
        · rintro j u us H9 N hN hu ⟨s9,hus9,hz9⟩
          obtain ⟨k1,hk1,hku⟩:=kds_get f3 hu
          have hm:k1 ∈ fn.1:=List.mem_of_getElem? hk1
          refine ⟨rfl,tYes_go ⟨_,rfl,_,rfl,u,gd,k1,kvs,lgiv m1,rfl,hku.same s9,fdp' k1 (.tail _ hm),s9 _ _ hg8,hpt8.imp fun _ _ h => h.same s9,fun H5 v s5 hv => hN _ _ ⟨s9.trans s5,?_,?_⟩⟩⟩
          · have e:(fn.1.take (j + 1)).map (Kd.put (ownG (lgiv m1))) = (fn.1.take j).map (Kd.put (ownG (lgiv m1))) ++ [Kd.put (ownG (lgiv m1)) k1]:=by
              rw [List.take_add_one,hk1]
              simp
            rw [e]
            exact (hus9.same s5).append (one hv)
          · rw [List.length_append,hz9]
            rfl
        · rintro us2 H9 D9 ⟨s9,hus9,hz9⟩ hD9
          have eB:fn.1.take xs.length = fn.1:=by rw [hlx]; exact List.take_length
          rw [eB] at hus9
          have e9:=same_new hD9 (.lst us2)
          refine ⟨D9,us2,rfl,.inl ⟨SqL.of upd_same,fun ta' hta' => ?_⟩⟩
          have e10:=same_new hta' (.tup us2)
          have sA:=s9.trans (e9.trans e10)
          refine ⟨_,rfl,.inl ⟨rfl,_,SqL.of (sA _ _ hc8)⟩,_,rfl,_,rfl,_,rfl,_,rfl,d2,.ref pp,rfl,?_,_,_,_,_,rfl,rfl,sA.tup f1,(show atI [V.ref ta,x] 1 = some x from rfl),_,rfl,x,gd,fn.2,kvs,lgiv m1,rfl,f4.same sA,fdp' _ (.head _),sA _ _ hg8,hpt8.imp fun _ _ h => h.same sA,fun H11 x' s11 hx' => ?_⟩
          · rw [← hv]
            exact DGet.k (k:=.inr z) (sA _ _ hd8)
          refine ⟨(by show 3 ≤ sizeLine; decide),fun p' hp' => ?_⟩
          have e12:=same_new hp' (.tup [.str z,.ref ta',x'])
          have sB:=sA.trans (s11.trans e12)
          have hcB:=sB _ _ hc8
          refine ⟨cl,_,_,rfl,rfl,hcB,Nat.lt_of_lt_of_le (Nat.lt_succ_self _) (small (by omega)),?_⟩
          have kp:∀ a zs,SqT K (upd H11 p' (.tup [.str z,.ref ta',x'])) a zs → SqT K (upd (upd H11 p' (.tup [.str z,.ref ta',x'])) cl (.lst (ws ++ [.ref p']))) a zs:=fun a zs t => sqt_lst hcB t
          refine ⟨_,_,ws ++ [.ref p'],rfl,sput (s8.trans sB) hcl,by rw [upd_ne (Ne.symm ncl)]; exact sB _ _ hL8,upd_same,by rw [List.length_append,hwl]; rfl,?_⟩
          have e:((keysL m2).take (i + 1)).map (rfD (lgiv m1) m2) = ((keysL m2).take i).map (rfD (lgiv m1) m2) ++ [(z,putFn (ownG (lgiv m1)) fn)]:=by
            rw [List.take_add_one,hz']
            simp [rfD,hk]
          rw [e]
          refine paired_snoc (Paired.mapP hws fun _ _ h => h.keep fun a zs t => kp a zs (sB.tup t)) ⟨p',ta',x',us2,rfl,kp _ _ (SqT.of upd_same),kp _ _ (SqT.of (e12 _ _ (s11 _ _ upd_same))),kds_keep (fun a zs t => kp a zs ((e9.trans (e10.trans (s11.trans e12))).tup t)) hus9,kd_keep (fun a zs t => kp a zs (e12.tup t)) hx'⟩
      · rintro σ H8 ⟨x7,x8,ws,rfl,s8,hL8,hc8,hwl,hws⟩
        rw [List.length_map,List.take_length] at hws
        refine ⟨_,rfl,D,us,rfl,.inl ⟨SqL.of (s8 _ _ hD'),fun t1 ht1 => ?_⟩⟩
        have e9:=same_new ht1 (.tup us)
        refine ⟨_,rfl,cl,ws,rfl,.inl ⟨SqL.of (e9 _ _ hc8),fun t2 ht2 => ?_⟩⟩
        have e10:=same_new ht2 (.tup ws)
        refine ⟨(by show 2 ≤ sizeLine; decide),fun t3 ht3 => ?_⟩
        have e11:=same_new ht3 (.tup [.ref t1,.ref t2])
        have sZ:=e9.trans (e10.trans e11)
        have dw:=rf_dats (m:=m2) (fun z hz => by obtain ⟨_,k,_,hk,_⟩:=getF z hz; exact ⟨k,hk⟩) hws
        exact q _ _ (s06.trans (s8.trans sZ)) (.tup (SqT.of upd_same) (.cons (.tup (SqT.of ((e10.trans e11) _ _ upd_same)) (hus'.same (s8.trans sZ))) (.cons (.tup (SqT.of (e11 _ _ upd_same)) (dw.same sZ)) .nil)))
end
end K29
namespace K29
open PySem L2 Kk
noncomputable def KIt (z:Str) (it:It):Prop:=it = .hid z ∨ ∃ k,it = .told z k
structure Itn (ws cs:List Str) (its:List It) (i j:Nat):Prop where
  each:∀ n it,its[n]? = some it → ItOk (its.take n) it
  len:its.length = i + j
  k:kW its = ws.take i
  f:fW its = cs.take j
  at':∀ n z,n < i → ws[n]? = some z → ∃ it,its[n]? = some it ∧ KIt z it
  fs:∀ n it,i ≤ n → its[n]? = some it → ∃ w as r,it = .fn w as r
theorem at_m {α:Type} {xs:List α} {c m:Int} (h0:0 < m) (h1:m ≤ xs.length):∃ (j:Nat) (x:α),j < m.toNat ∧ xs[j]? = some x ∧ atI xs (c % m) = some x:=by
  have t0:=Int.emod_nonneg c (Int.ne_of_gt h0)
  have t1:=Int.emod_lt_of_pos c h0
  have hj:(c % m).toNat < xs.length:=by omega
  refine ⟨(c % m).toNat,xs[(c % m).toNat],by omega,List.getElem?_eq_getElem hj,?_⟩
  have e:(((c % m).toNat:Nat):Int) = c % m:=by omega
  have h:atI xs (((c % m).toNat:Nat):Int) = some xs[(c % m).toNat]:=atI_nat (by simp)
  rw [e] at h
  exact h
theorem each_snoc {its:List It} {it:It} (h:∀ n it,its[n]? = some it → ItOk (its.take n) it) (ok:ItOk its it):∀ n it',(its ++ [it])[n]? = some it' → ItOk ((its ++ [it]).take n) it':=fun n it' hn => by
  rcases get_snoc hn with hn | ⟨rfl,rfl⟩
  · have lt:=(List.getElem?_eq_some_iff.mp hn).1
    rw [List.take_append_of_le_length (Nat.le_of_lt lt)]
    exact h n it' hn
  · rw [List.take_left' rfl]
    exact ok
theorem Itn.kind {ws cs:List Str} {its:List It} {i:Nat} {z:Str} {it:It} (h:Itn ws cs its i 0) (hz:ws[i]? = some z) (kt:KIt z it) (ok:ItOk its it):Itn ws cs (its ++ [it]) (i + 1) 0:=by
  have ek:It.k it = some z:=by rcases kt with rfl | ⟨k,rfl⟩ <;> rfl
  have ef:It.f it = none:=by rcases kt with rfl | ⟨k,rfl⟩ <;> rfl
  refine ⟨each_snoc h.each ok,by rw [List.length_append,h.len]; rfl,?_,?_,fun n y hn hy => ?_,fun n y hn hy => ?_⟩
  · rw [kW_snoc,h.k,ek,List.take_add_one,hz]
  · rw [fW_snoc,h.f,ef]
    simp
  rotate_left
  · have:=(List.getElem?_eq_some_iff.mp hy).1
    rw [List.length_append,h.len] at this
    simp only [List.length_singleton] at this
    omega
  · have hl:its.length = i:=by have:=h.len; omega
    by_cases e:n = i
    · subst e
      rw [hz] at hy
      have ey:=Option.some.inj hy
      subst ey
      refine ⟨it,?_,kt⟩
      rw [List.getElem?_append_right (by omega),hl,Nat.sub_self]
      rfl
    · obtain ⟨it',h1,h2⟩:=h.at' n y (by omega) hy
      refine ⟨it',?_,h2⟩
      rw [List.getElem?_append_left (by omega)]
      exact h1
theorem Itn.fun' {ws cs:List Str} {its:List It} {j:Nat} {z:Str} {as:List Kd} {r:Kd} (h:Itn ws cs its 16 j) (hz:cs[j]? = some z) (ok:ItOk its (.fn z as r)):Itn ws cs (its ++ [.fn z as r]) 16 (j + 1):=by
  refine ⟨each_snoc h.each ok,by rw [List.length_append,h.len]; rfl,?_,?_,fun n y hn hy => ?_,fun n y hn hy => (get_snoc hy).elim (fun e => h.fs n y hn e) fun e => ⟨z,as,r,e.2⟩⟩
  · rw [kW_snoc,h.k]
    show _ ++ [] = _
    rw [List.append_nil]
  · rw [fW_snoc,h.f,List.take_add_one,hz]
    rfl
  · have:=h.len
    obtain ⟨it',h1,h2⟩:=h.at' n y hn hy
    refine ⟨it',?_,h2⟩
    rw [List.getElem?_append_left (by omega)]
    exact h1
theorem Itn.ok {ws cs:List Str} {its:List It} (h:Itn ws cs its 16 16) (hw:ws.length = 16) (hc:cs.length = 16):ItsOk its:=by
  refine ⟨h.each,?_,?_,?_⟩
  · rw [h.k,List.length_take]
    omega
  · rw [h.f,List.length_take]
    omega
  · rw [h.len]
    decide
noncomputable def spItems (K:PySem.W.Frag):Sp:=fun vs H Q _ => ∃ (a wl cl:Addr) (ns:List Int) (ws cs:List Str),vs = [.ref a,.ref wl,.ref cl] ∧ SqL K H a (ns.map V.int) ∧ ns.length ≤ 63 ∧ H wl = some (.lst (ws.map V.str)) ∧ ws.length = 16 ∧ ws.Nodup ∧ (∀ z ∈ ws,smW z) ∧ H cl = some (.lst (cs.map V.str)) ∧ cs.length = 16 ∧ cs.Nodup ∧ (∀ z ∈ cs,smW z) ∧
  ∀ H' (l:Addr) (xs:List V) (its:List It),Same H H' → H l = none → H' l = some (.lst xs) → Paired (ItAt K H') xs its → Itn ws cs its 16 16 → Q (.ref l) H'
section
variable {P:Program} {w:World} {K:PySem.W.Frag} {mg:Str → Option Value} {base:Heap}
noncomputable abbrev itN:List Str:=["_law_script","_law_words_here","_law_calls","_law_items_here","_law_k","_law_cell_here","_law_kind","_law_args"]
noncomputable abbrev itP:List Str:=["_law_script","_law_words_here","_law_calls"]
theorem scItems:FnScope itN itP (defScope sItems):=⟨rfl,rfl,rfl,by decide +kernel,rfl,by decide +kernel,by decide +kernel⟩
set_option maxHeartbeats 0 in
theorem ok_items {f fc:Addr} {fd fdc:FuncData} (F:Fun K "_law_items" "_law_items" sItems f fd)
    (GC:FnOk P w K mg base CX0 1 fc fdc ["_law_script","_law_k"] (spCell K)) (bC:Binds K fdc ["_law_script","_law_k"] []) (kC:PySem.W.keepIn K (.ref fc) = true) (mC:mg "_law_cell" = some (.ref fc)) (mr:mg "range" = none) (mt:mg "tuple" = none) :
    FnOk P w K mg base CX0 2 f fd itP (spItems K):=by
  refine F.ok scItems (fun vs H Q E h => ?_) (fun cdv A outer s H vs Q E hr h => ?_)
  · obtain ⟨a,wl,cl,ns,ws,cs,rfl,_⟩:=h
    rfl
  obtain ⟨a,wl,cl,ns,ws,cs,rfl,hS,h63,hwl,w16,wnd,wok,hcl,c16,cnd,cok,q⟩:=h
  have hu:=hu_of hr
  refine ⟨_,(@pss_cons _ _ _ _ _ (ps_set (i:=3) scItems.nd rfl (Or.inl rfl) (pe_lst (pa_cons (pe_tup (pa_cons pe_str (pa_cons (pe_ix ix_list (pv 1) pe_int (fun _ _ => rfl)) pa_nil))) pa_nil)))
    (@pss_cons _ _ _ _ _ (ps_for PassesOwn.never rfl (pi_range2 rfl mr (pa_cons pe_int (pa_cons pe_int pa_nil))) (pg_name (i:=4) scItems.nd rfl (Or.inl rfl))
      (pss_cons (ps_set (i:=5) scItems.nd rfl (Or.inr rfl) (pe_call GC hr rfl mC kC bC .nil pass0 (pa_cons (pv 0) (pa_cons (pe_op op_add pe_int (pv 4)) pa_nil))))
      (pss_cons (ps_set (i:=6) scItems.nd rfl (Or.inl rfl) (pe_tup (pa_cons pe_str (pa_cons pe_str (pa_cons (pe_ix ix_list (pv 1) (pe_op op_mod (pe_op op_fdiv (pv 5) pe_int) (pv 4)) (fun _ _ => rfl)) pa_nil)))))
      (pss_one (ps_if (pt_cmpR op_lt (pe_op op_mod (pv 5) pe_int) pe_int (nomark _))
        (pss_one (ps_expr (pe_bm PySem.F.plainAttrs_list PySem.F.slot_list_append PySem.F.type_list_append mt_append (pv 3) (pa_cons (pe_tup (pa_cons pe_str (pa_cons (pe_ix ix_list (pv 1) (pv 4) (fun _ _ => rfl)) pa_nil))) pa_nil))))
        (pss_one (ps_if (pt_cmpR op_eq (pe_op op_mod (pv 5) pe_int) pe_int (nomark _))
          (pss_one (ps_expr (pe_bm PySem.F.plainAttrs_list PySem.F.slot_list_append PySem.F.type_list_append mt_append (pv 3) (pa_cons (pe_tup (pa_cons pe_str (pa_cons (pe_ix ix_list (pv 1) (pv 4) (fun _ _ => rfl)) (pa_cons (pv 6) pa_nil)))) pa_nil))))
          (pss_one (ps_expr (pe_bm PySem.F.plainAttrs_list PySem.F.slot_list_append PySem.F.type_list_append mt_append (pv 3) (pa_cons (pe_tup (pa_cons pe_str (pa_cons (pe_ix ix_list (pv 1) (pv 4) (fun _ _ => rfl)) (pa_cons (pe_tup (pa_cons pe_str (pa_cons (pv 6) (pa_cons (pe_tup (pa_cons pe_str (pa_cons (pe_op op_add pe_int (pe_op op_mod (pe_op op_fdiv (pv 5) pe_int) (pe_op op_pow pe_int pe_int))) pa_nil))) pa_nil)))) pa_nil)))) pa_nil)))))))))))
    (@pss_cons _ _ _ _ _ (ps_for PassesOwn.never rfl (pi_range1 rfl mr (pa_cons pe_int pa_nil)) (pg_name (i:=4) scItems.nd rfl (Or.inl rfl))
      (pss_cons (ps_set (i:=5) scItems.nd rfl (Or.inr rfl) (pe_call GC hr rfl mC kC bC .nil pass0 (pa_cons (pv 0) (pa_cons (pe_op op_add pe_int (pv 4)) pa_nil))))
      (pss_cons (ps_comp (i0:=7) (own:=["_law_j"]) (caps:=["_law_words_here","_law_cell_here"]) (κ:=[1,5]) scItems.nd rfl (Or.inl rfl) rfl ⟨rfl,by decide +kernel,by decide +kernel,rfl,rfl,(fun y hy => by simp only [List.mem_cons,List.not_mem_nil,or_false] at hy; rcases hy with rfl | rfl <;> rfl),(fun y hy => by simp only [List.mem_cons,List.not_mem_nil,or_false] at hy; rcases hy with rfl | rfl <;> exact ⟨.inl rfl,rfl,.inl rfl⟩)⟩ rfl
          (pi_range1 rfl mr (pa_cons (pe_op op_mod (pv 5) pe_int) pa_nil)) (fun _ _ _ _ => pg_name (i:=0) (show (["_law_j","_law_words_here","_law_cell_here"]:List Str).Nodup from by decide +kernel) rfl (Or.inl rfl))
          (fun _ _ _ _ => pe_tup (pa_cons pe_str (pa_cons pe_str (pa_cons (pe_ix (ixLK (K:=K) rfl) (pv 1) (pe_op op_mod (pe_op op_fdiv (pv 2) (pe_op op_add pe_int (pe_op op_mul pe_int (pv 0)))) pe_int) (fun _ _ => rfl)) pa_nil)))))
      (pss_one (ps_expr (pe_bm PySem.F.plainAttrs_list PySem.F.slot_list_append PySem.F.type_list_append mt_append (pv 3) (pa_cons (pe_tup (pa_cons pe_str (pa_cons (pe_ix ix_list (pv 2) (pv 4) (fun _ _ => rfl)) (pa_cons (pe_callTy call_tuple_of rfl mt bootTuple (pa_cons (pv 7) pa_nil)) (pa_cons (pe_tup (pa_cons pe_str (pa_cons pe_str (pa_cons (pe_ix ix_list (pv 1) (pe_op op_mod (pe_op op_fdiv (pv 5) pe_int) pe_int) (fun _ _ => rfl)) pa_nil)))) pa_nil))))) pa_nil)))))))
    (@pss_one _ _ _ (ps_ret (pv 3))))):PSs (cxOf CX0 P w K mg base itN "_law_items" (defScope sItems) f cdv A outer s H E).nox (defBody sItems) _),?_⟩
  have at1:∀ {zs:List Str} {j:Nat} {z:Str} {m:Int},zs[j]? = some z → m = (j:Int) → atI (zs.map V.str) m = some (.str z):=fun {zs j z m} h e => by
    rw [e]
    exact atI_nat (by rw [List.getElem?_map,h]; rfl)
  have wl16:(ws.map V.str).length = 16:=by rw [List.length_map]; exact w16
  obtain ⟨z0,hz0⟩:∃ z,ws[0]? = some z:=⟨_,List.getElem?_eq_getElem (by omega)⟩
  refine ⟨_,rfl,wl,_,_,_,rfl,rfl,SqL.of hwl,at1 hz0 rfl,(by show 2 ≤ sizeLine; decide),fun p0 hp0 => ⟨(by show 1 ≤ sizeLine; decide),fun l hl => ?_⟩⟩
  have sp0:=same_new hp0 (.tup [.str "hid",.str z0])
  have hl0:H l = none:=sp0.free hl
  have sl:=same_new hl (.lst [.ref p0])
  have s0:=sp0.trans sl
  have I0:Itn ws cs [.hid z0] (0 + 1) 0:=by
    refine Itn.kind (its:=[]) ⟨fun n it h => (nomatch h),rfl,rfl,rfl,fun n z h => absurd h (Nat.not_lt_zero _),fun n it _ h => (nomatch h)⟩ hz0 (.inl rfl) ⟨wok z0 (List.mem_of_getElem? hz0),fun z => nomatch z⟩
  refine ⟨1,16,rfl,⟨by decide,by decide,by decide,by decide⟩,for_range (fun i σ H3 => ∃ (xs:List V) (its:List It) (x4 x5 x6:Option V),σ = [some (.ref a),some (.ref wl),some (.ref cl),some (.ref l),x4,x5,x6,none] ∧ Same H H3 ∧ H3 l = some (.lst xs) ∧ Paired (ItAt K H3) xs its ∧ Itn ws cs its (i + 1) 0)
    ⟨[.ref p0],[.hid z0],none,none,none,rfl,s0,upd_same,.cons ⟨p0,rfl,SqT.of (sl _ _ upd_same)⟩ .nil,I0⟩ ?_ ?_⟩
  · rintro i σ H3 hi ⟨xs,its,x4,x5,x6,rfl,s3,hl3,hits,hI⟩
    have hi':i < 15:=hi
    obtain ⟨z,hz⟩:∃ z,ws[i + 1]? = some z:=⟨_,List.getElem?_eq_getElem (by omega)⟩
    have hzo:=wok z (List.mem_of_getElem? hz)
    have hzV:atI (ws.map V.str) (1 + (i:Int)) = some (.str z):=at1 hz (by omega)
    have hzn:z ∉ kW its:=by rw [hI.k]; exact out_take wnd hz
    have hxl:xs.length = i + 1:=by have:=hits.length; have:=hI.len; omega
    refine ⟨_,rfl,_,rfl,_,_,rfl,rfl,a,ns,_,rfl,sql_same s3 hS,h63,by omega,by omega,fun c => ?_⟩
    obtain ⟨j,x,hji,hjx,hat⟩:=at_m (xs:=ws.map V.str) (c:=c / 4) (m:=1 + (i:Int)) (by omega) (by omega)
    rw [List.getElem?_map] at hjx
    obtain ⟨y,hy,rfl⟩:=Option.map_eq_some_iff.mp hjx
    have hyk:y ∈ kW its:=by
      rw [hI.k]
      exact List.mem_of_getElem? (i:=j) (by rw [List.getElem?_take_of_lt (by omega)]; exact hy)
    refine ⟨_,rfl,_,rfl,_,_,rfl,rfl,⟨by decide,by decide⟩,_,rfl,_,_,rfl,rfl,(by show (0:Int) < 1 + (i:Int); omega),wl,_,_,_,rfl,rfl,SqL.of (s3 _ _ hwl),hat,(by show 3 ≤ sizeLine; decide),fun p hp => ?_⟩
    have sp:=same_new hp (.tup [.str "name",.str "",.str y])
    have hkd:KdAt K (upd H3 p (.tup [.str "name",.str "",.str y])) (.ref p) (ownK y):=.name (SqT.of upd_same)
    generalize upd H3 p (.tup [.str "name",.str "",.str y]) = H4 at sp hkd ⊢
    have s34:=s3.trans sp
    have app:∀ (H5:Hp) (p:Addr) (it:It) (x4 x5 x6:Option V),Same H4 H5 → ItAt K H5 (.ref p) it → KIt z it → ItOk its it → ∃ (xs':List V) (its':List It) (y4 y5 y6:Option V),[some (.ref a),some (.ref wl),some (.ref cl),some (.ref l),x4,x5,x6,none] = [some (.ref a),some (.ref wl),some (.ref cl),some (.ref l),y4,y5,y6,none] ∧ Same H (upd H5 l (.lst (xs ++ [.ref p]))) ∧ upd H5 l (.lst (xs ++ [.ref p])) l = some (.lst xs') ∧ Paired (ItAt K (upd H5 l (.lst (xs ++ [.ref p])))) xs' its' ∧ Itn ws cs its' (i + 1 + 1) 0:=by
      intro H5 p it x4 x5 x6 s5 hat5 kt ok
      have hl5:=s5 _ _ (sp _ _ hl3)
      have kp:∀ a zs,SqT K H5 a zs → SqT K (upd H5 l (.lst (xs ++ [.ref p]))) a zs:=fun a zs t => sqt_lst hl5 t
      exact ⟨_,its ++ [it],x4,x5,x6,rfl,sput (s34.trans s5) hl0,upd_same,paired_snoc (Paired.mapP hits fun _ _ h => h.keep fun a zs t => kp a zs ((sp.trans s5).tup t)) (hat5.keep kp),hI.kind hz kt ok⟩
    have hL4:=sp _ _ hl3
    have hw4:=s34 _ _ hwl
    have zz:xs.length < sizeLine:=Nat.lt_of_lt_of_le (Nat.lt_succ_self _) (small (by omega))
    refine ⟨_,rfl,_,_,rfl,rfl,(by show (0:Int) < 4; decide),_,_,rfl,rfl,_,rfl,ite2 (fun c1 => ?_) (fun c1 => ?_)⟩
    · refine ⟨_,rfl,.inl ⟨rfl,_,SqL.of hL4⟩,_,rfl,_,rfl,wl,_,_,_,rfl,rfl,SqL.of hw4,hzV,(by show 2 ≤ sizeLine; decide),fun p2 hp2 => ?_⟩
      have s5:=same_new hp2 (.tup [.str "hid",.str z])
      exact ⟨l,_,_,rfl,rfl,s5 _ _ hL4,zz,app _ p2 (.hid z) _ _ _ s5 ⟨p2,rfl,SqT.of upd_same⟩ (.inl rfl) ⟨hzo,hzn⟩⟩
    · refine ⟨_,rfl,_,_,rfl,rfl,(by show (0:Int) < 4; decide),rfl,_,rfl,ite2 (fun c2 => ?_) (fun c2 => ?_)⟩
      · refine ⟨_,rfl,.inl ⟨rfl,_,SqL.of hL4⟩,_,rfl,_,rfl,wl,_,_,_,rfl,rfl,SqL.of hw4,hzV,_,rfl,(by show 3 ≤ sizeLine; decide),fun p2 hp2 => ?_⟩
        have s5:=same_new hp2 (.tup [.str "told",.str z,.ref p])
        exact ⟨l,_,_,rfl,rfl,s5 _ _ hL4,zz,app _ p2 (.told z (ownK y)) _ _ _ s5 ⟨p2,.ref p,rfl,SqT.of upd_same,hkd.same s5⟩ (.inr ⟨_,rfl⟩) ⟨hzo,hzn,.inl ⟨y,hyk,rfl⟩⟩⟩
      · refine ⟨_,rfl,.inl ⟨rfl,_,SqL.of hL4⟩,_,rfl,_,rfl,wl,_,_,_,rfl,rfl,SqL.of hw4,hzV,_,rfl,_,rfl,_,_,rfl,rfl,⟨by decide,by decide⟩,_,_,rfl,rfl,⟨by decide,by decide,by decide⟩,_,_,rfl,rfl,e18,_,_,rfl,rfl,(by show 2 ≤ sizeLine; decide),fun p1 hp1 => ?_⟩
        have s5:=same_new hp1 (.tup [.str "num",.int (1 + c / 64 % (10:Int) ^ (18:Int).toNat)])
        refine ⟨(by show 3 ≤ sizeLine; decide),fun p2 hp2 => ⟨(by show 3 ≤ sizeLine; decide),fun p3 hp3 => ?_⟩⟩
        have s6:=same_new hp2 (.tup [.str "pair",.ref p,.ref p1])
        have s7:=same_new hp3 (.tup [.str "told",.str z,.ref p2])
        have s57:=s5.trans (s6.trans s7)
        have sn:=sm_num (c / 64)
        exact ⟨l,_,_,rfl,rfl,s57 _ _ hL4,zz,app _ p3 (.told z (.pair (ownK y) (.num (1 + c / 64 % (10:Int) ^ (18:Int).toNat)))) _ _ _ s57 ⟨p3,.ref p2,rfl,SqT.of upd_same,.pair (s7.tup (SqT.of upd_same)) (hkd.same s57) (.num ((s6.trans s7).tup (SqT.of upd_same)))⟩ (.inr ⟨_,rfl⟩) ⟨hzo,hzn,.inr ⟨y,hyk,_,rfl,sn.1,sn.2⟩⟩⟩
  · rintro σ H3 ⟨xs,its,x4,x5,x6,rfl,s3,hl3,hits,hI⟩
    replace hI:Itn ws cs its 16 0:=hI
    refine ⟨_,rfl,by decide,by decide,for_range (fun i σ H4 => ∃ (xs:List V) (its:List It) (x4 x5 x7:Option V),σ = [some (.ref a),some (.ref wl),some (.ref cl),some (.ref l),x4,x5,x6,x7] ∧ Same H H4 ∧ H4 l = some (.lst xs) ∧ Paired (ItAt K H4) xs its ∧ Itn ws cs its 16 i)
      ⟨xs,its,x4,x5,none,rfl,s3,hl3,hits,hI⟩ ?_ ?_⟩
    · rintro i σ H4 hi ⟨xs,its,x4,x5,x7,rfl,s4,hl4,hits,hI⟩
      have hi':i < 16:=hi
      obtain ⟨z,hz⟩:∃ z,cs[i]? = some z:=⟨_,List.getElem?_eq_getElem (by omega)⟩
      have hzo:=cok z (List.mem_of_getElem? hz)
      have hzV:atI (cs.map V.str) (0 + (i:Int)) = some (.str z):=at1 hz (by omega)
      have hzn:z ∉ fW its:=by rw [hI.f]; exact out_take cnd hz
      have hkW:kW its = ws:=by rw [hI.k]; exact List.take_of_length_le (by omega)
      have hxl:xs.length = 16 + i:=by have:=hits.length; have:=hI.len; omega
      have zz:xs.length < sizeLine:=Nat.lt_of_lt_of_le (Nat.lt_succ_self _) (small (by omega))
      have wat:∀ cc:Int,∃ y,y ∈ ws ∧ atI (ws.map V.str) (cc % 16) = some (.str y):=fun cc => by
        obtain ⟨j,x,_,hjx,hat⟩:=at_m (xs:=ws.map V.str) (c:=cc) (m:=16) (by decide) (by rw [wl16]; decide)
        rw [List.getElem?_map] at hjx
        obtain ⟨y,hy,rfl⟩:=Option.map_eq_some_iff.mp hjx
        exact ⟨y,List.mem_of_getElem? hy,hat⟩
      refine ⟨_,rfl,_,rfl,_,_,rfl,rfl,a,ns,_,rfl,sql_same s4 hS,h63,by omega,by omega,fun c => ?_⟩
      have t0:=Int.emod_nonneg c (show (5:Int) ≠ 0 by decide)
      have t1:=Int.emod_lt_of_pos c (show (0:Int) < 5 by decide)
      refine ⟨_,rfl,_,_,rfl,rfl,(by show (0:Int) < 5; decide),_,rfl,by omega,by omega,?_⟩
      refine comp_by (J:=Itr 0 (c % 5).toNat) (xs:=rangeV 0 (c % 5).toNat) (fun n ys H5 => n ≤ (c % 5).toNat ∧ Same H4 H5 ∧ ∃ ks,KdsAt K H5 ys ks ∧ ks.length = n ∧ ∀ k ∈ ks,∃ y ∈ kW its,k = ownK y) ⟨Nat.zero_le _,Same.refl _,[],.nil,rfl,fun k hk => nomatch hk⟩ (by rw [rangeV_len]; exact small (by omega)) ?_ ?_ ?_ ?_ ?_ ?_
      · rintro n ys H5 ⟨hn,_,ks,h1,h2,_⟩
        rw [h1.length,h2]
        exact Nat.le_refl _
      · rintro n x ys H5 hx _
        exact itr_go hx
      · rintro n ys x H5 H' hn _ hy
        rw [rangeV_len] at hn
        exact itr_yld' hn hy
      · rintro ys H5 _
        rw [rangeV_len]
        exact Nat.le_refl _
      · rintro n x ys H5 N hN hx ⟨hn,s5,ks,h1,h2,h3⟩
        obtain ⟨hn',rfl⟩:=rangeV_get.mp hx
        obtain ⟨y,hy,hat⟩:=wat (c / (5 + 2 * (0 + (n:Int))))
        refine ⟨rfl,tYes_go ⟨_,rfl,_,rfl,_,rfl,_,_,rfl,rfl,.inl ⟨by omega,by omega⟩,_,_,rfl,rfl,_,_,rfl,rfl,⟨by omega,by omega⟩,_,_,rfl,rfl,(by show (0:Int) < 16; decide),wl,_,_,_,rfl,rfl,SqL.of ((s4.trans s5) _ _ hwl),hat,(by show 3 ≤ sizeLine; decide),fun p hp => hN _ _ ⟨hn',s5.trans (same_new hp _),ks ++ [ownK y],(h1.same (same_new hp _)).append (one (.name (SqT.of upd_same))),by rw [List.length_append,h2]; rfl,fun k' hk' => ?_⟩⟩⟩
        rcases List.mem_append.mp hk' with h | h
        · exact h3 k' h
        · exact ⟨y,by rw [hkW]; exact hy,List.mem_singleton.mp h⟩
      · rintro ys H5 D ⟨hn,s5,ks,h1,h2,h3⟩ hD
        rw [rangeV_len] at h2
        have sD:=same_new hD (.lst ys)
        have hD':upd H5 D (.lst ys) D = some (.lst ys):=upd_same
        have h1':=h1.same sD
        have s6:=s5.trans sD
        generalize upd H5 D (.lst ys) = H6 at sD hD' h1' s6 ⊢
        obtain ⟨y,hy,hat⟩:=wat (c / 3)
        have s06:=s4.trans s6
        refine ⟨_,rfl,.inl ⟨rfl,_,SqL.of (s6 _ _ hl4)⟩,_,rfl,_,rfl,cl,_,_,_,rfl,rfl,SqL.of (s06 _ _ hcl),hzV,_,rfl,D,ys,rfl,.inl ⟨SqL.of hD',fun ta hta => ?_⟩⟩
        have sT:=same_new hta (.tup ys)
        refine ⟨_,rfl,_,rfl,_,_,rfl,rfl,⟨by decide,by decide⟩,_,_,rfl,rfl,(by show (0:Int) < 16; decide),wl,_,_,_,rfl,rfl,SqL.of ((s06.trans sT) _ _ hwl),hat,(by show 3 ≤ sizeLine; decide),fun p hp => ⟨(by show 4 ≤ sizeLine; decide),fun p2 hp2 => ?_⟩⟩
        have sP:=same_new hp (.tup [.str "name",.str "",.str y])
        have sQ:=same_new hp2 (.tup [.str "fun",.str z,.ref ta,.ref p])
        have sX:=sT.trans (sP.trans sQ)
        have hlX:=(s6.trans sX) _ _ hl4
        refine ⟨l,_,_,rfl,rfl,hlX,zz,?_⟩
        have kp:∀ a zs,SqT K (upd (upd (upd H6 ta (.tup ys)) p (.tup [.str "name",.str "",.str y])) p2 (.tup [.str "fun",.str z,.ref ta,.ref p])) a zs → SqT K (upd (upd (upd (upd H6 ta (.tup ys)) p (.tup [.str "name",.str "",.str y])) p2 (.tup [.str "fun",.str z,.ref ta,.ref p])) l (.lst (xs ++ [.ref p2]))) a zs:=fun a zs t => sqt_lst hlX t
        refine ⟨_,its ++ [.fn z ks (ownK y)],_,_,_,rfl,sput (s06.trans sX) hl0,upd_same,paired_snoc (y:=It.fn z ks (ownK y)) (Paired.mapP hits fun _ _ h => h.keep fun a zs t => kp a zs ((s6.trans sX).tup t)) ⟨p2,ta,.ref p,ys,rfl,kp _ _ (SqT.of upd_same),kp _ _ ((sP.trans sQ).tup (SqT.of upd_same)),kds_keep (fun a zs t => kp a zs (sX.tup t)) h1',.name (kp _ _ (sQ.tup (SqT.of upd_same)))⟩,hI.fun' hz ⟨hzo,hzn,by omega,fun k hk => ?_⟩⟩
        rcases List.mem_cons.mp hk with rfl | hk
        · exact ⟨y,by rw [hkW]; exact hy,rfl⟩
        · exact h3 k hk
    · rintro σ H4 ⟨xs,its,x4,x5,x7,rfl,s4,hl4,hits,hI⟩
      exact ⟨_,rfl,q H4 l xs its s4 hl0 hl4 hits hI⟩
end
end K29
namespace K29
open PySem L2 Kk
noncomputable def Gdn (n:Nat) (d:PyData):Prop:=PyData.canLay0 d = true ∧ PyData.depth d ≤ n
theorem Gdn.mono {n m:Nat} {d:PyData} (h:Gdn n d) (hm:n ≤ m):Gdn m d:=⟨h.1,Nat.le_trans h.2 hm⟩
theorem gdn_all {n:Nat}:∀ {ds:List PyData},(∀ d ∈ ds,Gdn n d) → PyData.canLayAll0 ds = true ∧ PyData.depthAll ds ≤ n
  | [],_ => ⟨by simp [PyData.canLayAll0],by simp [PyData.depthAll]⟩
  | d :: ds,h => by
    obtain ⟨i1,i2⟩:=gdn_all (ds:=ds) fun e he => h e (.tail _ he)
    obtain ⟨k1,k2⟩:=h d (.head _)
    refine ⟨by simp only [PyData.canLayAll0,Bool.and_eq_true]; exact ⟨k1,i1⟩,?_⟩
    simp only [PyData.depthAll]
    exact Nat.max_le.mpr ⟨k2,i2⟩
theorem gdn_tup {n:Nat} {ds:List PyData} (h:∀ d ∈ ds,Gdn n d):Gdn (n + 1) (.tuple ds):=by
  obtain ⟨a,b⟩:=gdn_all h
  refine ⟨by simp only [PyData.canLay0,a],?_⟩
  simp only [PyData.depth]
  omega
theorem gdn_lst {n:Nat} {ds:List PyData} (h:∀ d ∈ ds,Gdn n d):Gdn (n + 1) (.list ds):=by
  obtain ⟨a,b⟩:=gdn_all h
  refine ⟨by simp only [PyData.canLay0,a],?_⟩
  simp only [PyData.depth]
  omega
theorem gdn_str {n:Nat} {z:Str} (h:PyData.strOk z = true):Gdn n (.str z):=⟨by simp only [PyData.canLay0,h],by simp [PyData.depth]⟩
theorem gdn_none {n:Nat}:Gdn n .none:=⟨by decide +kernel,by simp [PyData.depth]⟩
theorem gdn_kd {n:Nat} {k:Kd} (h:Kd.sm k) (hd:Kd.depth k ≤ n):Gdn n (Kd.dat k):=⟨lay_kd (sm_ok h),Nat.le_trans (deep_kd k) hd⟩
theorem gdn_fn {n:Nat} {f:List Kd × Kd} (h:∀ k ∈ f.2 :: f.1,Kd.sm k ∧ Kd.depth k ≤ n):Gdn (n + 2) (Fn.dat f):=by
  refine gdn_tup fun d hd => ?_
  rcases List.mem_cons.mp hd with rfl | hd
  · refine gdn_tup fun d hd => ?_
    obtain ⟨k,hk,rfl⟩:=List.mem_map.mp hd
    exact gdn_kd (h k (.tail _ hk)).1 (h k (.tail _ hk)).2
  · rw [List.mem_singleton.mp hd]
    exact (gdn_kd (h f.2 (.head _)).1 (h f.2 (.head _)).2).mono (by omega)
theorem Gdn.shaped {n:Nat} {d:PyData} (h:Gdn n d) (hn:n ≤ 64):SeqAt.shaped d = true:=by
  unfold SeqAt.shaped
  rw [h.1,decide_eq_true (Nat.le_trans h.2 hn)]
  rfl
theorem Gdn.refl {n:Nat} {d:PyData} (h:Gdn n d):PyData.eqv d d = true:=SeqAt.eqv_refl _ h.1
noncomputable def kindsD (m:List (Str × Kd)):PyData:=.list (m.map fun q => .tuple [.str q.1,Kd.dat q.2])
noncomputable def funsD (m:List (Str × (List Kd × Kd))):PyData:=.list (m.map fun q => .tuple [.str q.1,Fn.dat q.2])
theorem items_dat {α:Type} {K:PySem.W.Frag} {H:Hp} {R:V → α → Prop} {D:α → PyData} (hR:∀ v x,R v x → Dat K H v (D x)):∀ {kvs:List (Key × V)} {m:List (Str × α)} {as:List Addr},PkAt R kvs m → Paired (fun (p:Key × V) (k:Addr) => H k = some (.tup [kV p.1,p.2])) kvs as → Dats K H (as.map V.ref) (m.map fun q => PyData.tuple [.str q.1,D q.2])
  | _,_,_,.nil,.nil => .nil
  | _,(z,x) :: m,_,.cons ⟨e,h⟩ t,.cons h1 u => by
    rw [e] at h1
    exact .cons (.tup (SqT.of h1) (.cons (.str _) (.cons (hR _ _ h) .nil))) (items_dat hR t u)
structure Cmp (m1:List (Str × Kd)) (m2:List (Str × (List Kd × Kd))):Prop where
  k:∀ q ∈ m1,SmK q
  f:∀ q ∈ m2,SmF q
theorem kinds_gd {m1:List (Str × Kd)} (h:∀ q ∈ m1,SmK q):Gdn 22 (kindsD m1):=by
  refine gdn_lst fun d hd => ?_
  obtain ⟨q,hq,rfl⟩:=List.mem_map.mp hd
  obtain ⟨a,b,_,c⟩:=h q hq
  refine gdn_tup fun d hd => ?_
  rcases List.mem_cons.mp hd with rfl | hd
  · exact gdn_str a.1
  · rw [List.mem_singleton.mp hd]
    exact gdn_kd b c
theorem funs_gd {m2:List (Str × (List Kd × Kd))} (h:∀ q ∈ m2,SmF q):Gdn 24 (funsD m2):=by
  refine gdn_lst fun d hd => ?_
  obtain ⟨q,hq,rfl⟩:=List.mem_map.mp hd
  obtain ⟨a,b,c⟩:=h q hq
  refine gdn_tup fun d hd => ?_
  rcases List.mem_cons.mp hd with rfl | hd
  · exact gdn_str a.1
  · rw [List.mem_singleton.mp hd]
    exact gdn_fn fun k hk => ⟨(c k hk).1,(c k hk).2.2⟩
noncomputable def spSame (K:PySem.W.Frag) (CF:Addr):Sp:=fun vs H Q _ => ∃ (fa t d e:Addr) (kv fv:List (Key × V)) (m1:List (Str × Kd)) (m2:List (Str × (List Kd × Kd))),vs = [.ref fa,.ref t] ∧ FaceAt K H CF fa m1 m2 ∧ FD K H t d e kv fv m1 m2 ∧ Cmp m1 m2 ∧ ∀ H',Same H H' → Q (.bl true) H'
section
variable {P:Program} {w:World} {K:PySem.W.Frag} {mg:Str → Option Value} {base:Heap}
noncomputable abbrev smP:List Str:=["_law_face","_law_rows_here"]
theorem scSame:FnScope smP smP (defScope sSame):=⟨rfl,rfl,rfl,by decide +kernel,rfl,by decide +kernel,by decide +kernel⟩
set_option maxHeartbeats 0 in
theorem ok_same {f CF:Addr} {fd:FuncData} (F:Fun K "_law_same" "_law_same" sSame f fd) (mli:mg "list" = none) (cF:Cls K CF) (nK:NoAttr K CF "kinds") (nF:NoAttr K CF "funs"):FnOk P w K mg base CX0 1 f fd smP (spSame K CF):=by
  refine F.ok scSame (fun vs H Q E h => ?_) (fun cdv A outer s H vs Q E hr h => ?_)
  · obtain ⟨fa,t,d,e,kv,fv,m1,m2,rfl,_⟩:=h
    rfl
  obtain ⟨fa,t,d,e,kv,fv,m1,m2,rfl,⟨dx,d1,d2,fs,kv1,kv2,FA⟩,D0,C,q⟩:=h
  have hu64:=hr.units
  refine ⟨_,pss_one (ps_ret (pe_and (pe_cmpR (op_eqD hu64)
      (pe_callTy (call_list_items rfl) (by rfl) mli bootList (pa_cons (pe_bm0 PySem.F.plainAttrs_dict PySem.F.slot_dict_items PySem.F.type_dict_items mt_items (pe_fld (pv 0) rfl)) pa_nil))
      (pe_callTy (call_list_items rfl) (by rfl) mli bootList (pa_cons (pe_bm0 PySem.F.plainAttrs_dict PySem.F.slot_dict_items PySem.F.type_dict_items mt_items (pe_ix ix_tup (pv 1) pe_int (fun _ _ => rfl))) pa_nil)) (nomark _))
    (pe_one (pe_cmpR (op_eqD hu64)
      (pe_callTy (call_list_items rfl) (by rfl) mli bootList (pa_cons (pe_bm0 PySem.F.plainAttrs_dict PySem.F.slot_dict_items PySem.F.type_dict_items mt_items (pe_fld (pv 0) rfl)) pa_nil))
      (pe_callTy (call_list_items rfl) (by rfl) mli bootList (pa_cons (pe_bm0 PySem.F.plainAttrs_dict PySem.F.slot_dict_items PySem.F.type_dict_items mt_items (pe_ix ix_tup (pv 1) pe_int (fun _ _ => rfl))) pa_nil)) (nomark _))))),?_⟩
  have g1:=kinds_gd C.k
  have g2:=funs_gd C.f
  refine ⟨_,rfl,fa,CF,dx,fs,_,rfl,FA.obj,cF,nK,FA.fk,.inr (.inr (.inl ⟨rfl,.inl ⟨_,FA.h1⟩⟩)),d1,kv1,rfl,rfl,FA.h1,fun v1 hv1 => ?_⟩
  have sv1:=same_new hv1 (.ext (itemsAt v1 d1))
  refine ⟨v1,d1,kv1,rfl,upd_same,sv1 _ _ FA.h1,fun H2 as1 l1 s2 hl1 _ h2 pr1 => ?_⟩
  have S2:Same H H2:=sv1.trans s2
  have dat1:Dat K H2 (.ref l1) (kindsD m1):=.lst (SqL.of h2) (items_dat (fun _ _ h => kd_dat h) (FA.p1.imp fun _ _ h => h.same S2) pr1)
  have D2:=D0.same S2
  refine ⟨_,rfl,_,_,_,_,rfl,rfl,D2.tu,(show atI [V.ref d,.ref e] 0 = some (.ref d) from rfl),.inr (.inr (.inl ⟨rfl,.inl ⟨_,D2.h1⟩⟩)),d,kv,rfl,rfl,D2.h1,fun v2 hv2 => ?_⟩
  have sv2:=same_new hv2 (.ext (itemsAt v2 d))
  refine ⟨v2,d,kv,rfl,upd_same,sv2 _ _ D2.h1,fun H4 as2 l2 s4 hl2 _ h4 pr2 => ?_⟩
  have S4:Same H2 H4:=sv2.trans s4
  have dat2:Dat K H4 (.ref l2) (kindsD m1):=.lst (SqL.of h4) (items_dat (fun _ _ h => kd_dat h) (D2.p1.imp fun _ _ h => h.same S4) pr2)
  refine ⟨_,_,dat1.same S4,dat2,g1.shaped (by decide),g1.shaped (by decide),true,by rw [if_neg (by decide),g1.refl],iteT ?_⟩
  have FA4:=FA.same (S2.trans S4)
  have D4:=D2.same S4
  refine ⟨_,rfl,fa,CF,dx,fs,_,rfl,FA4.obj,cF,nF,FA4.ff,.inr (.inr (.inl ⟨rfl,.inl ⟨_,FA4.h2⟩⟩)),d2,kv2,rfl,rfl,FA4.h2,fun v5 hv5 => ?_⟩
  have sv5:=same_new hv5 (.ext (itemsAt v5 d2))
  refine ⟨v5,d2,kv2,rfl,upd_same,sv5 _ _ FA4.h2,fun H6 as6 l6 s6 hl6 _ h6 pr6 => ?_⟩
  have S6:Same H4 H6:=sv5.trans s6
  have dat6:Dat K H6 (.ref l6) (funsD m2):=.lst (SqL.of h6) (items_dat (fun _ _ h => fn_dat h) (FA4.p2.imp fun _ _ h => h.keep fun _ _ t => S6.tup t) pr6)
  have D6:=D4.same S6
  refine ⟨_,rfl,_,_,_,_,rfl,rfl,D6.tu,(show atI [V.ref d,.ref e] 1 = some (.ref e) from rfl),.inr (.inr (.inl ⟨rfl,.inl ⟨_,D6.h2⟩⟩)),e,fv,rfl,rfl,D6.h2,fun v7 hv7 => ?_⟩
  have sv7:=same_new hv7 (.ext (itemsAt v7 e))
  refine ⟨v7,e,fv,rfl,upd_same,sv7 _ _ D6.h2,fun H8 as8 l8 s8 hl8 _ h8 pr8 => ?_⟩
  have S8:Same H6 H8:=sv7.trans s8
  have dat8:Dat K H8 (.ref l8) (funsD m2):=.lst (SqL.of h8) (items_dat (fun _ _ h => fn_dat h) (D6.p2.imp fun _ _ h => h.keep fun _ _ t => S8.tup t) pr8)
  refine ⟨_,_,dat6.same S8,dat8,g2.shaped (by decide),g2.shaped (by decide),?_⟩
  rw [if_neg (by decide),g2.refl]
  exact q _ (S2.trans (S4.trans (S6.trans S8)))
noncomputable def spRefused (K:PySem.W.Frag) (CF:Addr) (n:Nat):Sp:=fun vs H Q _ => ∃ (ha wa:Addr) (m1 n1:List (Str × Kd)) (m2 n2:List (Str × (List Kd × Kd))) (r:Str × PyData × PyData),vs = [.ref ha,.ref wa] ∧ FaceAt K H CF ha m1 m2 ∧ FaceAt K H CF wa n1 n2 ∧ Two m1 n1 m2 n2 n ∧ fitR m1 n1 m2 n2 = some r ∧
  ∀ H' v,Same H H' → Dat K H' v (.tuple [.str r.1,r.2.1,r.2.2]) → Q v H'
theorem xgetK {X:Cx} {e:Expr} {f:Str} {pos:Pos} {ta:TE} (h:X.K = K) (he:PE X e ta) (hb:attributeBase e f X.env (eval e X.env) = eval e X.env):PE X (.Attribute e f pos)
    (fun σ H Q => ta σ H fun x H1 => ∃ a D dx fs v,x = .ref a ∧ ExcCls K D ∧ PySem.W.hasDictIn K D = true ∧ PySem.W.findIn K (.ref D) f = some none ∧ H1 a = some (.ext (excAt a (.ref D) (some dx))) ∧ H1 dx = some (.ext (xdAt dx fs)) ∧ fs.lookup f = some v ∧ Q v H1):=by
  subst h
  exact pe_xget he hb
noncomputable abbrev rfN:List Str:=["_law_had","_law_sought","_law_told","e"]
noncomputable abbrev rfP:List Str:=["_law_had","_law_sought"]
theorem scRefused:FnScope rfN rfP (defScope sRefused):=⟨rfl,rfl,rfl,by decide +kernel,rfl,by decide +kernel,by decide +kernel⟩
set_option maxHeartbeats 0 in
theorem ok_refused {n:Nat} {f ff CF CN T:Addr} {fd fdf:FuncData} {oT:Value} {dT:Option Addr} {nT:Nat} {sT:Array (Option Value)} {tk:Tok} (F:Fun K "_law_refused" "_law_refused" sRefused f fd) (FF:FunD K "fitted" "fitted" sFitted (.ref T) ff fdf) (lT:K.lookup T = some ⟨oT,dT,.seq #[.str "" tk] nT,sT⟩)
    (GF:FnOk P w K mg base (CX1 P w) (n + 3) ff fdf ftP (spFitted K CF CN n)) (kF:PySem.W.keepIn K (.ref ff) = true) (mF:mg "fitted" = some (.ref ff)) (mN:mg "NoFit" = some (.ref CN))
    (cN:ExcCls K CN) (hdN:PySem.W.hasDictIn K CN = true) (f2:PySem.W.findIn K (.ref CN) "name" = some none) (f3:PySem.W.findIn K (.ref CN) "due" = some none) (f4:PySem.W.findIn K (.ref CN) "found" = some none)
    (x1:PySem.W.exmOne K (.ref CN) (.ref CN) = some true) :
    FnOk P w K mg base CX0 (n + 4) f fd rfP (spRefused K CF n):=by
  refine F.ok scRefused (fun vs H Q E h => ?_) (fun cdv A outer s H vs Q E hr h => ?_)
  · obtain ⟨ha,wa,m1,n1,m2,n2,r,rfl,_⟩:=h
    rfl
  obtain ⟨ha,wa,m1,n1,m2,n2,r,rfl,FH,FW,T2,hfit,q⟩:=h
  obtain ⟨th,hh,hN⟩:∃ th,PH (cxOf CX0 P w K mg base rfN "_law_refused" (defScope sRefused) f cdv A outer s H E).nox (tryHs (List.drop 1 (defBody sRefused))) th ∧
      (∀ D d e H' x3,H' e = none → XOk K H' d (.str "") r → (∀ t H2 x,Same H' H2 → Dat K H2 t (.tuple [.str r.1,r.2.1,r.2.2]) → D.nx [some (.ref ha),some (.ref wa),some t,x] H2) → th D (.ref CN) d e [some (.ref ha),some (.ref wa),some .non,x3] H'):=by
    refine ⟨_,ph_as (i:=3) rfl scRefused.nd rfl rfl rfl mN
      (fun e => pss_one (ps_set (i:=2) scRefused.nd rfl (Or.inl rfl) (pe_tup (pa_cons (xgetK (K:=K) rfl (pv 3) rfl) (pa_cons (xgetK (K:=K) rfl (pv 3) rfl) (pa_cons (xgetK (K:=K) rfl (pv 3) rfl) pa_nil)))))) ph_nil,?_⟩
    intro D d e H' x3 he hx q
    obtain ⟨dx,u,v,rfl,hdx,du,dv⟩:=hx
    refine ⟨true,x1,iteT ?_⟩
    have se:=same_new he (.ext (excAt e (.ref CN) (some dx)))
    have hE:upd H' e (.ext (excAt e (.ref CN) (some dx))) e = some (.ext (excAt e (.ref CN) (some dx))):=upd_same
    refine ⟨_,rfl,e,CN,dx,_,_,rfl,cN,hdN,f2,hE,se _ _ hdx,nfs_name _ _ _ _,_,rfl,e,CN,dx,_,_,rfl,cN,hdN,f3,hE,se _ _ hdx,nfs_due _ _ _ _,_,rfl,e,CN,dx,_,_,rfl,cN,hdN,f4,hE,se _ _ hdx,nfs_found _ _ _ _,(by show 3 ≤ sizeLine; decide),fun t ht => ?_⟩
    have st:=same_new ht (.tup [.str r.1,u,v])
    exact q (.ref t) _ _ (se.trans st) (.tup (SqT.of upd_same) (.cons (.str _) (.cons (du.same (se.trans st)) (.cons (dv.same (se.trans st)) .nil))))
  refine ⟨_,pss_cons (ps_set (i:=2) scRefused.nd rfl (Or.inl rfl) pe_non)
    (pss_cons (ps_try fun pins D => pss_one (ps_expr (pe_callE GF hr rfl mF kF (bindF2 FF lT) (.cons (show RelV (.str "") (.str "" tk) from ⟨tk,rfl⟩) .nil) (passT rfl rfl hh) (pa_cons (pv 0) (pa_cons (pv 1) pa_nil)))))
    (pss_one (ps_ret (pv 2)))),?_⟩
  refine ⟨_,rfl,_,rfl,ha,wa,"",m1,n1,m2,n2,rfl,FH,FW,T2,⟨by decide +kernel,by decide +kernel⟩,fun r' hr' d H' s' hx e he => ?_,fun hn => ?_⟩
  · rw [hfit] at hr'
    obtain rfl:=Option.some.inj hr'
    exact hN _ _ _ _ _ he hx fun t H2 x s2 h2 => ⟨_,rfl,q H2 t (s'.trans s2) h2⟩
  · rw [hfit] at hn
    cases hn
end
end K29
namespace K29
open PySem L2 Kk
theorem look_putP {G:Str × Str → Option Kd}:∀ (m:List (Str × Kd)) (z:Str),look (m.map (putP G)) z = (look m z).map (Kd.put G)
  | [],z => rfl
  | q :: m,z => by
    unfold look
    rw [List.map_cons,List.find?_cons,List.find?_cons]
    by_cases e:q.1 = z
    · rw [decide_eq_true (show (putP G q).1 = z from e),decide_eq_true e]
      rfl
    · rw [decide_eq_false (show ¬ (putP G q).1 = z from e),decide_eq_false e]
      exact look_putP m z
theorem look_putQ {G:Str × Str → Option Kd}:∀ (m:List (Str × (List Kd × Kd))) (z:Str),look (m.map (putQ G)) z = (look m z).map (putFn G)
  | [],z => rfl
  | q :: m,z => by
    unfold look
    rw [List.map_cons,List.find?_cons,List.find?_cons]
    by_cases e:q.1 = z
    · rw [decide_eq_true (show (putQ G q).1 = z from e),decide_eq_true e]
      rfl
    · rw [decide_eq_false (show ¬ (putQ G q).1 = z from e),decide_eq_false e]
      exact look_putQ m z
theorem put_own {G:Str × Str → Option Kd} {ks:List (Str × Kd)} {z:Str} (h:z ∈ ks.map (·.1)):Kd.put (ownG (ks.map (putP G))) (ownK z) = Kd.put G (Kd.put (ownG ks) (ownK z)):=by
  obtain ⟨k,e⟩:=look_ex h
  rw [own_put e]
  exact own_put (by rw [look_putP,e]; rfl)
theorem rows_put {fl:List (Str × Kd)} {its:List It} (h:∀ n it,its[n]? = some it → ItOk (its.take n) it):∀ i,i ≤ its.length → (rows (look fl) (its.take i)).1 = (rows (fun _ => none) (its.take i)).1.map (putP (ownG fl)) ∧ (rows (look fl) (its.take i)).2 = (rows (fun _ => none) (its.take i)).2.map (putQ (ownG fl))
  | 0,_ => ⟨rfl,rfl⟩
  | i + 1,hi => by
    obtain ⟨h1,h2⟩:=rows_put (fl:=fl) h i (by omega)
    have e:=List.getElem?_eq_getElem (l:=its) (i:=i) (by omega)
    have ok:=h i _ e
    rw [take_snoc e,rows_snoc,rows_snoc]
    have kk:∀ z ∈ kW (its.take i),z ∈ (rows (fun _ => none) (its.take i)).1.map (·.1):=fun z hz => by rw [rows_k]; exact hz
    generalize its[i] = it at ok
    cases it with
    | hid w =>
      refine ⟨?_,h2⟩
      show (rows (look fl) (its.take i)).1 ++ [_] = ((rows (fun _ => none) (its.take i)).1 ++ [_]).map _
      rw [List.map_append,h1]
      rfl
    | told w k =>
      refine ⟨?_,h2⟩
      show (rows (look fl) (its.take i)).1 ++ [_] = ((rows (fun _ => none) (its.take i)).1 ++ [_]).map _
      rw [List.map_append,h1]
      have:Kd.put (ownG ((rows (fun _ => none) (its.take i)).1.map (putP (ownG fl)))) k = Kd.put (ownG fl) (Kd.put (ownG (rows (fun _ => none) (its.take i)).1) k):=by
        rcases ok.2.2 with ⟨z,hz,rfl⟩ | ⟨z,hz,n,rfl,_⟩
        · exact put_own (kk z hz)
        · show Kd.pair _ (Kd.num n) = Kd.pair _ (Kd.num n)
          rw [put_own (kk z hz)]
      show _ ++ [(w,_)] = _ ++ [(w,_)]
      rw [this]
    | fn w as r =>
      refine ⟨h1,?_⟩
      show (rows (look fl) (its.take i)).2 ++ [_] = ((rows (fun _ => none) (its.take i)).2 ++ [_]).map _
      rw [List.map_append,h2,h1]
      have one:∀ k ∈ r :: as,Kd.put (ownG ((rows (fun _ => none) (its.take i)).1.map (putP (ownG fl)))) k = Kd.put (ownG fl) (Kd.put (ownG (rows (fun _ => none) (its.take i)).1) k):=fun k hk => by
        obtain ⟨z,hz,rfl⟩:=ok.2.2.2 k hk
        exact put_own (kk z hz)
      show _ ++ [(w,(as.map _,_))] = _ ++ [(w,((as.map _).map _,_))]
      rw [List.map_map,one r (.head _),List.map_congr_left (g:=(Kd.put (ownG fl)) ∘ (Kd.put (ownG (rows (fun _ => none) (its.take i)).1))) fun k hk => one k (.tail _ hk)]
      rfl
noncomputable def It.h:It → Option Str
  | .hid w => some w | _ => none
noncomputable def hW (its:List It):List Str:=its.filterMap It.h
theorem hW_snoc {its:List It} {it:It}:hW (its ++ [it]) = hW its ++ (It.h it).toList:=by
  unfold hW
  rw [List.filterMap_append]
  cases h:It.h it <;> simp [h]
theorem hid_app (m:List (Str × Kd)) (q:Str × Kd):hidL (m ++ [q]) = hidL m ++ (if hidB q = true then [q.1] else []):=by
  unfold hidL
  rw [List.filter_append,List.map_append]
  by_cases h:hidB q = true
  · rw [if_pos h,List.filter_cons_of_pos h]
    rfl
  · rw [if_neg h,List.filter_cons_of_neg h]
    rfl
noncomputable def Ah (ws:List Str) (k:Kd):Prop:=∀ n ∈ Kd.names k,n.1 = "" ∧ n.2 ∈ ws
theorem Ah.mono {ws ws':List Str} {k:Kd} (h:Ah ws k) (s:∀ z ∈ ws,z ∈ ws'):Ah ws' k:=fun n hn => ⟨(h n hn).1,s _ (h n hn).2⟩
theorem rows_ah {its:List It} (h:∀ n it,its[n]? = some it → ItOk (its.take n) it):∀ i,i ≤ its.length → hidL (rows (fun _ => none) (its.take i)).1 = hW (its.take i) ∧ (∀ q ∈ (rows (fun _ => none) (its.take i)).1,Ah (hW (its.take i)) q.2) ∧ ∀ z ∈ hW (its.take i),z ∈ kW (its.take i)
  | 0,_ => ⟨rfl,fun q hq => (nomatch hq),fun q hq => (nomatch hq)⟩
  | i + 1,hi => by
    obtain ⟨h1,h2,h3⟩:=rows_ah h i (by omega)
    have e:=List.getElem?_eq_getElem (l:=its) (i:=i) (by omega)
    have ok:=h i _ e
    rw [take_snoc e,rows_snoc,hW_snoc,kW_snoc]
    have get:∀ z ∈ kW (its.take i),∃ k,look (rows (fun _ => none) (its.take i)).1 z = some k ∧ (z,k) ∈ (rows (fun _ => none) (its.take i)).1:=fun z hz => by
      obtain ⟨k,hk⟩:=look_ex (m:=(rows (fun _ => none) (its.take i)).1) (z:=z) (by rw [rows_k]; exact hz)
      exact ⟨k,hk,look_in hk⟩
    generalize its[i] = it at ok
    cases it with
    | hid w =>
      refine ⟨?_,fun q hq => ?_,fun z hz => ?_⟩
      · show hidL ((rows (fun _ => none) (its.take i)).1 ++ [(w,ownK w)]) = _
        rw [hid_app,h1,if_pos (by unfold hidB; exact decide_eq_true rfl)]
        rfl
      · rcases List.mem_append.mp hq with hq | hq
        · exact (h2 q hq).mono fun z hz => List.mem_append_left _ hz
        · rw [List.mem_singleton.mp hq]
          intro n hn
          have hn':n = (("":Str),w):=List.mem_singleton.mp hn
          rw [hn']
          exact ⟨rfl,List.mem_append_right _ (List.mem_singleton.mpr rfl)⟩
      · rcases List.mem_append.mp hz with hz | hz
        · exact List.mem_append_left _ (h3 z hz)
        · exact List.mem_append_right _ hz
    | told w k =>
      have ak:Ah (hW (its.take i)) (Kd.put (ownG (rows (fun _ => none) (its.take i)).1) k):=by
        rcases ok.2.2 with ⟨z,hz,rfl⟩ | ⟨z,hz,n,rfl,_⟩
        · obtain ⟨k',e',hm⟩:=get z hz
          rw [own_put e']
          exact h2 _ hm
        · obtain ⟨k',e',hm⟩:=get z hz
          intro n' hn'
          have:n' ∈ Kd.names (Kd.put (ownG (rows (fun _ => none) (its.take i)).1) (ownK z)) ++ []:=hn'
          rw [List.append_nil,own_put e'] at this
          exact h2 _ hm n' this
      have nh:¬ hidB (w,Kd.put (ownG (rows (fun _ => none) (its.take i)).1) k) = true:=fun z => by
        have e2:Kd.put (ownG (rows (fun _ => none) (its.take i)).1) k = ownK w:=of_decide_eq_true z
        rw [e2] at ak
        exact ok.2.1 (h3 _ (ak ("",w) (List.mem_singleton.mpr rfl)).2)
      refine ⟨?_,fun q hq => ?_,fun z hz => ?_⟩
      · show hidL ((rows (fun _ => none) (its.take i)).1 ++ [(w,_)]) = _
        rw [hid_app,h1,if_neg nh]
        rfl
      · show Ah (hW (its.take i) ++ []) q.2
        rw [List.append_nil]
        rcases List.mem_append.mp hq with hq | hq
        · exact h2 q hq
        · rw [List.mem_singleton.mp hq]
          exact ak
      · have hz':z ∈ hW (its.take i) ++ []:=hz
        rw [List.append_nil] at hz'
        exact List.mem_append_left _ (h3 z hz')
    | fn w as r =>
      have e1:hW (its.take i) ++ (It.h (.fn w as r)).toList = hW (its.take i):=List.append_nil _
      have e2:kW (its.take i) ++ (It.k (.fn w as r)).toList = kW (its.take i):=List.append_nil _
      rw [e1,e2]
      exact ⟨h1,h2,h3⟩
noncomputable def firstL (its:List It):Nat → List (Str × Kd)
  | 0 => []
  | k + 1 => match its[k]? with
    | some (.hid w) => firstL its k ++ [(w,.num (2 + (k:Int)))]
    | _ => firstL its k
theorem firstL_keys {its:List It}:∀ k,k ≤ its.length → (firstL its k).map (·.1) = hW (its.take k)
  | 0,_ => rfl
  | k + 1,hk => by
    have ih:=firstL_keys (its:=its) k (by omega)
    have e:=List.getElem?_eq_getElem (l:=its) (i:=k) (by omega)
    rw [take_snoc e,hW_snoc]
    unfold firstL
    rw [e]
    generalize its[k] = it
    cases it with
    | hid w =>
      show (firstL its k ++ [_]).map _ = _
      rw [List.map_append,ih]
      rfl
    | told w k' => show (firstL its k).map _ = _ ++ []; rw [List.append_nil]; exact ih
    | fn w as r => show (firstL its k).map _ = _ ++ []; rw [List.append_nil]; exact ih
theorem firstL_num {its:List It}:∀ k,∀ q ∈ firstL its k,∃ n:Int,q.2 = .num n ∧ 2 ≤ n ∧ n < 2 + (k:Int)
  | 0,q,hq => nomatch hq
  | k + 1,q,hq => by
    have ih:=firstL_num (its:=its) k
    unfold firstL at hq
    split at hq
    · rcases List.mem_append.mp hq with hq | hq
      · obtain ⟨n,a,b,c⟩:=ih q hq
        exact ⟨n,a,b,by omega⟩
      · rw [List.mem_singleton.mp hq]
        exact ⟨_,rfl,by omega,by omega⟩
    · obtain ⟨n,a,b,c⟩:=ih q hq
      exact ⟨n,a,b,by omega⟩
theorem firstL_len {its:List It}:∀ k,(firstL its k).length ≤ k
  | 0 => Nat.le_refl _
  | k + 1 => by
    have ih:=firstL_len (its:=its) k
    unfold firstL
    split
    · rw [List.length_append]
      show _ + 1 ≤ _
      omega
    · omega
theorem hW_rest {ws cs:List Str} {its:List It} (h:Itn ws cs its 16 16):∀ j,j ≤ 16 → hW (its.take (16 + j)) = hW (its.take 16)
  | 0,_ => rfl
  | j + 1,hj => by
    have ih:=hW_rest h j (by omega)
    have hl:=h.len
    have e:=List.getElem?_eq_getElem (l:=its) (i:=16 + j) (by omega)
    obtain ⟨w,as,r,e2⟩:=h.fs _ _ (by omega) e
    rw [show 16 + (j + 1) = (16 + j) + 1 by omega,take_snoc e,hW_snoc,ih,e2]
    exact List.append_nil _
theorem rows_not1 {fl:List (Str × Kd)} (hf:∀ q ∈ fl,q.2 ≠ .num 1) {its:List It} (h:∀ n it,its[n]? = some it → ItOk (its.take n) it):∀ i,i ≤ its.length → ∀ q ∈ (rows (look fl) (its.take i)).1,q.2 ≠ .num 1
  | 0,_,q,hq => nomatch hq
  | i + 1,hi,q,hq => by
    have ih:=rows_not1 hf h i (by omega)
    have e:=List.getElem?_eq_getElem (l:=its) (i:=i) (by omega)
    have ok:=h i _ e
    rw [take_snoc e,rows_snoc] at hq
    generalize its[i] = it at ok hq
    cases it with
    | hid w =>
      rcases List.mem_append.mp hq with hq | hq
      · exact ih q hq
      · rw [List.mem_singleton.mp hq]
        show (look fl w).getD (ownK w) ≠ _
        cases e2:look fl w with
        | none => exact fun z => nomatch z
        | some k => exact hf _ (look_in e2)
    | told w k =>
      rcases List.mem_append.mp hq with hq | hq
      · exact ih q hq
      · rw [List.mem_singleton.mp hq]
        show Kd.put (ownG (rows (look fl) (its.take i)).1) k ≠ _
        rcases ok.2.2 with ⟨z,hz,rfl⟩ | ⟨z,hz,n,rfl,_⟩
        · obtain ⟨k',e'⟩:=look_ex (m:=(rows (look fl) (its.take i)).1) (z:=z) (by rw [rows_k]; exact hz)
          rw [own_put e']
          exact ih _ (look_in e')
        · exact fun z => nomatch z
    | fn w as r => exact ih q hq
theorem put_words {G:Str × Str → Option Kd} {a:Nat} (ha:1 ≤ a) (hG:∀ n k,G n = some k → k.words ≤ a):∀ k:Kd,(Kd.put G k).words + 1 ≤ k.leaves.length * (a + 1)
  | .num _ => by show 1 + 1 ≤ 1 * (a + 1); omega
  | .name q t => by
    show ((G (q,t)).getD (.name q t)).words + 1 ≤ 1 * (a + 1)
    cases e:G (q,t) with
    | none =>
      show 1 + 1 ≤ _
      omega
    | some k =>
      have:=hG _ _ e
      show k.words + 1 ≤ _
      omega
  | .pair x y => by
    have h1:=put_words ha hG x
    have h2:=put_words ha hG y
    show 1 + (Kd.put G x).words + (Kd.put G y).words + 1 ≤ (x.leaves ++ y.leaves).length * (a + 1)
    rw [List.length_append,Nat.add_mul]
    omega
theorem put_depth {G:Str × Str → Option Kd} {a:Nat} (hG:∀ n k,G n = some k → Kd.depth k ≤ a + 1):∀ k:Kd,Kd.depth (Kd.put G k) ≤ Kd.depth k + a
  | .num _ => by show 1 ≤ 1 + a; omega
  | .name q t => by
    show Kd.depth ((G (q,t)).getD (.name q t)) ≤ 1 + a
    cases e:G (q,t) with
    | none => show 1 ≤ _; omega
    | some k =>
      have:=hG _ _ e
      show Kd.depth k ≤ _
      omega
  | .pair x y => by
    have h1:=put_depth hG x
    have h2:=put_depth hG y
    show 1 + max (Kd.depth (Kd.put G x)) (Kd.depth (Kd.put G y)) ≤ 1 + max (Kd.depth x) (Kd.depth y) + a
    omega
theorem sumK_le {b:Nat}:∀ {ks:List Kd},(∀ k ∈ ks,k.words ≤ b) → sumK ks ≤ ks.length * b
  | [],_ => Nat.zero_le _
  | k :: ks,h => by
    have h1:=sumK_le (b:=b) (ks:=ks) fun j hj => h j (.tail _ hj)
    have h2:=h k (.head _)
    show k.words + sumK ks ≤ (ks.length + 1) * b
    rw [Nat.add_mul]
    omega
structure Base (fl:List (Str × Kd)) (a1 b1:List (Str × Kd)) (a2 b2:List (Str × (List Kd × Kd))):Prop where
  l1:a1.length ≤ 16
  l2:a2.length ≤ 16
  na1:(a1.map (·.1)).Nodup
  na2:(a2.map (·.1)).Nodup
  ka:∀ q ∈ a1,SmK q ∧ q.2.words ≤ 31 ∧ Kd.depth q.2 ≤ 16
  fa:∀ q ∈ a2,smW q.1 ∧ q.2.1.length ≤ 4 ∧ ∀ k ∈ q.2.2 :: q.2.1,Kd.sm k ∧ k.words ≤ 31 ∧ Kd.depth k ≤ 16
  kb:∀ q ∈ b1,SmK q ∧ q.2.words ≤ 31 ∧ Kd.depth q.2 ≤ 16
  fb:∀ q ∈ b2,smW q.1 ∧ q.2.1.length ≤ 4 ∧ ∀ k ∈ q.2.2 :: q.2.1,Kd.sm k ∧ k.words ≤ 31 ∧ Kd.depth k ≤ 16
  e1:b1 = a1.map (putP (ownG fl))
  e2:b2 = a2.map (putQ (ownG fl))
  hid:hidL a1 = fl.map (·.1)
  nf:∀ q ∈ fl,∃ n:Int,q.2 = .num n ∧ 2 ≤ n ∧ n ≤ 100
  n1:∀ q ∈ b1,q.2 ≠ .num 1
  own:∀ q ∈ a1,∀ a t,q.2 = .name a t → a = ""
theorem nd_hid {a1:List (Str × Kd)} (h:(a1.map (·.1)).Nodup):(hidL a1).Nodup:=by
  unfold hidL
  exact h.sublist (List.Sublist.map _ List.filter_sublist)
section
variable {fl a1 b1:List (Str × Kd)} {a2 b2:List (Str × (List Kd × Kd))}
theorem Base.lookb (B:Base fl a1 b1 a2 b2) {z:Str} (hz:z ∈ hidL a1):look b1 z = look fl z:=by
  have hm:=hid_mem hz
  obtain ⟨k,hk⟩:=hm
  have hko:(z,ownK z) ∈ a1:=by
    unfold hidL at hz
    obtain ⟨q,hq,rfl⟩:=List.mem_map.mp hz
    obtain ⟨q1,q2⟩:=List.mem_filter.mp hq
    have:q.2 = ownK q.1:=of_decide_eq_true q2
    rw [← this]
    exact q1
  rw [B.e1,look_putP,in_look B.na1 hko]
  rw [B.hid] at hz
  obtain ⟨k',e⟩:=look_ex hz
  show some ((ownG fl ("",z)).getD _) = _
  have e3:ownG fl ("",z) = look fl z:=if_pos rfl
  rw [e3,e]
  rfl
theorem Base.gf (B:Base fl a1 b1 a2 b2) {b1':List (Str × Kd)} (h:∀ z ∈ hidL a1,look b1' z = look b1 z):Gf b1' a1 = ownG fl:=by
  funext n
  unfold Gf givenF ownG
  by_cases e:n.1 = ""
  · rw [if_pos e]
    by_cases hz:n.2 ∈ hidL a1
    · rw [if_pos ⟨e,hz⟩,h _ hz,B.lookb hz]
    · rw [if_neg (fun z => hz z.2)]
      rw [B.hid] at hz
      cases hh:look fl n.2 with
      | none => rfl
      | some k => exact absurd (List.mem_map.mpr ⟨_,look_in hh,rfl⟩) hz
  · rw [if_neg e,if_neg (fun z => e z.1)]
theorem Base.look1 (B:Base fl a1 b1 a2 b2) {q:Str × Kd} (h:q ∈ a1):look b1 q.1 = some (Kd.put (ownG fl) q.2):=by
  rw [B.e1,look_putP,in_look B.na1 h]
  rfl
theorem Base.look2 (B:Base fl a1 b1 a2 b2) {q:Str × (List Kd × Kd)} (h:q ∈ a2):look b2 q.1 = some (putFn (ownG fl) q.2):=by
  rw [B.e2,look_putQ,in_look B.na2 h]
  rfl
theorem put_small {G:Str × Str → Option Kd} (hG:∀ n k,G n = some k → k.words ≤ 1 ∧ Kd.depth k ≤ 1) (k:Kd):(Kd.put G k).words ≤ k.words ∧ Kd.depth (Kd.put G k) ≤ Kd.depth k:=by
  have h1:=put_words (a:=1) (Nat.le_refl _) (fun n k e => (hG n k e).1) k
  have h2:=put_depth (a:=0) (fun n k e => (hG n k e).2) k
  have h3:=words_leaves k
  have h4:=leaves_pos k
  exact ⟨by omega,by omega⟩
theorem Base.two (B:Base fl a1 b1 a2 b2) {b1':List (Str × Kd)} {b2':List (Str × (List Kd × Kd))} (h1:∀ q ∈ b1',SmK q) (h2:∀ q ∈ b2',SmF q) (hh:∀ z ∈ hidL a1,∀ k,look b1' z = some k → k.words ≤ 1 ∧ Kd.depth k ≤ 1):Two b1' a1 b2' a2 20:=by
  have hG:∀ n k,Gf b1' a1 n = some k → k.words ≤ 1 ∧ Kd.depth k ≤ 1:=fun n k e => by
    unfold Gf givenF at e
    split at e
    · rename_i c
      exact hh _ c.2 k e
    · cases e
  have ps:=fun k => put_small hG k
  refine ⟨Nat.le_trans B.l1 (by decide),Nat.le_trans B.l2 (by decide),h1,fun q hq => (B.ka q hq).1,h2,fun q hq => ?_,B.na1,fun q hq => Nat.le_trans (B.ka q hq).2.2 (by decide),fun q hq k hk => Nat.le_trans ((B.fa q hq).2.2 k hk).2.2 (by decide),fun q hq => ?_,fun q hq => ?_⟩
  · obtain ⟨a,b,c⟩:=B.fa q hq
    exact ⟨a,b,fun k hk => ⟨(c k hk).1,Nat.le_trans (c k hk).2.1 (by decide),Nat.le_trans (c k hk).2.2 (by decide)⟩⟩
  · obtain ⟨_,a,b⟩:=B.ka q hq
    obtain ⟨c,d⟩:=ps q.2
    exact ⟨by omega,by omega⟩
  · obtain ⟨_,l4,c⟩:=B.fa q hq
    have e:(putFn (Gf b1' a1) q.2).2 :: (putFn (Gf b1' a1) q.2).1 = (q.2.2 :: q.2.1).map (Kd.put (Gf b1' a1)):=rfl
    have all:∀ k ∈ (putFn (Gf b1' a1) q.2).2 :: (putFn (Gf b1' a1) q.2).1,k.words ≤ 31 ∧ Kd.depth k ≤ 16:=fun k hk => by
      rw [e] at hk
      obtain ⟨j,hj,rfl⟩:=List.mem_map.mp hk
      obtain ⟨_,x,y⟩:=c j hj
      obtain ⟨u,v⟩:=ps j
      exact ⟨by omega,by omega⟩
    refine ⟨?_,fun k hk => Nat.le_trans (all k hk).2 (by decide)⟩
    have:=sumK_le (b:=31) fun k hk => (all k hk).1
    rw [e,List.length_map] at this
    rw [e]
    have l5:(q.2.2 :: q.2.1).length ≤ 5:=by rw [List.length_cons]; omega
    have:(q.2.2 :: q.2.1).length * 31 ≤ 5 * 31:=Nat.mul_le_mul_right _ l5
    omega
theorem Base.small (B:Base fl a1 b1 a2 b2) {z:Str} (hz:z ∈ hidL a1) {k:Kd} (h:look b1 z = some k):k.words ≤ 1 ∧ Kd.depth k ≤ 1:=by
  rw [B.lookb hz] at h
  obtain ⟨n,e,_⟩:=B.nf _ (look_in h)
  have e':k = .num n:=e
  rw [e']
  exact ⟨Nat.le_refl _,Nat.le_refl _⟩
theorem Base.smf (B:Base fl a1 b1 a2 b2):∀ q ∈ b2,SmF q:=fun q hq => by
  obtain ⟨a,b,c⟩:=B.fb q hq
  exact ⟨a,b,fun k hk => ⟨(c k hk).1,Nat.le_trans (c k hk).2.1 (by decide),Nat.le_trans (c k hk).2.2 (by decide)⟩⟩
theorem find_key {α:Type} {m:List (Str × α)} {w:Str} {x:α} {p:Str × α → Bool} (hn:(m.map (·.1)).Nodup) (hm:(w,x) ∈ m) (hp:∀ q ∈ m,p q = decide (q.1 = w)):m.find? p = some (w,x):=by
  obtain ⟨i,hi⟩:=List.mem_iff_getElem?.mp hm
  refine find_take hi (by rw [hp _ hm]; exact decide_eq_true rfl) fun y hy => ?_
  rw [hp y (List.mem_of_mem_take hy)]
  refine decide_eq_false fun e => ?_
  have o:=out_take (l:=m.map (·.1)) (i:=i) (z:=w) hn (by rw [List.getElem?_map,hi]; rfl)
  rw [← List.map_take] at o
  exact o (List.mem_map.mpr ⟨y,hy,e⟩)
theorem look_less {α:Type} (m:List (Str × α)) (w z:Str):look (less m w) z = if z = w then none else look m z:=by
  induction m with
  | nil => unfold less look; simp
  | cons q m ih =>
    unfold less at ih ⊢
    by_cases e:q.1 = w
    · rw [List.filter_cons_of_neg (by simp [e]),ih]
      by_cases ez:z = w
      · rw [if_pos ez,if_pos ez]
      · rw [if_neg ez,if_neg ez]
        unfold look
        rw [List.find?_cons,decide_eq_false (fun x => ez (x.symm.trans e))]
    · rw [List.filter_cons_of_pos (by simp [e])]
      by_cases eq:q.1 = z
      · have ez:z ≠ w:=fun x => e (eq.trans x)
        rw [if_neg ez]
        unfold look
        rw [List.find?_cons,List.find?_cons,decide_eq_true eq]
      · have:look (q :: m) z = look m z:=by
          unfold look
          rw [List.find?_cons,decide_eq_false eq]
        rw [this,← ih]
        unfold look
        rw [List.find?_cons,decide_eq_false eq]
theorem look_over {α:Type} (m:List (Str × α)) (w z:Str) (x:α):look (over m w x) z = if z = w then (look m z).map (fun _ => x) else look m z:=by
  induction m with
  | nil => unfold over look; simp
  | cons q m ih =>
    unfold over at ih ⊢
    rw [List.map_cons]
    have key:∀ (p:Str × α) (l:List (Str × α)),look (p :: l) z = if p.1 = z then some p.2 else look l z:=fun p l => by
      unfold look
      rw [List.find?_cons]
      by_cases e:p.1 = z
      · rw [decide_eq_true e,if_pos e]
        rfl
      · rw [decide_eq_false e,if_neg e]
    rw [key,key,ih]
    by_cases e:q.1 = w
    · rw [if_pos e]
      show (if q.1 = z then some x else _) = _
      by_cases ez:z = w
      · rw [if_pos ez,if_pos (e.trans ez.symm),if_pos (e.trans ez.symm),if_pos ez]
        rfl
      · have:¬ q.1 = z:=fun y => ez (y.symm.trans e)
        rw [if_neg ez,if_neg this,if_neg this,if_neg ez]
    · rw [if_neg e]
      by_cases ez:z = w
      · have:¬ q.1 = z:=fun y => e (y.trans ez)
        rw [if_pos ez,if_neg this,if_neg this,if_pos ez]
      · rw [if_neg ez,if_neg ez]
theorem Base.fit (B:Base fl a1 b1 a2 b2):fitR b1 a1 b2 a2 = none:=by
  have g:=B.gf (b1':=b1) fun _ _ => rfl
  unfold fitR no1 no3 no4
  rw [g,find_no (l:=a1) (p:=fun q:Str × Kd => (look b1 q.1).isNone) fun q hq => by rw [B.look1 hq]; rfl,find_no (l:=a1) (p:=fun q:Str × Kd => decide (look b1 q.1 ≠ some (Kd.put (ownG fl) q.2))) fun q hq => decide_eq_false fun z => z (B.look1 hq),find_no (l:=a2) (p:=fun q:Str × (List Kd × Kd) => decide (look b2 q.1 ≠ some (putFn (ownG fl) q.2))) fun q hq => decide_eq_false fun z => z (B.look2 hq)]
  rfl
theorem Base.fitA (B:Base fl a1 b1 a2 b2) {w:Str} {k:Kd} (h:(w,k) ∈ a1):fitR (less b1 w) a1 b2 a2 = some (w,Kd.dat k,.none):=by
  unfold fitR no1
  rw [find_key (p:=fun q:Str × Kd => (look (less b1 w) q.1).isNone) B.na1 h fun q hq => ?_]
  · rfl
  · show (look (less b1 w) q.1).isNone = _
    rw [look_less]
    by_cases e:q.1 = w
    · rw [if_pos e,decide_eq_true e]
      rfl
    · rw [if_neg e,decide_eq_false e,B.look1 hq]
      rfl
theorem Base.fitF (B:Base fl a1 b1 a2 b2) {b2':List (Str × (List Kd × Kd))} {w:Str} {f:List Kd × Kd} (h:(w,f) ∈ a2) (ne:look b2' w ≠ some (putFn (ownG fl) f)) (eq:∀ z,z ≠ w → look b2' z = look b2 z):fitR b1 a1 b2' a2 = some (w,Fn.dat (putFn (ownG fl) f),((look b2' w).map Fn.dat).getD .none):=by
  have g:=B.gf (b1':=b1) fun _ _ => rfl
  unfold fitR no1 no3 no4
  rw [g,find_no (l:=a1) (p:=fun q:Str × Kd => (look b1 q.1).isNone) fun q hq => by rw [B.look1 hq]; rfl,find_no (l:=a1) (p:=fun q:Str × Kd => decide (look b1 q.1 ≠ some (Kd.put (ownG fl) q.2))) fun q hq => decide_eq_false fun z => z (B.look1 hq)]
  rw [find_key (p:=fun q:Str × (List Kd × Kd) => decide (look b2' q.1 ≠ some (putFn (ownG fl) q.2))) B.na2 h fun q hq => ?_]
  · rfl
  · by_cases e:q.1 = w
    · rw [decide_eq_true e]
      have:q.2 = f:=by
        have x:=in_look B.na2 hq
        rw [e,in_look B.na2 h] at x
        exact (Option.some.inj x).symm
      rw [e,this]
      exact decide_eq_true ne
    · rw [decide_eq_false e,eq _ e]
      exact decide_eq_false fun z => z (B.look2 hq)
theorem Base.fitK (B:Base fl a1 b1 a2 b2) {w:Str} {k:Kd} (h:(w,k) ∈ a1) (hw:w ∉ fl.map (·.1)):fitR (over b1 w (.num 1)) a1 b2 a2 = some (w,Kd.dat (Kd.put (ownG fl) k),Kd.dat (.num 1)):=by
  have lw:look b1 w = some (Kd.put (ownG fl) k):=B.look1 h
  have lo:∀ z,z ≠ w → look (over b1 w (.num 1)) z = look b1 z:=fun z hz => by rw [look_over,if_neg hz]
  have low:look (over b1 w (.num 1)) w = some (.num 1):=by rw [look_over,if_pos rfl,lw]; rfl
  have g:=B.gf (b1':=over b1 w (.num 1)) fun z hz => lo z fun e => hw (by rw [← B.hid,← e]; exact hz)
  unfold fitR no1 no3
  rw [g,find_no (l:=a1) (p:=fun q:Str × Kd => (look (over b1 w (.num 1)) q.1).isNone) fun q hq => ?_]
  · rw [find_key (p:=fun q:Str × Kd => decide (look (over b1 w (.num 1)) q.1 ≠ some (Kd.put (ownG fl) q.2))) B.na1 h fun q hq => ?_]
    · show some (w,Kd.dat (Kd.put (ownG fl) k),((look (over b1 w (.num 1)) w).map Kd.dat).getD .none) = _
      rw [low]
      rfl
    · by_cases e:q.1 = w
      · rw [decide_eq_true e]
        have:q.2 = k:=by
          have x:=in_look B.na1 hq
          rw [e,in_look B.na1 h] at x
          exact (Option.some.inj x).symm
        rw [e,this,low]
        refine decide_eq_true fun z => B.n1 _ (look_in lw) ?_
        exact (Option.some.inj z).symm
      · rw [decide_eq_false e,lo _ e]
        exact decide_eq_false fun z => z (B.look1 hq)
  · by_cases e:q.1 = w
    · show (look (over b1 w (.num 1)) q.1).isNone = false
      rw [e,low]
      rfl
    · show (look (over b1 w (.num 1)) q.1).isNone = false
      rw [lo _ e,B.look1 hq]
      rfl
end
end K29
namespace K29
open PySem L2 Kk
noncomputable abbrev lwN:List Str:=["_law_script","_law_words_here","_law_calls","_law_items_here","_law_rows_here","_law_first","_law_k","_law_had","_law_face","_law_nums","_law_cell_here","_law_word_here","_law_known","_law_due"]
theorem scLaw:FnScope lwN ["_law_script"] (defScope sLaw):=⟨rfl,rfl,rfl,by decide +kernel,rfl,by decide +kernel,by decide +kernel⟩
noncomputable def DK (K:PySem.W.Frag) (H:Hp) (v:V) (D:PyData):Prop:=∀ H',(∀ a xs,SqT K H a xs → SqT K H' a xs) → Dat K H' v D
theorem DK.keep {K:PySem.W.Frag} {H H':Hp} {v:V} {D:PyData} (h:DK K H v D) (k:∀ a xs,SqT K H a xs → SqT K H' a xs):DK K H' v D:=fun _ k' => h _ fun a xs t => k' a xs (k a xs t)
theorem dk_kd {K:PySem.W.Frag} {H:Hp} {v:V} {k:Kd} (h:KdAt K H v k):DK K H v (Kd.dat k):=fun _ kt => kd_dat (kd_keep kt h)
theorem dk_fn {K:PySem.W.Frag} {H:Hp} {v:V} {f:List Kd × Kd} (h:FunAt K H v f):DK K H v (Fn.dat f):=fun _ kt => fn_dat (FunAt.keep kt h)
theorem dk_three {K:PySem.W.Frag} {H:Hp} {p:Addr} {z:Str} {u v:V} {d e:PyData} (h:SqT K H p [.str z,u,v]) (hu:DK K H u d) (hv:DK K H v e):DK K H (.ref p) (.tuple [.str z,d,e]):=fun H' kt => .tup (kt _ _ h) (.cons (.str _) (.cons (hu H' kt) (.cons (hv H' kt) .nil)))
theorem dk_none {K:PySem.W.Frag} {H:Hp}:DK K H .non .none:=fun _ _ => .non
structure Tl (K:PySem.W.Frag) (CF:Addr) (H:Hp) (t1 d1 e1 fa dx f1 f2:Addr) (fs:List (Str × V)) (kv fv ka kb:List (Key × V)) (b1 a1:List (Str × Kd)) (b2 a2:List (Str × (List Kd × Kd))):Prop where
  tu:SqT K H t1 [.ref d1,.ref e1]
  h1:H d1 = some (.dK kv)
  h2:H e1 = some (.dK fv)
  p1:PkAt (KdAt K H) kv b1
  p2:PkAt (FunAt K H) fv b2
  fa:FaceA K H CF fa dx f1 f2 fs ka kb a1 a2
  n1:d1 ≠ e1
  n2:f1 ≠ d1
  n3:f1 ≠ e1
  n4:f2 ≠ d1
  n5:f2 ≠ e1
section
variable {K:PySem.W.Frag} {CF:Addr} {H H':Hp} {t1 d1 e1 fa dx f1 f2:Addr} {fs:List (Str × V)} {kv fv ka kb:List (Key × V)} {b1 a1 b1':List (Str × Kd)} {b2 a2 b2':List (Str × (List Kd × Kd))}
theorem Tl.same (T:Tl K CF H t1 d1 e1 fa dx f1 f2 fs kv fv ka kb b1 a1 b2 a2) (s:Same H H'):Tl K CF H' t1 d1 e1 fa dx f1 f2 fs kv fv ka kb b1 a1 b2 a2 :=
  ⟨s.tup T.tu,s _ _ T.h1,s _ _ T.h2,T.p1.imp fun _ _ h => h.same s,T.p2.imp fun _ _ h => h.keep fun _ _ t => s.tup t,T.fa.same s,T.n1,T.n2,T.n3,T.n4,T.n5⟩
theorem face_up {d:Addr} {kvs kvs':List (Key × V)} (h:H d = some (.dK kvs)) (F:FaceA K H CF fa dx f1 f2 fs ka kb a1 a2) (n1:f1 ≠ d) (n2:f2 ≠ d):FaceA K (upd H d (.dK kvs')) CF fa dx f1 f2 fs ka kb a1 a2 :=
  ⟨by rw [upd_ne (ne_of F.obj h (by intro z; cases z))]; exact F.obj,F.fk,F.ff,by rw [upd_ne n1]; exact F.h1,by rw [upd_ne n2]; exact F.h2,F.p1.imp fun _ _ x => kd_keep (fun a xs t => sqt_dk h t) x,F.p2.imp fun _ _ x => x.keep fun a xs t => sqt_dk h t,F.nh,F.np⟩
theorem Tl.set1 {kv':List (Key × V)} (T:Tl K CF H t1 d1 e1 fa dx f1 f2 fs kv fv ka kb b1 a1 b2 a2) (p:PkAt (KdAt K H) kv' b1'):Tl K CF (upd H d1 (.dK kv')) t1 d1 e1 fa dx f1 f2 fs kv' fv ka kb b1' a1 b2 a2 :=
  ⟨sqt_dk T.h1 T.tu,upd_same,by rw [upd_ne (Ne.symm T.n1)]; exact T.h2,p.imp fun _ _ x => kd_keep (fun a xs t => sqt_dk T.h1 t) x,T.p2.imp fun _ _ x => x.keep fun a xs t => sqt_dk T.h1 t,face_up T.h1 T.fa T.n2 T.n4,T.n1,T.n2,T.n3,T.n4,T.n5⟩
theorem Tl.set2 {fv':List (Key × V)} (T:Tl K CF H t1 d1 e1 fa dx f1 f2 fs kv fv ka kb b1 a1 b2 a2) (p:PkAt (FunAt K H) fv' b2'):Tl K CF (upd H e1 (.dK fv')) t1 d1 e1 fa dx f1 f2 fs kv fv' ka kb b1 a1 b2' a2 :=
  ⟨sqt_dk T.h2 T.tu,by rw [upd_ne T.n1]; exact T.h1,upd_same,T.p1.imp fun _ _ x => kd_keep (fun a xs t => sqt_dk T.h2 t) x,p.imp fun _ _ x => x.keep fun a xs t => sqt_dk T.h2 t,face_up T.h2 T.fa T.n3 T.n5,T.n1,T.n2,T.n3,T.n4,T.n5⟩
end
section
variable {P:Program} {w:World} {K:PySem.W.Frag} {mg:Str → Option Value} {base:Heap}
set_option maxHeartbeats 0 in
theorem law_14 {f fi fr CF:Addr} {fdi fdr:FuncData} (GI:FnOk P w K mg base CX0 1 fi fdi ["self","kinds","funs"] (spInitF CF)) (bI:Binds K fdi ["self","kinds","funs"] []) (MF:Mk K CF fi) (mF:mg "Face" = some (.ref CF))
    (GR:FnOk P w K mg base CX0 24 fr fdr rfP (spRefused K CF 20)) (bR:Binds K fdr rfP []) (kR:PySem.W.keepIn K (.ref fr) = true) (mR:mg "_law_refused" = some (.ref fr))
    {cdv:Value} {A:Around} {outer:List Env} {s:Shared} {H:Hp} {E:XK} (hr:Room 44 (A.deeper (PyProof.Rows.envOfC "law" (defScope sLaw) s.heap.objs.size f cdv))) :
    ∃ t,PSs (cxOf CX0 P w K mg base lwN "law" (defScope sLaw) f cdv A outer s H E).nox (List.drop 14 (defBody sLaw)) t ∧
      ∀ (D:Ends) (H1:Hp) (t1 d1 e1 fa dx f1 f2:Addr) (fs:List (Str × V)) (kv fv ka kb:List (Key × V)) (b1 a1:List (Str × Kd)) (b2 a2:List (Str × (List Kd × Kd))) (r:Str × PyData × PyData) (vd:V) (x0 x1 x2 x3 x4 x5 x6 x9 x10 x11 x12:Option V),Tl K CF H1 t1 d1 e1 fa dx f1 f2 fs kv fv ka kb b1 a1 b2 a2 → Two b1 a1 b2 a2 20 → fitR b1 a1 b2 a2 = some r → DK K H1 vd (.tuple [.str r.1,r.2.1,r.2.2]) → Gdn 60 (.tuple [.str r.1,r.2.1,r.2.2]) → (∀ H2,D.rt (.bl true) H2) →
        t D [x0,x1,x2,x3,x4,x5,x6,some (.ref t1),some (.ref fa),x9,x10,x11,x12,some vd] H1:=by
  have hu64:=hr.units
  have hr24:Room 24 _:=hr.mono (by decide)
  have hr2:Room (1 + 1) _:=hr.mono (by decide)
  refine ⟨_,(@pss_one _ _ _ (ps_ret (pe_cmpR (op_eqD hu64) (pe_call GR hr24 (by rfl) mR kR bR .nil pass0 (pa_cons (pe_make MF GI hr2 (by rfl) mF bI .nil pass0 (pa_cons (pe_ix ix_tup (pv 7) pe_int (fun _ _ => rfl)) (pa_cons (pe_ix ix_tup (pv 7) pe_int (fun _ _ => rfl)) pa_nil))) (pa_cons (pv 8) pa_nil))) (pv 13) (nomark _))):PSs (cxOf CX0 P w K mg base lwN "law" (defScope sLaw) f cdv A outer s H E).nox (List.drop 14 (defBody sLaw)) _),?_⟩
  intro D H1 t1 d1 e1 fa dx f1 f2 fs kv fv ka kb b1 a1 b2 a2 r vd x0 x1 x2 x3 x4 x5 x6 x9 x10 x11 x12 T t2 hf hd hg q
  refine ⟨_,rfl,_,_,_,_,rfl,rfl,T.tu,(show atI [V.ref d1,.ref e1] 0 = some (.ref d1) from rfl),_,rfl,_,_,_,_,rfl,rfl,T.tu,(show atI [V.ref d1,.ref e1] 1 = some (.ref e1) from rfl),fun x dx' nx ndx nex => ?_⟩
  have ea:=same_new ndx (.own x)
  have nx':upd H1 dx' (.own x) x = none:=by rw [upd_ne (Ne.symm nex)]; exact nx
  have eb:=same_new nx' (.ins CF dx' [])
  have eab:=ea.trans eb
  refine ⟨x,dx',d1,e1,kv,fv,rfl,upd_same,eab _ _ T.h1,eab _ _ T.h2,fun d e fs' H7 hd' he' nde hx lk lf lh lp hd7 he7 keep => ⟨rfl,?_⟩⟩
  have s7:Same H1 H7:=fun b o hb => keep b o (eab _ _ hb) (fun z => by rw [z,nx] at hb; cases hb)
  have FX:FaceAt K H7 CF x b1 b2:=⟨dx',d,e,fs',kv,fv,hx,lk,lf,hd7,he7,T.p1.imp fun _ _ h => h.same s7,T.p2.imp fun _ _ h => h.keep fun _ _ t => s7.tup t,lh,lp⟩
  refine ⟨_,rfl,x,fa,b1,a1,b2,a2,r,rfl,FX,⟨dx,f1,f2,fs,ka,kb,T.fa.same s7⟩,t2,hf,fun H8 v s8 hv => ?_⟩
  refine ⟨_,rfl,_,_,hv,hd _ (fun a xs t => (s7.trans s8).tup t),hg.shaped (by decide),hg.shaped (by decide),?_⟩
  rw [if_neg (by decide),hg.refl]
  exact q _
end
end K29
namespace K29
open PySem L2 Kk
theorem pe_num2 {X:Cx} {x:Str} {i:Int} {j1 j2 k:Nat} {p1 p2 pos:Pos}:PE X (.Tuple [.Constant (.str x) j1 p1,.Constant (.int i) j2 p2] k pos) (tTup (tCons (tC (.str x)) (tCons (tC (.int i)) tNil))):=pe_tup (pa_cons pe_str (pa_cons pe_int pa_nil))
section
variable {fl a1 b1:List (Str × Kd)} {a2 b2:List (Str × (List Kd × Kd))}
theorem Base.twoA (B:Base fl a1 b1 a2 b2) (w:Str):Two (less b1 w) a1 b2 a2 20:=B.two (fun q hq => (B.kb q (List.mem_filter.mp hq).1).1) B.smf fun z hz k h => by
  rw [look_less] at h
  split at h
  · cases h
  · exact B.small hz h
theorem Base.twoK (B:Base fl a1 b1 a2 b2) {w:Str} (hw:smW w):Two (over b1 w (.num 1)) a1 b2 a2 20:=B.two (fun q hq => by
  rcases over_mem hq with ⟨rfl,_⟩ | hq
  · exact ⟨hw,⟨by decide,by decide⟩,by show 1 ≤ 60; decide,by show 1 ≤ 20; decide⟩
  · exact (B.kb q hq).1) B.smf fun z hz k h => by
  rw [look_over] at h
  split at h
  · obtain ⟨_,_,rfl⟩:=Option.map_eq_some_iff.mp h
    exact ⟨Nat.le_refl _,Nat.le_refl _⟩
  · exact B.small hz h
theorem Base.twoF (B:Base fl a1 b1 a2 b2) {b2':List (Str × (List Kd × Kd))} (h:∀ q ∈ b2',SmF q):Two b1 a1 b2' a2 20:=B.two (fun q hq => (B.kb q hq).1) h fun _ hz _ h => B.small hz h
theorem Base.mem1 (B:Base fl a1 b1 a2 b2) {w:Str} {k:Kd} (h:(w,k) ∈ a1):(w,Kd.put (ownG fl) k) ∈ b1:=look_in (B.look1 h)
theorem Base.mem2 (B:Base fl a1 b1 a2 b2) {w:Str} {f:List Kd × Kd} (h:(w,f) ∈ a2):(w,putFn (ownG fl) f) ∈ b2:=look_in (B.look2 h)
end
theorem gdn_three {n:Nat} {z:Str} {d e:PyData} (hz:PyData.strOk z = true) (hd:Gdn n d) (he:Gdn n e):Gdn (n + 1) (.tuple [.str z,d,e]):=gdn_tup fun x hx => by
  rcases List.mem_cons.mp hx with rfl | hx
  · exact gdn_str hz
  · rcases List.mem_cons.mp hx with rfl | hx
    · exact hd
    · rw [List.mem_singleton.mp hx]
      exact he
section
variable {P:Program} {w:World} {K:PySem.W.Frag} {mg:Str → Option Value} {base:Heap}
set_option maxHeartbeats 0 in
theorem law_13 {f fi fr CF:Addr} {fdi fdr:FuncData} (GI:FnOk P w K mg base CX0 1 fi fdi ["self","kinds","funs"] (spInitF CF)) (bI:Binds K fdi ["self","kinds","funs"] []) (MF:Mk K CF fi) (mF:mg "Face" = some (.ref CF))
    (GR:FnOk P w K mg base CX0 24 fr fdr rfP (spRefused K CF 20)) (bR:Binds K fdr rfP []) (kR:PySem.W.keepIn K (.ref fr) = true) (mR:mg "_law_refused" = some (.ref fr))
    {cdv:Value} {A:Around} {outer:List Env} {s:Shared} {H:Hp} {E:XK} (hr:Room 44 (A.deeper (PyProof.Rows.envOfC "law" (defScope sLaw) s.heap.objs.size f cdv))) :
    ∃ t,PSs (cxOf CX0 P w K mg base lwN "law" (defScope sLaw) f cdv A outer s H E).nox (List.drop 13 (defBody sLaw)) t ∧
      (∀ (D:Ends) (H1:Hp) (t1 d1 e1 fa dx f1 f2 g:Addr) (fs:List (Str × V)) (kv fv ka kb gk:List (Key × V)) (fl b1 a1:List (Str × Kd)) (b2 a2:List (Str × (List Kd × Kd))) (c:Int) (z:Str) (k:Kd) (vd:V) (x0 x1 x2 x3 x4 x6 x9:Option V),Base fl a1 b1 a2 b2 → Tl K CF H1 t1 d1 e1 fa dx f1 f2 fs kv fv ka kb b1 a1 b2 a2 → H1 g = some (.dK gk) → PkAt (KdAt K H1) gk fl → c % 2 = 0 → (z,k) ∈ a1 → DK K H1 vd (.tuple [.str z,Kd.dat k,.none]) → (∀ H2,D.rt (.bl true) H2) →
        t D [x0,x1,x2,x3,x4,some (.ref g),x6,some (.ref t1),some (.ref fa),x9,some (.int c),some (.str z),some (.ref d1),some vd] H1) ∧
      (∀ (D:Ends) (H1:Hp) (t1 d1 e1 fa dx f1 f2 p:Addr) (fs:List (Str × V)) (kv fv ka kb:List (Key × V)) (fl b1 a1:List (Str × Kd)) (b2 a2:List (Str × (List Kd × Kd))) (c:Int) (z:Str) (fn:List Kd × Kd) (v:V) (x0 x1 x2 x3 x4 x5 x6 x9:Option V),Base fl a1 b1 a2 b2 → Tl K CF H1 t1 d1 e1 fa dx f1 f2 fs kv fv ka kb b1 a1 b2 a2 → ¬ c % 2 = 0 → (z,fn) ∈ a2 → SqT K H1 p [.str z,v,.non] → DK K H1 v (Fn.dat (putFn (ownG fl) fn)) → (∀ H2,D.rt (.bl true) H2) →
        t D [x0,x1,x2,x3,x4,x5,x6,some (.ref t1),some (.ref fa),x9,some (.int c),some (.str z),some (.ref e1),some (.ref p)] H1):=by
  have hu:=hu_of hr
  obtain ⟨t14,e14,k14⟩:=law_14 (f:=f) (outer:=outer) (H:=H) (E:=E) GI bI MF mF GR bR kR mR hr
  refine ⟨_,(@pss_cons _ _ _ _ _ (ps_if (pt_cmpR op_eq (pe_op op_mod (pe_op op_fdiv (pv 10) pe_int) pe_int) pe_int (nomark _))
      (pss_one (ps_expr (pe_dpop1 (pv 12) (pv 11) ⟨rfl,rfl,rfl,rfl⟩)))
      (pss_one (ps_if (pt_cmpR op_eq (pe_op op_mod (pv 10) pe_int) pe_int (nomark _))
        (pss_cons (ps_dput hu (pv 12) (pv 11) (pe_tup (pa_cons (pe_ix ix_tup (pe_dget hu (pv 12) (pv 11) (fun _ _ => rfl)) pe_int (fun _ _ => rfl)) (pa_cons (pe_tup (pa_cons pe_str (pa_cons pe_num2 (pa_cons (pe_ix ix_tup (pe_dget hu (pv 12) (pv 11) (fun _ _ => rfl)) pe_int (fun _ _ => rfl)) pa_nil)))) pa_nil))) rfl)
        (pss_one (ps_set (i:=13) scLaw.nd rfl (Or.inl rfl) (pe_tup (pa_cons (pv 11) (pa_cons (pe_ix ix_tup (pv 13) pe_int (fun _ _ => rfl)) (pa_cons (pe_dget hu (pv 12) (pv 11) (fun _ _ => rfl)) pa_nil)))))))
        (pss_one (ps_if (pt_cmp (pc_din hu (pv 11) (pv 5)) (by with_unfolding_all rfl)) (pss_one (ps_ret pe_bl))
          (pss_cons (ps_set (i:=13) scLaw.nd rfl (Or.inl rfl) (pe_tup (pa_cons (pv 11) (pa_cons (pe_dget hu (pv 12) (pv 11) (fun _ _ => rfl)) (pa_cons pe_num2 pa_nil)))))
          (pss_one (ps_dput hu (pv 12) (pv 11) pe_num2 rfl)))))))) @e14:PSs (cxOf CX0 P w K mg base lwN "law" (defScope sLaw) f cdv A outer s H E).nox (List.drop 13 (defBody sLaw)) _),?_,?_⟩
  · intro D H1 t1 d1 e1 fa dx f1 f2 g fs kv fv ka kb gk fl b1 a1 b2 a2 c z k vd x0 x1 x2 x3 x4 x6 x9 B T hg hG c0 hk hd q
    obtain ⟨⟨sz,smk,_,_⟩,w31,d16⟩:=B.ka _ hk
    have hb:=B.mem1 hk
    obtain ⟨⟨_,smb,_,_⟩,_,d16b⟩:=B.kb _ hb
    obtain ⟨v,hv,hvk⟩:∃ v,valV kv (.inr z) = some v ∧ KdAt K H1 v (Kd.put (ownG fl) k):=by
      rcases look_val T.p1 z with ⟨_,h2⟩ | ⟨v,k',h1,h2,h3⟩
      · rw [show look b1 z = _ from B.look1 hk] at h2
        cases h2
      · rw [show look b1 z = _ from B.look1 hk] at h2
        have:=Option.some.inj h2
        rw [← this] at h3
        exact ⟨v,h1,h3⟩
    have kz:kv.length < sizeLine:=by
      have e:kv.length = b1.length:=Paired.length T.p1
      have e2:b1.length = a1.length:=by rw [B.e1,List.length_map]
      have:=B.l1
      exact Nat.lt_of_lt_of_le (Nat.lt_succ_self _) (small (by omega))
    refine ⟨_,rfl,_,_,rfl,rfl,⟨by decide,by decide⟩,_,_,rfl,rfl,(by show (0:Int) < 2; decide),rfl,_,rfl,ite2 (fun c1 => ?_) (fun c1 => ?_)⟩
    · refine ⟨_,rfl,d1,rfl,.inl ⟨kv,.inl T.h1⟩,_,rfl,kv,.inr z,v,T.h1,rfl,hv,?_⟩
      refine k14 D _ t1 d1 e1 fa dx f1 f2 fs _ fv ka kb (less b1 z) a1 b2 a2 (z,Kd.dat k,.none) vd _ _ _ _ _ _ _ _ _ _ _ (T.set1 (PkAt.drop T.p1)) (B.twoA z) (B.fitA hk) (hd.keep fun a xs t => sqt_dk T.h1 t) ?_ q
      exact (gdn_three sz.1 (gdn_kd smk (n:=16) d16) gdn_none).mono (by decide)
    · refine ⟨_,rfl,_,_,rfl,rfl,(by show (0:Int) < 2; decide),rfl,_,rfl,ite2 (fun c2 => ?_) (fun c2 => ?_)⟩
      · have c2':c % 2 = 1:=V.int.inj (of_decide_eq_true c2)
        omega
      · refine ⟨_,rfl,_,rfl,g,_,rfl,DGet.k (k:=.inr z) hg,_,rfl,?_⟩
        rcases look_val hG z with ⟨h1,h2⟩ | ⟨v',k',h1,h2,_⟩
        · rw [h1]
          refine iteF ?_
          have hzf:z ∉ fl.map (·.1):=look_none h2
          refine ⟨_,rfl,_,rfl,_,rfl,d1,v,rfl,?_,(by show 2 ≤ sizeLine; decide),fun p1 hp1 => ⟨(by show 3 ≤ sizeLine; decide),fun p2 hp2 => ?_⟩⟩
          · rw [← hv]
            exact DGet.k (k:=.inr z) T.h1
          have s1:=same_new hp1 (.tup [.str "num",.int 1])
          have s2:=same_new hp2 (.tup [.str z,v,.ref p1])
          have s12:=s1.trans s2
          refine ⟨(by show 2 ≤ sizeLine; decide),fun p3 hp3 => ?_⟩
          have s3:=same_new hp3 (.tup [.str "num",.int 1])
          have s13:=s12.trans s3
          have T3:=T.same s13
          refine ⟨_,rfl,_,rfl,d1,_,rfl,DPut.k (k:=.inr z) T3.h1 kz,?_⟩
          have hn1:KdAt K _ (.ref p3) (.num 1):=.num (SqT.of (upd_same (H:=upd (upd H1 p1 (.tup [.str "num",.int 1])) p2 (.tup [.str z,v,.ref p1])) (a:=p3) (o:=.tup [.str "num",.int 1])))
          refine k14 D _ t1 d1 e1 fa dx f1 f2 fs _ fv ka kb (over b1 z (.num 1)) a1 b2 a2 (z,Kd.dat (Kd.put (ownG fl) k),Kd.dat (.num 1)) (.ref p2) _ _ _ _ _ _ _ _ _ _ _ (T3.set1 (PkAt.over T3.p1 hb hn1)) (B.twoK sz) (B.fitK hk hzf) ?_ ?_ q
          · refine DK.keep ?_ fun a xs t => sqt_dk T3.h1 t
            exact dk_three (s3.tup (SqT.of upd_same)) (dk_kd (hvk.same s13)) (dk_kd (.num ((s2.trans s3).tup (SqT.of upd_same))))
          · exact (gdn_three sz.1 (gdn_kd smb (n:=16) d16b) (gdn_kd (k:=.num 1) ⟨by decide,by decide⟩ (by show 1 ≤ 16; decide))).mono (by decide)
        · rw [h1]
          exact iteT (q _)
  · intro D H1 t1 d1 e1 fa dx f1 f2 p fs kv fv ka kb fl b1 a1 b2 a2 c z fn v x0 x1 x2 x3 x4 x5 x6 x9 B T c0 hk hp hd q
    have hb:=B.mem2 hk
    obtain ⟨sz,l4,sma⟩:=B.fb _ hb
    obtain ⟨v0,hv,hvf⟩:∃ v,valV fv (.inr z) = some v ∧ FunAt K H1 v (putFn (ownG fl) fn):=by
      rcases look_val T.p2 z with ⟨_,h2⟩ | ⟨v,k',h1,h2,h3⟩
      · rw [show look b2 z = _ from B.look2 hk] at h2
        cases h2
      · rw [show look b2 z = _ from B.look2 hk] at h2
        have:=Option.some.inj h2
        rw [← this] at h3
        exact ⟨v,h1,h3⟩
    have fz:fv.length < sizeLine:=by
      have e:fv.length = b2.length:=Paired.length T.p2
      have e2:b2.length = a2.length:=by rw [B.e2,List.length_map]
      have:=B.l2
      exact Nat.lt_of_lt_of_le (Nat.lt_succ_self _) (small (by omega))
    have gf:Gdn 18 (Fn.dat (putFn (ownG fl) fn)):=gdn_fn fun k hk => ⟨(sma k hk).1,(sma k hk).2.2⟩
    refine ⟨_,rfl,_,_,rfl,rfl,⟨by decide,by decide⟩,_,_,rfl,rfl,(by show (0:Int) < 2; decide),rfl,_,rfl,ite2 (fun c1 => ?_) (fun c1 => ?_)⟩
    · refine ⟨_,rfl,e1,rfl,.inl ⟨fv,.inl T.h2⟩,_,rfl,fv,.inr z,v0,T.h2,rfl,hv,?_⟩
      have ln:look (less b2 z) z = none:=by rw [look_less,if_pos rfl]
      have ft:=B.fitF (b2':=less b2 z) hk (by rw [ln]; exact fun x => nomatch x) fun y hy => by rw [look_less,if_neg hy]
      rw [ln] at ft
      refine k14 D _ t1 d1 e1 fa dx f1 f2 fs kv _ ka kb b1 a1 (less b2 z) a2 (z,Fn.dat (putFn (ownG fl) fn),.none) (.ref p) _ _ _ _ _ _ _ _ _ _ _ (T.set2 (PkAt.drop T.p2)) (B.twoF fun q hq => B.smf q (List.mem_filter.mp hq).1) ft ((dk_three hp hd dk_none).keep fun a xs t => sqt_dk T.h2 t) ?_ q
      exact (gdn_three sz.1 gf gdn_none).mono (by decide)
    · refine ⟨_,rfl,_,_,rfl,rfl,(by show (0:Int) < 2; decide),rfl,_,rfl,ite2 (fun c2 => ?_) (fun c2 => ?_)⟩
      · obtain ⟨pp,ta,x,xs,rfl,hf1,hf2,hf3,hf4⟩:=id hvf
        have g1:DGet H1 e1 (.str z) (some (.ref pp)):=by
          rw [← hv]
          exact DGet.k (k:=.inr z) T.h2
        refine ⟨_,rfl,_,rfl,e1,.ref pp,rfl,g1,_,_,_,_,rfl,rfl,hf1,(show atI [V.ref ta,x] 0 = some (.ref ta) from rfl),(by show 2 ≤ sizeLine; decide),fun p1 hp1 => ?_⟩
        have s1:=same_new hp1 (.tup [.str "num",.int 1])
        refine ⟨_,rfl,_,rfl,e1,.ref pp,rfl,?_,_,_,_,_,rfl,rfl,s1.tup hf1,(show atI [V.ref ta,x] 1 = some x from rfl),(by show 3 ≤ sizeLine; decide),fun p2 hp2 => ⟨(by show 2 ≤ sizeLine; decide),fun p3 hp3 => ?_⟩⟩
        · rw [← hv]
          exact DGet.k (k:=.inr z) (s1 _ _ T.h2)
        have s2:=same_new hp2 (.tup [.str "pair",.ref p1,x])
        have s3:=same_new hp3 (.tup [.ref ta,.ref p2])
        have s13:=s1.trans (s2.trans s3)
        have T3:=T.same s13
        refine ⟨_,rfl,_,rfl,e1,_,rfl,DPut.k (k:=.inr z) T3.h2 fz,?_⟩
        have hnew:FunAt K (upd (upd (upd H1 p1 (.tup [.str "num",.int 1])) p2 (.tup [.str "pair",.ref p1,x])) p3 (.tup [.ref ta,.ref p2])) (.ref p3) ((putFn (ownG fl) fn).1,.pair (.num 1) (putFn (ownG fl) fn).2) :=
          ⟨p3,ta,.ref p2,xs,rfl,SqT.of upd_same,s13.tup hf2,hf3.same s13,.pair (s3.tup (SqT.of upd_same)) (.num ((s2.trans s3).tup (SqT.of upd_same))) (hf4.same s13)⟩
        have T4:=T3.set2 (PkAt.over T3.p2 hb hnew)
        have kp:∀ a ys,SqT K (upd (upd (upd H1 p1 (.tup [.str "num",.int 1])) p2 (.tup [.str "pair",.ref p1,x])) p3 (.tup [.ref ta,.ref p2])) a ys → SqT K (upd (upd (upd (upd H1 p1 (.tup [.str "num",.int 1])) p2 (.tup [.str "pair",.ref p1,x])) p3 (.tup [.ref ta,.ref p2])) e1 (.dK (putK fv (.inr z) (.ref p3)))) a ys:=fun a ys t => sqt_dk T3.h2 t
        refine ⟨_,rfl,_,rfl,_,_,_,_,rfl,rfl,kp _ _ (s13.tup hp),(show atI [V.str z,v,.non] 1 = some v from rfl),_,rfl,_,rfl,e1,.ref p3,rfl,?_,(by show 3 ≤ sizeLine; decide),fun p5 hp5 => ?_⟩
        · have:valV (putK fv (.inr z) (.ref p3)) (.inr z) = some (.ref p3):=by rw [valV_put,if_pos rfl]
          rw [← this]
          exact DGet.k (k:=.inr z) T4.h2
        have s5:=same_new hp5 (.tup [.str z,v,.ref p3])
        have lo:look (over b2 z ((putFn (ownG fl) fn).1,.pair (.num 1) (putFn (ownG fl) fn).2)) z = some ((putFn (ownG fl) fn).1,.pair (.num 1) (putFn (ownG fl) fn).2):=by rw [look_over,if_pos rfl,show look b2 z = _ from B.look2 hk]; rfl
        have nep:∀ k:Kd,Kd.pair (.num 1) k ≠ k:=fun k e => by
          have:=congrArg Kd.words e
          have e2:(Kd.pair (.num 1) k).words = 1 + 1 + k.words:=rfl
          omega
        have ft:=B.fitF (b2':=over b2 z ((putFn (ownG fl) fn).1,.pair (.num 1) (putFn (ownG fl) fn).2)) hk (by rw [lo]; exact fun x => nep _ (congrArg Prod.snd (Option.some.inj x))) fun y hy => by rw [look_over,if_neg hy]
        rw [lo] at ft
        have smN:∀ k ∈ Kd.pair (.num 1) (putFn (ownG fl) fn).2 :: (putFn (ownG fl) fn).1,Kd.sm k ∧ k.words ≤ 60 ∧ Kd.depth k ≤ 17:=fun k hk => by
          rcases List.mem_cons.mp hk with rfl | hk
          · obtain ⟨a,b,c⟩:=sma _ (List.mem_cons_self ..)
            replace a:Kd.sm (putFn (ownG fl) fn).2:=a
            replace b:(putFn (ownG fl) fn).2.words ≤ 31:=b
            replace c:Kd.depth (putFn (ownG fl) fn).2 ≤ 16:=c
            refine ⟨⟨⟨by decide,by decide⟩,a⟩,?_,?_⟩
            · show 1 + 1 + (putFn (ownG fl) fn).2.words ≤ 60
              omega
            · show 1 + max 1 (Kd.depth (putFn (ownG fl) fn).2) ≤ 17
              omega
          · obtain ⟨a,b,c⟩:=sma k (.tail _ hk)
            exact ⟨a,by omega,by omega⟩
        refine k14 D _ t1 d1 e1 fa dx f1 f2 fs kv _ ka kb b1 a1 _ a2 (z,Fn.dat (putFn (ownG fl) fn),Fn.dat ((putFn (ownG fl) fn).1,.pair (.num 1) (putFn (ownG fl) fn).2)) (.ref p5) _ _ _ _ _ _ _ _ _ _ _ (T4.same s5) (B.twoF fun q hq => ?_) ft ?_ ?_ q
        · rcases over_mem hq with ⟨rfl,_⟩ | hq
          · exact ⟨sz,l4,fun k hk => ⟨(smN k hk).1,(smN k hk).2.1,Nat.le_trans (smN k hk).2.2 (by decide)⟩⟩
          · exact B.smf q hq
        · refine dk_three (SqT.of upd_same) (hd.keep fun a ys t => s5.tup (kp a ys (s13.tup t))) (dk_fn (hnew.keep fun a ys t => s5.tup (kp a ys t)))
        · have gn:Gdn 19 (Fn.dat ((putFn (ownG fl) fn).1,.pair (.num 1) (putFn (ownG fl) fn).2)):=gdn_fn fun k hk => ⟨(smN k hk).1,(smN k hk).2.2⟩
          exact (gdn_three sz.1 (gf.mono (by decide:18 ≤ 19)) gn).mono (by decide)
      · have c2':¬ c % 2 = 1:=fun e => c2 (decide_eq_true (congrArg V.int e))
        have:=Int.emod_two_eq c
        omega
end
end K29
namespace K29
open PySem L2 Kk
structure Bn (K:PySem.W.Frag) (CF:Addr) (H:Hp) (wl cl t0 d0 e0 t1 d1 e1 fa dx f1 f2 g:Addr) (fs:List (Str × V)) (kv0 fv0 kv fv ka kb gk:List (Key × V)) (fl b1 a1:List (Str × Kd)) (b2 a2:List (Str × (List Kd × Kd))) (ws cs:List Str):Prop where
  w:H wl = some (.lst (ws.map V.str))
  c:H cl = some (.lst (cs.map V.str))
  r:FD K H t0 d0 e0 kv0 fv0 a1 a2
  tl:Tl K CF H t1 d1 e1 fa dx f1 f2 fs kv fv ka kb b1 a1 b2 a2
  g:H g = some (.dK gk)
  pg:PkAt (KdAt K H) gk fl
theorem Bn.same {K:PySem.W.Frag} {CF:Addr} {H H':Hp} {wl cl t0 d0 e0 t1 d1 e1 fa dx f1 f2 g:Addr} {fs:List (Str × V)} {kv0 fv0 kv fv ka kb gk:List (Key × V)} {fl b1 a1:List (Str × Kd)} {b2 a2:List (Str × (List Kd × Kd))} {ws cs:List Str} (B:Bn K CF H wl cl t0 d0 e0 t1 d1 e1 fa dx f1 f2 g fs kv0 fv0 kv fv ka kb gk fl b1 a1 b2 a2 ws cs) (s:Same H H'):Bn K CF H' wl cl t0 d0 e0 t1 d1 e1 fa dx f1 f2 g fs kv0 fv0 kv fv ka kb gk fl b1 a1 b2 a2 ws cs :=
  ⟨s _ _ B.w,s _ _ B.c,B.r.same s,B.tl.same s,s _ _ B.g,B.pg.imp fun _ _ h => h.same s⟩
section
variable {P:Program} {w:World} {K:PySem.W.Frag} {mg:Str → Option Value} {base:Heap}
set_option maxHeartbeats 0 in
theorem law_11 {f fi fr fc CF:Addr} {fdi fdr fdc:FuncData} (GI:FnOk P w K mg base CX0 1 fi fdi ["self","kinds","funs"] (spInitF CF)) (bI:Binds K fdi ["self","kinds","funs"] []) (MF:Mk K CF fi) (mF:mg "Face" = some (.ref CF))
    (GR:FnOk P w K mg base CX0 24 fr fdr rfP (spRefused K CF 20)) (bR:Binds K fdr rfP []) (kR:PySem.W.keepIn K (.ref fr) = true) (mR:mg "_law_refused" = some (.ref fr))
    (GC:FnOk P w K mg base CX0 1 fc fdc ["_law_script","_law_k"] (spCell K)) (bC:Binds K fdc ["_law_script","_law_k"] []) (kC:PySem.W.keepIn K (.ref fc) = true) (mC:mg "_law_cell" = some (.ref fc))
    {cdv:Value} {A:Around} {outer:List Env} {s:Shared} {H:Hp} {E:XK} (hr:Room 44 (A.deeper (PyProof.Rows.envOfC "law" (defScope sLaw) s.heap.objs.size f cdv))) :
    ∃ t,PSs (cxOf CX0 P w K mg base lwN "law" (defScope sLaw) f cdv A outer s H E).nox (List.drop 11 (defBody sLaw)) t ∧
      ∀ (D:Ends) (H1:Hp) (a wl cl t0 d0 e0 t1 d1 e1 fa dx f1 f2 g:Addr) (fs:List (Str × V)) (kv0 fv0 kv fv ka kb gk:List (Key × V)) (fl b1 a1:List (Str × Kd)) (b2 a2:List (Str × (List Kd × Kd))) (ws cs:List Str) (ns:List Int) (x3 x6 x9:Option V),Bn K CF H1 wl cl t0 d0 e0 t1 d1 e1 fa dx f1 f2 g fs kv0 fv0 kv fv ka kb gk fl b1 a1 b2 a2 ws cs → Base fl a1 b1 a2 b2 → ws.length = 16 → cs.length = 16 → a1.map (·.1) = ws → a2.map (·.1) = cs → SqL K H1 a (ns.map V.int) → ns.length ≤ 63 → (∀ H2,D.rt (.bl true) H2) →
        t D [some (.ref a),some (.ref wl),some (.ref cl),x3,some (.ref t0),some (.ref g),x6,some (.ref t1),some (.ref fa),x9,none,none,none,none] H1:=by
  have hu:=hu_of hr
  have hr1:Room 1 _:=hr.mono (by decide)
  obtain ⟨t13,e13,kE,kO⟩:=law_13 (f:=f) (outer:=outer) (H:=H) (E:=E) GI bI MF mF GR bR kR mR hr
  refine ⟨_,(@pss_cons _ _ _ _ _ (ps_set (i:=10) scLaw.nd rfl (Or.inl rfl) (pe_call GC hr1 rfl mC kC bC .nil pass0 (pa_cons (pv 0) (pa_cons pe_int pa_nil))))
    (@pss_cons _ _ _ _ _ (ps_if (pt_cmpR op_eq (pe_op op_mod (pv 10) pe_int) pe_int (nomark _))
      (pss_cons (ps_set (i:=11) scLaw.nd rfl (Or.inl rfl) (pe_ix ix_list (pv 1) (pe_op op_mod (pe_op op_fdiv (pv 10) pe_int) pe_int) (fun _ _ => rfl)))
      (pss_cons (ps_set (i:=12) scLaw.nd rfl (Or.inl rfl) (pe_ix ix_tup (pv 7) pe_int (fun _ _ => rfl)))
      (pss_one (ps_set (i:=13) scLaw.nd rfl (Or.inl rfl) (pe_tup (pa_cons (pv 11) (pa_cons (pe_dget hu (pe_ix ix_tup (pv 4) pe_int (fun _ _ => rfl)) (pv 11) (fun _ _ => rfl)) (pa_cons pe_non pa_nil))))))))
      (pss_cons (ps_set (i:=11) scLaw.nd rfl (Or.inl rfl) (pe_ix ix_list (pv 2) (pe_op op_mod (pe_op op_fdiv (pv 10) pe_int) pe_int) (fun _ _ => rfl)))
      (pss_cons (ps_set (i:=12) scLaw.nd rfl (Or.inl rfl) (pe_ix ix_tup (pv 7) pe_int (fun _ _ => rfl)))
      (pss_one (ps_set (i:=13) scLaw.nd rfl (Or.inl rfl) (pe_tup (pa_cons (pv 11) (pa_cons (pe_dget hu (pe_ix ix_tup (pv 7) pe_int (fun _ _ => rfl)) (pv 11) (fun _ _ => rfl)) (pa_cons pe_non pa_nil))))))))) @e13):PSs (cxOf CX0 P w K mg base lwN "law" (defScope sLaw) f cdv A outer s H E).nox (List.drop 11 (defBody sLaw)) _),?_⟩
  intro D H1 a wl cl t0 d0 e0 t1 d1 e1 fa dx f1 f2 g fs kv0 fv0 kv fv ka kb gk fl b1 a1 b2 a2 ws cs ns x3 x6 x9 N B w16 c16 hw hc hS h63 q
  refine ⟨_,rfl,a,ns,_,rfl,hS,h63,by decide,by decide,fun c => ?_⟩
  refine ⟨_,rfl,_,_,rfl,rfl,(by show (0:Int) < 2; decide),rfl,_,rfl,ite2 (fun c1 => ?_) (fun c1 => ?_)⟩
  · have c1':c % 2 = 0:=V.int.inj (of_decide_eq_true c1)
    obtain ⟨j,x,_,hjx,hat⟩:=at_m (xs:=ws.map V.str) (c:=c / 4) (m:=16) (by decide) (by rw [List.length_map,w16]; decide)
    rw [List.getElem?_map] at hjx
    obtain ⟨z,hz,rfl⟩:=Option.map_eq_some_iff.mp hjx
    have hzm:z ∈ a1.map (·.1):=by rw [hw]; exact List.mem_of_getElem? hz
    obtain ⟨k,hk⟩:=look_ex hzm
    refine ⟨_,rfl,_,rfl,_,_,rfl,rfl,⟨by decide,by decide⟩,_,_,rfl,rfl,(by show (0:Int) < 16; decide),wl,_,_,_,rfl,rfl,SqL.of N.w,hat,?_⟩
    refine ⟨_,rfl,_,_,_,_,rfl,rfl,N.tl.tu,(show atI [V.ref d1,.ref e1] 0 = some (.ref d1) from rfl),?_⟩
    obtain ⟨v,hv,hvk⟩:∃ v,valV kv0 (.inr z) = some v ∧ KdAt K H1 v k:=by
      rcases look_val N.r.p1 z with ⟨_,h2⟩ | ⟨v,k',h1,h2,h3⟩
      · rw [hk] at h2
        cases h2
      · rw [hk] at h2
        rw [← Option.some.inj h2] at h3
        exact ⟨v,h1,h3⟩
    refine ⟨_,rfl,_,rfl,_,_,_,_,rfl,rfl,N.r.tu,(show atI [V.ref d0,.ref e0] 0 = some (.ref d0) from rfl),_,rfl,d0,v,rfl,?_,(by show 3 ≤ sizeLine; decide),fun p hp => ?_⟩
    · rw [← hv]
      exact DGet.k (k:=.inr z) N.r.h1
    have sp:=same_new hp (.tup [.str z,v,.non])
    have N2:=N.same sp
    exact kE D _ t1 d1 e1 fa dx f1 f2 g fs kv fv ka kb gk fl b1 a1 b2 a2 c z k (.ref p) _ _ _ _ _ _ _ B N2.tl N2.g N2.pg c1' (look_in hk) (dk_three (SqT.of upd_same) (dk_kd (hvk.same sp)) dk_none) q
  · have c1':¬ c % 2 = 0:=fun e => c1 (decide_eq_true (congrArg V.int e))
    obtain ⟨j,x,_,hjx,hat⟩:=at_m (xs:=cs.map V.str) (c:=c / 4) (m:=16) (by decide) (by rw [List.length_map,c16]; decide)
    rw [List.getElem?_map] at hjx
    obtain ⟨z,hz,rfl⟩:=Option.map_eq_some_iff.mp hjx
    have hzm:z ∈ a2.map (·.1):=by rw [hc]; exact List.mem_of_getElem? hz
    obtain ⟨fn,hk⟩:=look_ex hzm
    refine ⟨_,rfl,_,rfl,_,_,rfl,rfl,⟨by decide,by decide⟩,_,_,rfl,rfl,(by show (0:Int) < 16; decide),cl,_,_,_,rfl,rfl,SqL.of N.c,hat,?_⟩
    refine ⟨_,rfl,_,_,_,_,rfl,rfl,N.tl.tu,(show atI [V.ref d1,.ref e1] 1 = some (.ref e1) from rfl),?_⟩
    obtain ⟨v,hv,hvk⟩:∃ v,valV fv (.inr z) = some v ∧ FunAt K H1 v (putFn (ownG fl) fn):=by
      have hb:=B.look2 (look_in hk)
      rcases look_val N.tl.p2 z with ⟨_,h2⟩ | ⟨v,k',h1,h2,h3⟩
      · rw [show look b2 z = _ from hb] at h2
        cases h2
      · rw [show look b2 z = _ from hb] at h2
        rw [← Option.some.inj h2] at h3
        exact ⟨v,h1,h3⟩
    refine ⟨_,rfl,_,rfl,_,_,_,_,rfl,rfl,N.tl.tu,(show atI [V.ref d1,.ref e1] 1 = some (.ref e1) from rfl),_,rfl,e1,v,rfl,?_,(by show 3 ≤ sizeLine; decide),fun p hp => ?_⟩
    · rw [← hv]
      exact DGet.k (k:=.inr z) N.tl.h2
    have sp:=same_new hp (.tup [.str z,v,.non])
    have N2:=N.same sp
    exact kO D _ t1 d1 e1 fa dx f1 f2 p fs kv fv ka kb fl b1 a1 b2 a2 c z fn v _ _ _ _ _ _ _ _ B N2.tl c1' (look_in hk) (SqT.of upd_same) (dk_fn (hvk.keep fun _ _ t => sp.tup t)) q
end
noncomputable def numsD (fl:List (Str × Kd)):PyData:=.list (fl.map fun q => .tuple [.tuple [.str "",.str q.1],Kd.dat q.2])
theorem nums_dats {K:PySem.W.Frag} {H:Hp}:∀ {ps:List (List Key × V)} {fl:List (Str × Kd)} {as:List Addr},PtAt K H ps fl → Paired (fun (p:List Key × V) (a:Addr) => ∃ k,H k = some (.tup (p.1.map kV)) ∧ H a = some (.tup [.ref k,p.2])) ps as → Dats K H (as.map V.ref) (fl.map fun q => PyData.tuple [.tuple [.str "",.str q.1],Kd.dat q.2])
  | _,_,_,.nil,.nil => .nil
  | _,(z,kk) :: fl,_,.cons h t,.cons ⟨k,h1,h2⟩ u => by
    obtain ⟨e,hk⟩:=h
    rw [e] at h1
    exact .cons (.tup (SqT.of h2) (.cons (.tup (SqT.of h1) (.cons (.str _) (.cons (.str _) .nil))) (.cons (kd_dat hk) .nil))) (nums_dats t u)
theorem puts_pt {K:PySem.W.Frag} {H:Hp}:∀ {ps:List (List Key × V)} {fl:List (Str × Kd)} {acc:List (List Key × V)} {al:List (Str × Kd)},PtAt K H acc al → PtAt K H ps fl → ((al ++ fl).map (·.1)).Nodup → PtAt K H (putsT acc ps) (al ++ fl)
  | _,_,acc,al,ha,.nil,_ => by rw [List.append_nil]; exact ha
  | p :: ps,(z,k) :: fl,acc,al,ha,.cons ⟨e,hk⟩ t,nd => by
    have hz:z ∉ al.map (·.1):=fun hm => by
      rw [List.map_append,List.nodup_append] at nd
      exact nd.2.2 z hm z (List.mem_map.mpr ⟨(z,k),List.mem_cons_self ..,rfl⟩) rfl
    have h1:PtAt K H (putK acc p.1 p.2) (al ++ [(z,k)]):=by
      rw [e]
      exact pt_put ha hz hk
    have:=puts_pt (ps:=ps) (fl:=fl) h1 t (by rw [List.append_assoc]; exact nd)
    rw [List.append_assoc] at this
    exact this
theorem nums_gd {fl:List (Str × Kd)} (h:∀ q ∈ fl,smW q.1 ∧ Kd.sm q.2 ∧ Kd.depth q.2 ≤ 20):Gdn 23 (numsD fl):=by
  refine gdn_lst fun d hd => ?_
  obtain ⟨q,hq,rfl⟩:=List.mem_map.mp hd
  obtain ⟨a,b,c⟩:=h q hq
  refine gdn_tup fun d hd => ?_
  rcases List.mem_cons.mp hd with rfl | hd
  · refine gdn_tup fun d hd => ?_
    rcases List.mem_cons.mp hd with rfl | hd
    · exact gdn_str (by decide +kernel)
    · rw [List.mem_singleton.mp hd]
      exact gdn_str a.1
  · rw [List.mem_singleton.mp hd]
    exact (gdn_kd b c).mono (by decide)
end K29
namespace K29
open PySem L2 Kk
theorem lgivL_own {m:List (Str × Kd)}:∀ (zs:List Str) (i:Nat),∀ q ∈ lgivL m (zs.take i),∃ z ∈ zs,q.2 = ownK z
  | zs,0,q,hq => nomatch hq
  | zs,i + 1,q,hq => by
    have ih:=lgivL_own (m:=m) zs i
    cases h:zs[i]? with
    | none =>
      have e:=List.getElem?_eq_none_iff.mp h
      rw [List.take_of_length_le (Nat.le_succ_of_le e)] at hq
      rw [List.take_of_length_le e] at ih
      exact ih q hq
    | some z =>
      rw [lgivL_take h] at hq
      unfold lstep at hq
      split at hq
      · split at hq
        · rcases List.mem_append.mp hq with hq | hq
          · exact ih q hq
          · rw [List.mem_singleton.mp hq]
            exact ⟨z,List.mem_of_getElem? h,rfl⟩
        · exact ih q hq
      · exact ih q hq
theorem least_gd {fl a1 b1:List (Str × Kd)} {a2 b2:List (Str × (List Kd × Kd))} (B:Base fl a1 b1 a2 b2):Gdn 20 (leastD a1 a2):=by
  have hv:∀ n k,ownG (lgiv a1) n = some k → Kd.sm k ∧ k.words ≤ 1 ∧ Kd.depth k ≤ 1:=fun n k e => by
    unfold ownG at e
    split at e
    · have hm:=look_in e
      have hm':(n.2,k) ∈ lgivL a1 ((keysL a1).take (keysL a1).length):=by rw [List.take_length]; exact hm
      obtain ⟨z,hz,ez⟩:=lgivL_own _ _ _ hm'
      obtain ⟨q,hq,eq⟩:=List.mem_map.mp (srt_mem.mp hz)
      have ek:k = ownK z:=ez
      rw [ek]
      refine ⟨own_sm ?_,Nat.le_refl _,Nat.le_refl _⟩
      rw [← eq]
      exact (B.ka q hq).1.1
    · cases e
  have ps:=fun k => put_small (fun n k e => (hv n k e).2) k
  have sp:=fun {k:Kd} (h:Kd.sm k) => sm_put (fun n k e => (hv n k e).1) h
  refine gdn_tup fun d hd => ?_
  rcases List.mem_cons.mp hd with rfl | hd
  · refine (gdn_tup (n:=17) fun d hd => ?_).mono (by decide)
    obtain ⟨z,hz,rfl⟩:=List.mem_map.mp hd
    unfold rowKD
    cases e:look a1 z with
    | none =>
      obtain ⟨k,ek⟩:=look_ex (srt_mem.mp hz)
      rw [e] at ek
      cases ek
    | some k =>
      obtain ⟨⟨a,b,_⟩,_,c⟩:=B.ka _ (look_in e)
      refine gdn_tup fun d hd => ?_
      rcases List.mem_cons.mp hd with rfl | hd
      · exact gdn_str a.1
      · rw [List.mem_singleton.mp hd]
        exact gdn_kd (sp b) (Nat.le_trans (ps k).2 c)
  · rw [List.mem_singleton.mp hd]
    refine gdn_tup fun d hd => ?_
    obtain ⟨z,hz,rfl⟩:=List.mem_map.mp hd
    unfold rowFD
    cases e:look a2 z with
    | none => exact gdn_none
    | some f =>
      obtain ⟨a,_,c⟩:=B.fa _ (look_in e)
      have one:∀ k ∈ f.2 :: f.1,Gdn 16 (Kd.dat (Kd.put (ownG (lgiv a1)) k)):=fun k hk => gdn_kd (sp (c k hk).1) (Nat.le_trans (ps k).2 (c k hk).2.2)
      refine gdn_tup fun d hd => ?_
      rcases List.mem_cons.mp hd with rfl | hd
      · exact gdn_str a.1
      · rcases List.mem_cons.mp hd with rfl | hd
        · refine gdn_tup fun d hd => ?_
          obtain ⟨k',hk',rfl⟩:=List.mem_map.mp hd
          obtain ⟨k,hk,rfl⟩:=List.mem_map.mp hk'
          exact one k (.tail _ hk)
        · rw [List.mem_singleton.mp hd]
          exact (one f.2 (.head _)).mono (by decide)
structure Nums (K:PySem.W.Frag) (H:Hp) (nl:Addr) (ps:List (List Key × V)) (as:List Addr) (fl:List (Str × Kd)):Prop where
  l:H nl = some (.lst (as.map V.ref))
  p:Paired (fun (p:List Key × V) (a:Addr) => ∃ k,H k = some (.tup (p.1.map kV)) ∧ H a = some (.tup [.ref k,p.2])) ps as
  t:PtAt K H ps fl
theorem Nums.same {K:PySem.W.Frag} {H H':Hp} {nl:Addr} {ps:List (List Key × V)} {as:List Addr} {fl:List (Str × Kd)} (N:Nums K H nl ps as fl) (s:Same H H'):Nums K H' nl ps as fl :=
  ⟨s _ _ N.l,Paired.mapP N.p fun _ _ ⟨k,h1,h2⟩ => ⟨k,s _ _ h1,s _ _ h2⟩,N.t.same s⟩
theorem nofzL {H:Hp} {d:Addr} (h:H d = none):∀ o' u',H d ≠ some (.frz o' u'):=fun o' u' e => by
  rw [h] at e
  cases e
section
variable {P:Program} {w:World} {K:PySem.W.Frag} {mg:Str → Option Value} {base:Heap}
theorem bindM {f T:Addr} {fd:FuncData} {oT:Value} {dT:Option Addr} {nT:Nat} {sT:Array (Option Value)} {tk:Tok} (F:FunD K "put" "Face.put" sPutM (.ref T) f fd) (lT:K.lookup T = some ⟨oT,dT,.seq #[.int 40 tk] nT,sT⟩):Binds K fd ["self","given","most"] [.int 40 tk] :=
  F.binds lT fun _ _ _ _ _ _ us hl => by
    have hl':us.length = 2:=by simpa using hl
    match us,hl' with
    | [_,_],_ => exact ⟨_,rfl,rfl⟩
set_option maxHeartbeats 0 in
theorem law_8 {f fi ff fs' fm fe fg CF CN CT TF TM:Addr} {fdi fdf fds fdm fde fdg:FuncData} {oF oM:Value} {dF dM:Option Addr} {nF' nM:Nat} {sF sM:Array (Option Value)} {tkF tkM:Tok}
    (GI:FnOk P w K mg base CX0 1 fi fdi ["self","kinds","funs"] (spInitF CF)) (bI:Binds K fdi ["self","kinds","funs"] []) (MF:Mk K CF fi) (mF:mg "Face" = some (.ref CF)) (cF:Cls K CF)
    (FF:FunD K "fitted" "fitted" sFitted (.ref TF) ff fdf) (lTF:K.lookup TF = some ⟨oF,dF,.seq #[.str "" tkF] nF',sF⟩) (GF:FnOk P w K mg base (CX1 P w) 23 ff fdf ftP (spFitted K CF CN 20)) (kF:PySem.W.keepIn K (.ref ff) = true) (mFt:mg "fitted" = some (.ref ff))
    (GS:FnOk P w K mg base CX0 1 fs' fds smP (spSame K CF)) (bS:Binds K fds smP []) (kS:PySem.W.keepIn K (.ref fs') = true) (mS:mg "_law_same" = some (.ref fs'))
    (FM:FunD K "put" "Face.put" sPutM (.ref TM) fm fdm) (lTM:K.lookup TM = some ⟨oM,dM,.seq #[.int 40 tkM] nM,sM⟩) (GM:FnOk P w K mg base (CX1 P w) 24 fm fdm ["self","given","most"] (spPutM K CF CT 20)) (MM:Meth K CF "put" fm)
    (GE:FnOk P w K mg base CX0 22 fe fde ["face"] (spLeast K CF 20)) (bE:Binds K fde ["face"] []) (kE:PySem.W.keepIn K (.ref fe) = true) (mE:mg "least" = some (.ref fe))
    (GG:FnOk P w K mg base CX0 21 fg fdg llP (spLeastL K 20)) (bG:Binds K fdg llP []) (kG:PySem.W.keepIn K (.ref fg) = true) (mG:mg "_law_least" = some (.ref fg)) (md:mg "dict" = none) (mli:mg "list" = none)
    {cdv:Value} {A:Around} {outer:List Env} {s:Shared} {H:Hp} {E:XK} (hr:Room 44 (A.deeper (PyProof.Rows.envOfC "law" (defScope sLaw) s.heap.objs.size f cdv))) {t11:TS}
    (e11:PSs (cxOf CX0 P w K mg base lwN "law" (defScope sLaw) f cdv A outer s H E).nox (List.drop 11 (defBody sLaw)) t11) :
    ∃ t,PSs (cxOf CX0 P w K mg base lwN "law" (defScope sLaw) f cdv A outer s H E).nox (List.drop 8 (defBody sLaw)) t ∧
      ∀ (D:Ends) (H1:Hp) (wl cl t0 d0 e0 t1 d1 e1 fa dx f1 f2 g:Addr) (fs:List (Str × V)) (kv0 fv0 kv fv ka kb gk:List (Key × V)) (fl b1 a1:List (Str × Kd)) (b2 a2:List (Str × (List Kd × Kd))) (ws cs:List Str) (x0 x3 x6:Option V),Bn K CF H1 wl cl t0 d0 e0 t1 d1 e1 fa dx f1 f2 g fs kv0 fv0 kv fv ka kb gk fl b1 a1 b2 a2 ws cs → Base fl a1 b1 a2 b2 → H g = none → (∀ q ∈ fl,smW q.1) → fl.length ≤ 16 →
        (∀ H2 x9,Same H1 H2 → t11 D [x0,some (.ref wl),some (.ref cl),x3,some (.ref t0),some (.ref g),x6,some (.ref t1),some (.ref fa),x9,none,none,none,none] H2) →
        t D [x0,some (.ref wl),some (.ref cl),x3,some (.ref t0),some (.ref g),x6,some (.ref t1),some (.ref fa),none,none,none,none,none] H1:=by
  have hu:=hu_of hr
  have hu64:=hr.units
  have hu8:(A.deeper (PyProof.Rows.envOfC "law" (defScope sLaw) s.heap.objs.size f cdv)).units + 8 < cLine:=by have:=hr.un; omega
  have hr1:Room 1 _:=hr.mono (by decide)
  have hr2:Room (1 + 1) _:=hr.mono (by decide)
  have hr21:Room 21 _:=hr.mono (by decide)
  have hr22:Room 22 _:=hr.mono (by decide)
  have hr23:Room 23 _:=hr.mono (by decide)
  have hr24:Room 24 _:=hr.mono (by decide)
  have bM:=bindM FM lTM
  refine ⟨_,(@pss_cons _ _ _ _ _ (ps_thaw (ps_comp (i0:=9) (own:=["_law_t","_law_kind"]) (caps:=[]) (κ:=[]) scLaw.nd rfl (Or.inl rfl) rfl ⟨rfl,by decide +kernel,by decide +kernel,rfl,rfl,(fun y hy => nomatch hy),(fun y hy => nomatch hy)⟩ rfl
      (pi_items (pv 5)) (fun _ _ _ _ => pg_two (K:=K) (i:=0) (j:=1) rfl rfl (show (["_law_t","_law_kind"]:List Str).Nodup from by decide +kernel) rfl (Or.inl rfl) (Or.inr rfl) rfl (Or.inl rfl) (Or.inr rfl))
      (fun _ _ _ _ => pe_tup (pa_cons (pe_tup (pa_cons pe_str (pa_cons (pv 0) pa_nil))) (pa_cons (pv 1) pa_nil)))))
    (@pss_cons _ _ _ _ _ (ps_if (PW.pt (pw_or (pt_not (L2.pt_val (pe_call GS hr1 (by rfl) mS kS bS .nil pass0 (pa_cons (pv 8) (pa_cons (pv 4) pa_nil))))) (pw_or1 (pt_not (L2.pt_val (pe_call GS hr1 (by rfl) mS kS bS .nil pass0 (pa_cons (pe_meth (pv 8) cF MM GM hr24 bM (.cons (show RelV (.int 40) (.int 40 tkM) from ⟨tkM,rfl⟩) .nil) passNo (pa_cons (pe_callTy (call_dict_pairsT rfl hu8) (by rfl) md bootDict (pa_cons (pv 9) pa_nil)) pa_nil)) (pa_cons (pv 7) pa_nil))))))))
      (pss_one (ps_ret pe_bl)) pss_nil)
    (@pss_cons _ _ _ _ _ (ps_if (PW.pt (pw_or (pt_cmpR (op_neD hu64) (pe_call GE hr22 (by rfl) mE kE bE .nil pass0 (pa_cons (pv 8) pa_nil)) (pe_call GG hr21 (by rfl) mG kG bG .nil pass0 (pa_cons (pe_ix ix_tup (pv 4) pe_int (fun _ _ => rfl)) (pa_cons (pe_ix ix_tup (pv 4) pe_int (fun _ _ => rfl)) pa_nil))) (nomark _))
      (pw_or1 (pt_cmpR (op_neD hu64) (pe_callTy (call_list_itemsT rfl) (by rfl) mli bootList (pa_cons (pe_bm0 PySem.F.plainAttrs_dict PySem.F.slot_dict_items PySem.F.type_dict_items mt_itemsT (pe_call GF hr23 (by rfl) mFt kF (bindF2 FF lTF) (.cons (show RelV (.str "") (.str "" tkF) from ⟨tkF,rfl⟩) .nil) passNo (pa_cons (pe_make MF GI hr2 (by rfl) mF bI .nil pass0 (pa_cons (pe_ix ix_tup (pv 7) pe_int (fun _ _ => rfl)) (pa_cons (pe_ix ix_tup (pv 7) pe_int (fun _ _ => rfl)) pa_nil))) (pa_cons (pv 8) pa_nil)))) pa_nil)) (pv 9) (nomark _)))))
      (pss_one (ps_ret pe_bl)) pss_nil) @e11)):PSs (cxOf CX0 P w K mg base lwN "law" (defScope sLaw) f cdv A outer s H E).nox (List.drop 8 (defBody sLaw)) _),?_⟩
  intro D H1 wl cl t0 d0 e0 t1 d1 e1 fa dx f1 f2 g fs kv0 fv0 kv fv ka kb gk fl b1 a1 b2 a2 ws cs x0 x3 x6 N B hg0 hfl fl16 q
  have hlen:gk.length = fl.length:=Paired.length N.pg
  refine ⟨_,rfl,g,gk,rfl,N.g,fun o => ?_⟩
  refine comp_items (fun i ys H3 => Walk K H1 H3 g o gk ∧ ys.length ≤ i ∧ ∃ ps as,ys = as.map V.ref ∧ Paired (fun (p:List Key × V) (a:Addr) => ∃ k,H3 k = some (.tup (p.1.map kV)) ∧ H3 a = some (.tup [.ref k,p.2])) ps as ∧ PtAt K H3 ps (fl.take i)) ⟨Walk.start N.g,Nat.le_refl _,[],[],rfl,.nil,.nil⟩ (small (by omega)) ?_ ?_ ?_ ?_
  · rintro i ys H3 ⟨_,h,_⟩
    exact h
  · rintro i ys H3 ⟨h,_⟩
    exact h.fz
  · rintro i p a ys H3 N' hN hp ha ⟨wk,hyl,ps,as,rfl,hps,hpt⟩
    obtain ⟨⟨z,k⟩,hq,ez,hkz⟩:=pair_get N.pg hp
    obtain ⟨pk,pw⟩:=p
    replace ez:pk = .inr z:=ez
    replace hkz:KdAt K H1 pw k:=hkz
    subst ez
    have ea:=same_new ha (.tup [kV (.inr z),pw])
    refine ⟨a,_,rfl,SqT.of upd_same,rfl,_,_,rfl,_,_,rfl,rfl,rfl,tYes_go ?_⟩
    refine ⟨_,rfl,(by show 2 ≤ sizeLine; decide),fun b hb => ?_⟩
    have eb:=same_new hb (.tup [.str "",.str z])
    refine ⟨_,rfl,(by show 2 ≤ sizeLine; decide),fun c hc => hN _ _ ?_⟩
    have ec:=same_new hc (.tup [.ref b,pw])
    have sX:=ea.trans (eb.trans ec)
    have wk3:=wk.go sX
    refine ⟨wk3,by rw [List.length_append]; show _ + 1 ≤ _; omega,ps ++ [(keyN ("",z),pw)],as ++ [c],by rw [List.map_append]; rfl,?_,?_⟩
    · exact paired_snoc (Paired.mapP hps fun _ _ ⟨k,h1,h2⟩ => ⟨k,sX _ _ h1,sX _ _ h2⟩) ⟨b,ec _ _ upd_same,upd_same⟩
    · rw [List.take_add_one,hq]
      exact paired_snoc (hpt.same sX) ⟨rfl,kd_keep wk3.tup hkz⟩
  rintro ys H3 nl ⟨wk,hyl,ps,as,rfl,hps,hpt⟩ hnl
  have sL:=same_new hnl (.lst (as.map V.ref))
  have wk4:=wk.go sL
  rw [hlen,List.take_length] at hpt
  refine ⟨g,o,.dK gk,wk4.fz,nofzL hg0,?_⟩
  have sT:=wk4.thaw N.g
  have nne:nl ≠ g:=fun e => by rw [e,wk.fz] at hnl; cases hnl
  have tk:∀ b xs,H3 b = some (.tup xs) → upd (upd H3 nl (.lst (as.map V.ref))) g (.dK gk) b = some (.tup xs):=fun b xs hb => by
    rw [upd_ne (fun e => by rw [e,wk.fz] at hb; cases hb)]
    exact sL _ _ hb
  have NN:Nums K (upd (upd H3 nl (.lst (as.map V.ref))) g (.dK gk)) nl ps as fl:=by
    refine ⟨by rw [upd_ne nne]; exact upd_same,Paired.mapP hps fun _ _ ⟨k,h1,h2⟩ => ⟨k,tk _ _ h1,tk _ _ h2⟩,hpt.keep fun a xs t => sqt_fz wk4.fz (sL.tup t)⟩
  generalize upd (upd H3 nl (.lst (as.map V.ref))) g (.dK gk) = H4 at sT NN ⊢
  have N4:=N.same sT
  have C1:Cmp a1 a2:=⟨fun q hq => (B.ka q hq).1,fun q hq => by
    obtain ⟨a,b,c⟩:=B.fa q hq
    exact ⟨a,b,fun k hk => ⟨(c k hk).1,Nat.le_trans (c k hk).2.1 (by decide),Nat.le_trans (c k hk).2.2 (by decide)⟩⟩⟩
  have C2:Cmp b1 b2:=⟨fun q hq => (B.kb q hq).1,B.smf⟩
  have fnd:(fl.map (·.1)).Nodup:=by rw [← B.hid]; exact nd_hid B.na1
  have dpA:∀ q ∈ a2,q.2.1.length ≤ 4 ∧ ∀ k ∈ q.2.2 :: q.2.1,Kd.depth k ≤ 20:=fun q hq => ⟨(B.fa q hq).2.1,fun k hk => Nat.le_trans ((B.fa q hq).2.2 k hk).2.2 (by decide)⟩
  refine ⟨_,rfl,_,rfl,fa,t0,d0,e0,kv0,fv0,a1,a2,rfl,⟨dx,f1,f2,fs,ka,kb,N4.tl.fa⟩,N4.r,C1,fun H5 s5 => ?_⟩
  have N5:=N4.same s5
  have NN5:=NN.same s5
  have FA5:=N5.tl.fa
  refine ⟨true,rfl,iteF ?_⟩
  refine ⟨_,rfl,fa,dx,fs,rfl,FA5.obj,FA5.np,_,rfl,nl,as,ps,rfl,NN5.l,NN5.p,?_,fun dd hdd => ?_⟩
  · have e1:ps.length = fl.length:=pt_len NN5.t
    exact Nat.lt_of_lt_of_le (Nat.lt_succ_self _) (small (by omega))
  have s6:=same_new hdd (.dT (putsT [] ps))
  have hpt6:PtAt K H5 (putsT [] ps) fl:=puts_pt (acc:=[]) (al:=[]) .nil NN5.t fnd
  have FA6:=FA5.same s6
  have wb:∀ q ∈ a1,(Kd.put (ownG fl) q.2).words ≤ 31:=fun q hq => (B.kb _ (B.mem1 (w:=q.1) (k:=q.2) hq)).2.1
  have wf:∀ q ∈ a2,∀ k ∈ q.2.2 :: q.2.1,(Kd.put (ownG fl) k).words ≤ 31:=fun q hq k hk => by
    have:=(B.fb _ (B.mem2 (w:=q.1) (f:=q.2) hq)).2.2 (Kd.put (ownG fl) k) (by
      show _ ∈ (q.2.2 :: q.2.1).map (Kd.put (ownG fl))
      exact List.mem_map.mpr ⟨k,hk,rfl⟩)
    exact this.2.1
  have fit:FitsM 40 (a1.map (putP (ownG fl))) (a2.map (putQ (ownG fl))):=by
    refine ⟨fun q hq => ?_,fun q hq => ?_⟩
    · rw [← B.e1] at hq
      have:=(B.kb q hq).2.1
      omega
    · rw [← B.e2] at hq
      obtain ⟨_,_,c⟩:=B.fb q hq
      refine ⟨fun k hk => ?_,?_⟩
      · have:=(c k (.tail _ hk)).2.1
        omega
      · have:=(c q.2.2 (.head _)).2.1
        omega
  refine ⟨fa,dd,40,a1,a2,_,ownG fl,rfl,⟨dx,f1,f2,fs,ka,kb,FA6.obj,FA6.fk,FA6.ff,FA6.h1,FA6.h2,FA6.p1,FA6.p2,FA6.nh,FA6.np⟩,B.na1,B.na2,Nat.le_trans B.l1 (by decide),Nat.le_trans B.l2 (by decide),fun q hq => Nat.le_trans (B.ka q hq).2.2 (by decide),fun q hq => ⟨fun k hk => (dpA q hq).2 k (.tail _ hk),(dpA q hq).2 _ (.head _),Nat.le_trans (dpA q hq).1 (by decide)⟩,upd_same,pt_own (hpt6.same s6) fnd,fun q hq => Nat.le_trans (wb q hq) (by decide),fun q hq => ⟨fun k hk => Nat.le_trans (wf q hq k (.tail _ hk)) (by decide),Nat.le_trans (wf q hq _ (.head _)) (by decide)⟩,by decide,by decide,fun _ H7 x s7 _ hN7 => ?_,fun nf => absurd fit nf⟩
  rw [← B.e1,← B.e2] at hN7
  obtain ⟨dx7,g1,g2,fs7,k71,k72,_,_,_,o7,lk7,lf7,h71,h72,p71,p72,lh7,lp7⟩:=hN7
  have s57:=s6.trans s7
  have N7:=N5.same s57
  refine ⟨_,rfl,x,t1,d1,e1,kv,fv,b1,b2,rfl,⟨dx7,g1,g2,fs7,k71,k72,o7,lk7,lf7,h71,h72,p71,p72,lh7,lp7⟩,⟨N7.tl.tu,N7.tl.h1,N7.tl.h2,N7.tl.p1,N7.tl.p2⟩,C2,fun H8 s8 => ?_⟩
  have N8:=N7.same s8
  have NN8:=NN5.same (s57.trans s8)
  refine ⟨true,rfl,iteF ?_⟩
  have lg:=least_gd B
  refine ⟨_,rfl,fa,a1,a2,rfl,⟨dx,f1,f2,fs,ka,kb,N8.tl.fa⟩,B.l1,B.l2,fun q hq => Nat.le_trans (B.ka q hq).2.2 (by decide),dpA,fun H9 v9 s9 dv9 => ?_⟩
  have N9:=N8.same s9
  refine ⟨_,rfl,_,_,_,_,rfl,rfl,N9.r.tu,(show atI [V.ref d0,.ref e0] 0 = some (.ref d0) from rfl),_,rfl,_,_,_,_,rfl,rfl,N9.r.tu,(show atI [V.ref d0,.ref e0] 1 = some (.ref e0) from rfl),d0,e0,kv0,fv0,a1,a2,rfl,N9.r.h1,N9.r.h2,N9.r.p1,N9.r.p2,B.l1,B.l2,fun q hq => Nat.le_trans (B.ka q hq).2.2 (by decide),dpA,B.own,fun H10 v10 s10 dv10 => ?_⟩
  refine ⟨_,_,dv9.same s10,dv10,lg.shaped (by decide),lg.shaped (by decide),false,by rw [if_pos rfl,lg.refl]; rfl,iteF ?_⟩
  have N10:=N9.same s10
  refine ⟨_,rfl,_,_,_,_,rfl,rfl,N10.tl.tu,(show atI [V.ref d1,.ref e1] 0 = some (.ref d1) from rfl),_,rfl,_,_,_,_,rfl,rfl,N10.tl.tu,(show atI [V.ref d1,.ref e1] 1 = some (.ref e1) from rfl),fun xh dxh nx ndx nex => ?_⟩
  have ea:=same_new ndx (.own xh)
  have nx':upd H10 dxh (.own xh) xh = none:=by rw [upd_ne (Ne.symm nex)]; exact nx
  have eb:=same_new nx' (.ins CF dxh [])
  have eab:=ea.trans eb
  refine ⟨xh,dxh,d1,e1,kv,fv,rfl,upd_same,eab _ _ N10.tl.h1,eab _ _ N10.tl.h2,fun d e fs' H11 hd' he' nde hx lk lf lh lp hd7 he7 keep => ⟨rfl,?_⟩⟩
  have s11:Same H10 H11:=fun b o hb => keep b o (eab _ _ hb) (fun z => by rw [z,nx] at hb; cases hb)
  have N11:=N10.same s11
  have FX:FaceAt K H11 CF xh b1 b2:=⟨dxh,d,e,fs',kv,fv,hx,lk,lf,hd7,he7,N11.tl.p1,N11.tl.p2,lh,lp⟩
  have bf:=B.fit
  refine ⟨_,rfl,xh,fa,"",b1,a1,b2,a2,rfl,FX,⟨dx,f1,f2,fs,ka,kb,N11.tl.fa⟩,B.two (fun q hq => (B.kb q hq).1) B.smf (fun z hz k h => B.small hz h),⟨by decide +kernel,by decide +kernel⟩,fun r hr' => (by rw [bf] at hr'; cases hr'),fun _ H12 gg kvs gl s12 _ hgg hpt12 hgk hgl => ?_⟩
  refine ⟨.inr (.inr (.inl ⟨rfl,.inr ⟨_,hgg⟩⟩)),gg,kvs,rfl,rfl,hgg,fun vw hvw => ?_⟩
  have s13:=same_new hvw (.ext (itemsAt vw gg))
  refine ⟨vw,gg,kvs,rfl,upd_same,s13 _ _ hgg,fun H14 as14 l14 s14 _ h14 pr14 => ?_⟩
  have egl:gl = fl:=by
    refine List.ext_getElem? fun i => ?_
    have ek:gl.map (·.1) = fl.map (·.1):=hgk.trans B.hid
    have e1:(gl.map (·.1))[i]? = (fl.map (·.1))[i]?:=by rw [ek]
    rw [List.getElem?_map,List.getElem?_map] at e1
    cases h1:gl[i]? with
    | none =>
      rw [h1] at e1
      cases h2:fl[i]? with
      | none => rfl
      | some y => rw [h2] at e1; cases e1
    | some x =>
      rw [h1] at e1
      cases h2:fl[i]? with
      | none => rw [h2] at e1; cases e1
      | some y =>
        rw [h2] at e1
        have ex:x.1 = y.1:=Option.some.inj e1
        have l1:=hgl x (List.mem_of_getElem? h1)
        have hxm:x.1 ∈ hidL a1:=by rw [← hgk]; exact List.mem_map.mpr ⟨x,List.mem_of_getElem? h1,rfl⟩
        rw [B.lookb hxm,ex,in_look fnd (List.mem_of_getElem? h2)] at l1
        have:y.2 = x.2:=Option.some.inj l1
        rw [show x = y from Prod.ext ex this.symm]
  subst egl
  have S14:Same H12 H14:=s13.trans s14
  have d14:Dat K H14 (.ref l14) (numsD gl):=.lst (SqL.of h14) (nums_dats (hpt12.same S14) pr14)
  have sA:Same H8 H14:=s9.trans (s10.trans (s11.trans (s12.trans S14)))
  have NN14:=NN8.same sA
  have d15:Dat K H14 (.ref nl) (numsD gl):=.lst (SqL.of NN14.l) (nums_dats NN14.t NN14.p)
  have ng:=nums_gd (fl:=gl) fun q hq => by
    obtain ⟨n,e,n2,n3⟩:=B.nf q hq
    rw [e]
    exact ⟨hfl q hq,⟨by omega,Int.le_trans n3 (by decide)⟩,by show 1 ≤ 20; decide⟩
  refine ⟨_,rfl,_,_,d14,d15,ng.shaped (by decide),ng.shaped (by decide),false,by rw [if_pos rfl,ng.refl]; rfl,iteF ?_⟩
  exact q _ _ (sT.trans (s5.trans (s57.trans (s8.trans sA))))
end
end K29
namespace K29
open PySem L2 Kk
theorem first_look {its:List It} {z:Str} {k:Kd} (h:look (firstL its 16) z = some k):Kd.sm k ∧ k.words = 1 ∧ Kd.depth k = 1:=by
  obtain ⟨n,e,n2,n3⟩:=firstL_num 16 _ (look_in h)
  have e':k = .num n:=e
  rw [e']
  have h100:n ≤ 100:=by omega
  exact ⟨⟨by omega,Int.le_trans h100 (by decide)⟩,rfl,rfl⟩
theorem base_of {ws cs:List Str} {its:List It} (h:Itn ws cs its 16 16) (hw:ws.length = 16) (hc:cs.length = 16) :
    Base (firstL its 16) (rows (fun _ => none) its).1 (rows (look (firstL its 16)) its).1 (rows (fun _ => none) its).2 (rows (look (firstL its 16)) its).2:=by
  have ok:=h.ok hw hc
  have hl:=h.len
  have et:its.take its.length = its:=List.take_length
  have RA:=rows_rs (g:=fun _ => none) (fun _ _ z => nomatch z) ok its.length (Nat.le_refl _)
  have RB:=rows_rs (g:=look (firstL its 16)) (fun z k e => first_look e) ok its.length (Nat.le_refl _)
  have PP:=rows_put (fl:=firstL its 16) h.each its.length (Nat.le_refl _)
  have AH:=rows_ah h.each its.length (Nat.le_refl _)
  have N1:=rows_not1 (fl:=firstL its 16) (fun q hq => by
    obtain ⟨n,e,n2,_⟩:=firstL_num 16 q hq
    rw [e]
    intro z
    have:=Kd.num.inj z
    omega) h.each its.length (Nat.le_refl _)
  rw [et] at RA RB PP AH N1
  have ka:∀ {s:Rw},RS s → s.1.length ≤ 16 → ∀ q ∈ s.1,SmK q ∧ q.2.words ≤ 31 ∧ Kd.depth q.2 ≤ 16:=fun {s} R l q hq => by
    obtain ⟨j,hj⟩:=List.mem_iff_getElem?.mp hq
    have lt:=(List.getElem?_eq_some_iff.mp hj).1
    obtain ⟨a,b,c,d⟩:=R.k j q hj
    exact ⟨⟨a,b,by omega,by omega⟩,by omega,by omega⟩
  have fa:∀ {s:Rw},RS s → s.1.length ≤ 16 → ∀ q ∈ s.2,smW q.1 ∧ q.2.1.length ≤ 4 ∧ ∀ k ∈ q.2.2 :: q.2.1,Kd.sm k ∧ k.words ≤ 31 ∧ Kd.depth k ≤ 16:=fun {s} R l q hq => by
    obtain ⟨a,b,c⟩:=R.f q hq
    refine ⟨a,b,fun k hk => ?_⟩
    obtain ⟨p,hp,e⟩:=c k hk
    obtain ⟨x,y,z⟩:=ka R l p hp
    rw [e]
    exact ⟨x.2.1,y,z⟩
  have la:(rows (fun _ => none) its).1.length ≤ 16:=by
    have:=congrArg List.length (rows_k (fun _ => none) its)
    rw [List.length_map] at this
    rw [this]
    exact ok.l1
  have la2:(rows (fun _ => none) its).2.length ≤ 16:=by
    have:=congrArg List.length (rows_f (fun _ => none) its)
    rw [List.length_map] at this
    rw [this]
    exact ok.l2
  have lb:(rows (look (firstL its 16)) its).1.length ≤ 16:=by
    rw [PP.1,List.length_map]
    exact la
  refine ⟨la,la2,RA.n1,RA.n2,ka RA la,fa RA la,ka RB lb,fa RB lb,PP.1,PP.2,?_,fun q hq => ?_,N1,fun q hq a t e => ?_⟩
  · rw [AH.1,firstL_keys 16 (by omega)]
    have:=hW_rest h 16 (Nat.le_refl _)
    rw [show 16 + 16 = its.length by omega,et] at this
    exact this
  · obtain ⟨n,e,n2,n3⟩:=firstL_num 16 q hq
    exact ⟨n,e,n2,by omega⟩
  · have:=AH.2.1 q hq
    rw [e] at this
    exact (this (a,t) (List.mem_singleton.mpr rfl)).1
noncomputable def spLaw (K:PySem.W.Frag):Sp:=fun vs H Q _ => ∃ (a:Addr) (ns:List Int),vs = [.ref a] ∧ SqL K H a (ns.map V.int) ∧ ns.length ≤ 63 ∧ ∀ H',Q (.bl true) H'
section
variable {P:Program} {w:World} {K:PySem.W.Frag} {mg:Str → Option Value} {base:Heap}
set_option maxHeartbeats 0 in
theorem ok_law {f fi ff fs' fm fe fg fr fc fw ft fo fa' CF CN CT TF TM:Addr} {fd fdi fdf fds fdm fde fdg fdr fdc fdw fdt fdo fda:FuncData} {oF oM:Value} {dF dM:Option Addr} {nF' nM:Nat} {sF sM:Array (Option Value)} {tkF tkM:Tok} (F:Fun K "law" "law" sLaw f fd)
    (GI:FnOk P w K mg base CX0 1 fi fdi ["self","kinds","funs"] (spInitF CF)) (bI:Binds K fdi ["self","kinds","funs"] []) (MF:Mk K CF fi) (mF:mg "Face" = some (.ref CF)) (cF:Cls K CF)
    (FF:FunD K "fitted" "fitted" sFitted (.ref TF) ff fdf) (lTF:K.lookup TF = some ⟨oF,dF,.seq #[.str "" tkF] nF',sF⟩) (GF:FnOk P w K mg base (CX1 P w) 23 ff fdf ftP (spFitted K CF CN 20)) (kF:PySem.W.keepIn K (.ref ff) = true) (mFt:mg "fitted" = some (.ref ff))
    (GS:FnOk P w K mg base CX0 1 fs' fds smP (spSame K CF)) (bS:Binds K fds smP []) (kS:PySem.W.keepIn K (.ref fs') = true) (mS:mg "_law_same" = some (.ref fs'))
    (FM:FunD K "put" "Face.put" sPutM (.ref TM) fm fdm) (lTM:K.lookup TM = some ⟨oM,dM,.seq #[.int 40 tkM] nM,sM⟩) (GM:FnOk P w K mg base (CX1 P w) 24 fm fdm ["self","given","most"] (spPutM K CF CT 20)) (MM:Meth K CF "put" fm)
    (GE:FnOk P w K mg base CX0 22 fe fde ["face"] (spLeast K CF 20)) (bE:Binds K fde ["face"] []) (kE:PySem.W.keepIn K (.ref fe) = true) (mE:mg "least" = some (.ref fe))
    (GG:FnOk P w K mg base CX0 21 fg fdg llP (spLeastL K 20)) (bG:Binds K fdg llP []) (kG:PySem.W.keepIn K (.ref fg) = true) (mG:mg "_law_least" = some (.ref fg))
    (GR:FnOk P w K mg base CX0 24 fr fdr rfP (spRefused K CF 20)) (bR:Binds K fdr rfP []) (kR:PySem.W.keepIn K (.ref fr) = true) (mR:mg "_law_refused" = some (.ref fr))
    (GC:FnOk P w K mg base CX0 1 fc fdc ["_law_script","_law_k"] (spCell K)) (bC:Binds K fdc ["_law_script","_law_k"] []) (kC:PySem.W.keepIn K (.ref fc) = true) (mC:mg "_law_cell" = some (.ref fc))
    (GW:FnOk P w K mg base CX0 2 fw fdw ["_law_script","_law_start","_law_many"] (spWordsL K)) (bW:Binds K fdw ["_law_script","_law_start","_law_many"] []) (kW':PySem.W.keepIn K (.ref fw) = true) (mW:mg "_law_words" = some (.ref fw))
    (GT:FnOk P w K mg base CX0 2 ft fdt itP (spItems K)) (bT:Binds K fdt itP []) (kT:PySem.W.keepIn K (.ref ft) = true) (mT:mg "_law_items" = some (.ref ft))
    (GO:FnOk P w K mg base CX0 21 fo fdo rwP (spRows K)) (bO:Binds K fdo rwP []) (kO:PySem.W.keepIn K (.ref fo) = true) (mO:mg "_law_rows" = some (.ref fo))
    (GA:FnOk P w K mg base CX0 42 fa' fda foP (spFaceOf K CF)) (bA:Binds K fda foP []) (kA:PySem.W.keepIn K (.ref fa') = true) (mA:mg "face_of" = some (.ref fa'))
    (md:mg "dict" = none) (mli:mg "list" = none) (mr:mg "range" = none) (mt:mg "tuple" = none) :
    FnOk P w K mg base CX0 45 f fd ["_law_script"] (spLaw K):=by
  refine F.ok scLaw (fun vs H Q E h => ?_) (fun cdv A outer s H vs Q E hr h => ?_)
  · obtain ⟨a,ns,rfl,_⟩:=h
    rfl
  obtain ⟨a,ns,rfl,hS,h63,q⟩:=h
  have hu:=hu_of hr
  have hr2:Room 2 _:=hr.mono (by decide)
  have hr21:Room 21 _:=hr.mono (by decide)
  have hr42:Room 42 _:=hr.mono (by decide)
  obtain ⟨t11,e11,k11⟩:=law_11 (f:=f) (outer:=outer) (H:=H) (E:=E) GI bI MF mF GR bR kR mR GC bC kC mC hr
  obtain ⟨t8,e8,k8⟩:=law_8 (f:=f) (outer:=outer) (H:=H) (E:=E) GI bI MF mF cF FF lTF GF kF mFt GS bS kS mS FM lTM GM MM GE bE kE mE GG bG kG mG md mli hr e11
  refine ⟨_,(@pss_cons _ _ _ _ _ (ps_set (i:=1) scLaw.nd rfl (Or.inl rfl) (pe_call GW hr2 (by rfl) mW kW' bW .nil pass0 (pa_cons (pv 0) (pa_cons pe_int (pa_cons pe_int pa_nil)))))
    (@pss_cons _ _ _ _ _ (ps_set (i:=2) scLaw.nd rfl (Or.inl rfl) (pe_call GW hr2 (by rfl) mW kW' bW .nil pass0 (pa_cons (pv 0) (pa_cons pe_int (pa_cons pe_int pa_nil)))))
    (@pss_cons _ _ _ _ _ (ps_set (i:=3) scLaw.nd rfl (Or.inl rfl) (pe_call GT hr2 (by rfl) mT kT bT .nil pass0 (pa_cons (pv 0) (pa_cons (pv 1) (pa_cons (pv 2) pa_nil)))))
    (@pss_cons _ _ _ _ _ (ps_set (i:=4) scLaw.nd rfl (Or.inl rfl) (pe_call GO hr21 (by rfl) mO kO bO .nil pass0 (pa_cons (pv 3) (pa_cons pe_dnewK pa_nil))))
    (@pss_cons _ _ _ _ _ (ps_set (i:=5) scLaw.nd rfl (Or.inl rfl) pe_dnewK)
    (@pss_cons _ _ _ _ _ (ps_for PassesOwn.never rfl (pi_range1 (by rfl) mr (pa_cons pe_int pa_nil)) (pg_name (i:=6) scLaw.nd rfl (Or.inl rfl))
      (pss_one (ps_if (pt_cmpR op_eq (pe_ix ix_tup (pe_ix ix_list (pv 3) (pv 6) (fun _ _ => rfl)) pe_int (fun _ _ => rfl)) pe_str (nomark _))
        (pss_one (ps_dput hu (pv 5) (pe_ix ix_list (pv 1) (pv 6) (fun _ _ => rfl)) (pe_tup (pa_cons pe_str (pa_cons (pe_op op_add pe_int (pv 6)) pa_nil))) rfl)) pss_nil)))
    (@pss_cons _ _ _ _ _ (ps_set (i:=7) scLaw.nd rfl (Or.inl rfl) (pe_call GO hr21 (by rfl) mO kO bO .nil pass0 (pa_cons (pv 3) (pa_cons (pv 5) pa_nil))))
    (@pss_cons _ _ _ _ _ (ps_set (i:=8) scLaw.nd rfl (Or.inl rfl) (pe_call GA hr42 (by rfl) mA kA bA .nil pass0 (pa_cons (pe_callTy call_tuple_of (by rfl) mt bootTuple (pa_cons (pv 3) pa_nil)) (pa_cons pe_dnewK pa_nil))))
    @e8))))))):PSs (cxOf CX0 P w K mg base lwN "law" (defScope sLaw) f cdv A outer s H E).nox (defBody sLaw) _),?_⟩
  refine ⟨_,rfl,a,ns,_,_,rfl,hS,h63,by decide,by decide,by decide,by decide,fun H1 wl ws s1 nwl hwl hw16 wnd wok => ?_⟩
  have w16:ws.length = 16:=by have:(ws.length:Int) = 16:=hw16; omega
  refine ⟨_,rfl,a,ns,_,_,rfl,sql_same s1 hS,h63,by decide,by decide,by decide,by decide,fun H2 cl cs s2 ncl hcl hc16 cnd cok => ?_⟩
  have c16:cs.length = 16:=by have:(cs.length:Int) = 16:=hc16; omega
  have s02:=s1.trans s2
  refine ⟨_,rfl,_,rfl,_,rfl,a,wl,cl,ns,ws,cs,rfl,sql_same s02 hS,h63,s2 _ _ hwl,w16,wnd,wok,hcl,c16,cnd,cok,fun H3 il xs its s3 nil' hil hits hI => ?_⟩
  have iok:=hI.ok w16 c16
  have s03:=s02.trans s3
  refine ⟨_,rfl,fun z0 hz0 => ?_⟩
  have s4:=same_new hz0 (.dK [])
  refine ⟨il,z0,xs,its,[],[],rfl,s4 _ _ hil,Paired.mapP hits fun _ _ h => h.same s4,iok,upd_same,.nil,fun z k e => (nomatch e),fun H5 t0 d0 e0 kv0 fv0 s5 nd0 ne0 nde0 nt0 R0 => ?_⟩
  have s35:=s4.trans s5
  have s05:=s03.trans s35
  intro g hg
  have sg:=same_new hg (.dK [])
  have hg0:H g = none:=s05.free hg
  have eN:look ([]:List (Str × Kd)) = fun _ => none:=rfl
  rw [eN] at R0
  refine ⟨_,rfl,by decide,by decide,for_range (fun i σ H6 => ∃ (gk:List (Key × V)) (x6:Option V),σ = [some (.ref a),some (.ref wl),some (.ref cl),some (.ref il),some (.ref t0),some (.ref g),x6,none,none,none,none,none,none,none] ∧ Same H5 H6 ∧ H6 g = some (.dK gk) ∧ PkAt (KdAt K H6) gk (firstL its i))
    ⟨[],none,rfl,sg,upd_same,.nil⟩ ?_ ?_⟩
  · rintro i σ H6 hi ⟨gk,x6,rfl,s6,hg6,hpg⟩
    have hi':i < 16:=hi
    have s36:=s35.trans s6
    obtain ⟨z,hz⟩:∃ z,ws[i]? = some z:=⟨_,List.getElem?_eq_getElem (by omega)⟩
    obtain ⟨it,hit,hkt⟩:=hI.at' i z hi' hz
    have hxl:xs.length = its.length:=hits.length
    obtain ⟨x,hx⟩:∃ x,xs[i]? = some x:=⟨_,List.getElem?_eq_getElem (by have:=hI.len; omega)⟩
    obtain ⟨it2,hit2,hat⟩:=pair_get hits hx
    rw [hit] at hit2
    obtain rfl:=Option.some.inj hit2
    replace hat:=hat.same s36
    have hgl:gk.length = (firstL its i).length:=Paired.length hpg
    have fl':=firstL_len (its:=its) i
    have hxat:atI xs (0 + (i:Int)) = some x:=by rw [Int.zero_add]; exact atI_nat hx
    have hzV:atI (ws.map V.str) (0 + (i:Int)) = some (.str z):=by rw [Int.zero_add]; exact atI_nat (by rw [List.getElem?_map,hz]; rfl)
    have hl6:=s36 _ _ hil
    have e1:firstL its (i + 1) = match its[i]? with | some (.hid w) => firstL its i ++ [(w,.num (2 + (i:Int)))] | _ => firstL its i:=rfl
    rcases hkt with rfl | ⟨k,rfl⟩
    · obtain ⟨p,rfl,hp⟩:=hat
      refine ⟨_,rfl,_,rfl,il,_,_,_,rfl,rfl,SqL.of hl6,hxat,_,_,_,_,rfl,rfl,hp,(show atI [V.str "hid",.str z] 0 = some (.str "hid") from rfl),rfl,_,rfl,ite2 (fun _ => ?_) (fun c => absurd (by decide +kernel) c)⟩
      refine ⟨_,rfl,_,_,rfl,rfl,(by show 2 ≤ sizeLine; decide),fun p2 hp2 => ?_⟩
      have s7:=same_new hp2 (.tup [.str "num",.int (2 + (0 + (i:Int)))])
      have hg7:=s7 _ _ hg6
      refine ⟨_,rfl,_,rfl,_,rfl,wl,_,_,_,rfl,rfl,SqL.of ((s2.trans (s3.trans (s36.trans s7))) _ _ hwl),hzV,g,_,rfl,DPut.k (k:=.inr z) hg7 (Nat.lt_of_lt_of_le (Nat.lt_succ_self _) (small (by omega))),?_⟩
      have kp:∀ b ys,SqT K (upd H6 p2 (.tup [.str "num",.int (2 + (0 + (i:Int)))])) b ys → SqT K (upd (upd H6 p2 (.tup [.str "num",.int (2 + (0 + (i:Int)))])) g (.dK (putK gk (.inr z) (.ref p2)))) b ys:=fun b ys t => sqt_dk hg7 t
      refine ⟨_,_,rfl,sput (s6.trans s7) hg,upd_same,?_⟩
      rw [e1,hit]
      have en:(2:Int) + (0 + (i:Int)) = 2 + (i:Int):=by omega
      refine PkAt.put (hpg.imp fun _ _ h => kd_keep (fun b ys t => kp b ys (s7.tup t)) h) ?_ ?_
      · rw [firstL_keys i (by have:=hI.len; omega)]
        intro hm
        exact (hI.each i _ hit).2 ((rows_ah hI.each i (by have:=hI.len; omega)).2.2 z hm)
      · rw [← en]
        exact .num (kp _ _ (SqT.of upd_same))
    · obtain ⟨p,y,rfl,hp,_⟩:=hat
      refine ⟨_,rfl,_,rfl,il,_,_,_,rfl,rfl,SqL.of hl6,hxat,_,_,_,_,rfl,rfl,hp,(show atI [V.str "told",.str z,y] 0 = some (.str "told") from rfl),rfl,_,rfl,ite2 (fun c => absurd c (by decide +kernel)) (fun _ => ?_)⟩
      refine ⟨gk,_,rfl,s6,hg6,?_⟩
      rw [e1,hit]
      exact hpg
  · rintro σ H6 ⟨gk,x6,rfl,s6,hg6,hpg⟩
    replace hpg:PkAt (KdAt K H6) gk (firstL its 16):=hpg
    have s36:=s35.trans s6
    have B:=base_of hI w16 c16
    refine ⟨_,rfl,_,rfl,il,g,xs,its,gk,firstL its 16,rfl,s36 _ _ hil,Paired.mapP hits fun _ _ h => h.same s36,iok,hg6,hpg,fun z k e => first_look e,fun H7 t1 d1 e1 kv fv s7 nd1 ne1 nde1 nt1 R1 => ?_⟩
    have s37:=s36.trans s7
    refine ⟨_,rfl,il,xs,rfl,.inl ⟨SqL.of (s37 _ _ hil),fun tu htu => ?_⟩⟩
    have s8:=same_new htu (.tup xs)
    intro pp hpp
    have s9:=same_new hpp (.dK [])
    have s79:=s8.trans s9
    have s39:=s37.trans s79
    have R19:=R1.same s79
    refine ⟨tu,pp,xs,its,rfl,SqT.of (s9 _ _ upd_same),Paired.mapP hits fun _ _ h => h.same s39,iok,upd_same,fun H10 fa s10 nfa hN => ?_⟩
    obtain ⟨dx,f1,f2,fs,ka,kb,n1,n2,_,o10,lk,lf,h1,h2,p1,p2,lh,lp⟩:=hN
    have sB:=s79.trans s10
    have R110:=R1.same sB
    have NB:Bn K CF H10 wl cl t0 d0 e0 t1 d1 e1 fa dx f1 f2 g fs kv0 fv0 kv fv ka kb gk (firstL its 16) (rows (look (firstL its 16)) its).1 (rows (fun _ => none) its).1 (rows (look (firstL its 16)) its).2 (rows (fun _ => none) its).2 ws cs:=by
      have s310:=s37.trans sB
      refine ⟨(s2.trans (s3.trans s310)) _ _ hwl,(s3.trans s310) _ _ hcl,R0.same (s6.trans (s7.trans sB)),⟨R110.tu,R110.h1,R110.h2,R110.p1,R110.p2,⟨o10,lk,lf,h1,h2,p1,p2,lh,lp⟩,nde1,?_,?_,?_,?_⟩,(s7.trans sB) _ _ hg6,hpg.imp fun _ _ h => h.same (s7.trans sB)⟩
      · exact fun e => by rw [e,R19.h1] at n1; cases n1
      · exact fun e => by rw [e,R19.h2] at n1; cases n1
      · exact fun e => by rw [e,R19.h1] at n2; cases n2
      · exact fun e => by rw [e,R19.h2] at n2; cases n2
    refine k8 _ H10 wl cl t0 d0 e0 t1 d1 e1 fa dx f1 f2 g fs kv0 fv0 kv fv ka kb gk _ _ _ _ _ ws cs _ _ _ NB B hg0 (fun q hq => ?_) (firstL_len 16) fun H11 x9 s11 => ?_
    · have hm:q.1 ∈ (firstL its 16).map (·.1):=List.mem_map.mpr ⟨q,hq,rfl⟩
      rw [firstL_keys 16 (by have:=hI.len; omega)] at hm
      have h3:=(rows_ah hI.each 16 (by have:=hI.len; omega)).2.2 _ hm
      have h4:q.1 ∈ kW its:=by
        unfold kW at h3 ⊢
        exact (List.Sublist.filterMap _ (List.take_sublist 16 its)).subset h3
      rw [hI.k] at h4
      exact wok _ (List.mem_of_mem_take h4)
    · have ew:(rows (fun _ => none) its).1.map (·.1) = ws:=by
        rw [rows_k,hI.k]
        exact List.take_of_length_le (by omega)
      have ec:(rows (fun _ => none) its).2.map (·.1) = cs:=by
        rw [rows_f,hI.f]
        exact List.take_of_length_le (by omega)
      exact k11 _ H11 a wl cl t0 d0 e0 t1 d1 e1 fa dx f1 f2 g fs kv0 fv0 kv fv ka kb gk _ _ _ _ _ ws cs ns _ _ _ (NB.same s11) B w16 c16 ew ec (sql_same (s03.trans (s37.trans (sB.trans s11))) hS) h63 fun H2 => q H2
end
end K29
namespace PySem.W.Fast
def tw1771648405100118602:=()
def tw4745945980474969133:=()
def tw7594017667549821351:=()
def tw15328656784871948052:=()
def tw14538870939279130933:=()
def tw122585468175856696:=()
def tw3957642744281363705:=()
def tw13031764343885225061:=()
def tw5350319567405252319:=()
def tw4723790159673975883:=()
def tw17130603927610232369:=()
def tw4405921423779670027:=()
def tw13594401815634275616:=()
def tw16794965093948728240:=()
def tw13127140532807522468:=()
def tw15501901582201058392:=()
def tw3471584136231728279:=()
def tw8948809821115099099:=()
def tw11607333015404337191:=()
def tw1000861292305353014:=()
def tw2258329463293348215:=()
def tw14959219625646059906:=()
def tw9650935680498058640:=()
def tw2766787268790197774:=()
def tw6483905926119729692:=()
def tw11263878971260606076:=()
def tw3851609790808948886:=()
def tw4482760550881632200:=()
def tw7758569342340100399:=()
def tw5018657000837942887:=()
def tw17001685737815136276:=()
def tw9353907890870774245:=()
def tw8125173923010451329:=()
def tw464877875754868594:=()
def tw12849498351342222731:=()
def tw10041827890704064705:=()
def tw17251669793273184062:=()
def tw574258433353130345:=()
def tw2942959709762525133:=()
def tw5700580016403068374:=()
def tw17218467528725229114:=()
def tw4047305263902550301:=()
def tw13360890306897920791:=()
def tw12335112010021302947:=()
def tw15675962238234859321:=()
def tw7896459373514436640:=()
def tw8784569155798275694:=()
def tw15313675441669549419:=()
def tw3386417098662896999:=()
def tw16628869522413719349:=()
def tw7197918767884740962:=()
def tw5938676659049307847:=()
def tw15090493817232810829:=()
def tw3311562085801232347:=()
def tw10695769524718041976:=()
def tw6965333795380993526:=()
def tw2607500134849978224:=()
def tw10199920933443852569:=()
def tw5548576835558004732:=()
def tw1237783843613134102:=()
def tw5723521700588165946:=()
def tw10219886902911976560:=()
def tw17581487883234183391:=()
def tw13007087899964527646:=()
def tw15370221137639616330:=()
def tw15437182217598723278:=()
def tw1518978633613778061:=()
def tw11684457492612912842:=()
def tw5838615440560974983:=()
def tw16452858245298662382:=()
def tw17249145209912377417:=()
def tw297373108500851530:=()
end PySem.W.Fast
namespace L2
open PySem
theorem mem_look {α β:Type} [BEq α] [LawfulBEq α] {a:α} {b:β}:∀ {l:List (α × β)},l.lookup a = some b → (a,b) ∈ l
  | [],h => by cases h
  | p :: r,h => by
    obtain ⟨c,d⟩:=p
    rw [List.lookup_cons] at h
    by_cases e:(a == c) = true
    · rw [e] at h
      have h':d = b:=Option.some.inj h
      rw [eq_of_beq e,h']
      exact .head _
    · rw [Bool.not_eq_true] at e
      rw [e] at h
      exact .tail _ (mem_look h)
theorem walk_z {q:Program} {loose:List Str} {XP:(Str → Option Value) → Heap → Prop} {r:PySem.W.RowW} {d:DefRec} {kwd:List (Str × Expr)} {run:Value → List Value → Sem Value} {K:Params → PySem.W.Frag} {as:List Addr} {n t:Nat}
    (hl:∀ p:Params,as = (K p).map (·.1)) (h:PySem.W.WalkO q loose XP (fun w h => (K w.params).In h) r d kwd run):PySem.W.WalkX q loose XP (PySem.W.X.obsZ as) (PySem.W.X.valZ K n t) r d kwd run:=by
  intro w s₀ s₁ mg mb G y a o pm cd doc dV kV ho hd hcd hD hmg hg args vals as' L hpre hlay hrd hwl hlo
  refine h w s₀ s₁ mg mb G (fun b ob hb => ?_) a o pm cd doc dV kV ho hd hcd hD hmg hg args vals as' hpre hlay hrd hwl hlo
  have e1:as.map s₀.heap.get? = (K w.params).map fun p => some p.2:=congrArg Prod.fst y
  rw [hl w.params,List.map_map] at e1
  have e2:s₀.heap.get? b = some ob:=List.map_inj_left.mp e1 (b,ob) (mem_look hb)
  exact L.keeps b ob e2
end L2
namespace K29
open PySem L2 Kk
set_option maxHeartbeats 0 in
theorem all_mk {l:PySem.W.OpenLaw} {w:World} {K:PySem.W.Frag} {h:Heap} {mg:Str → Option Value} {fa f1 f2 f3 f4 f5 f6 f7 f8 f9 f10 f11 f12 f13 f14 f15 f16 f17 f18 f19 f20:Addr} (X:K.In h) (G:h.Ns mainGlobals mg) (hfa:mg "law" = some (.ref fa))
    {od1 an1 od2 an2 od3 an3 od4 an4 od5 an5 od6 an6 od7 an7 od8 an8 od9 an9 od10 an10 od11 an11 od12 an12 od13 an13 od14 an14 od15 an15 od16 an16 od17 an17 od18 an18 od19 an19 od20 an20:Option Addr} {sl1 sl2 sl3 sl4 sl5 sl6 sl7 sl8 sl9 sl10 sl11 sl12 sl13 sl14 sl15 sl16 sl17 sl18 sl19 sl20:Array (Option Value)} {oc1 kV1 dc1 pm1 cd1 ct1 oc2 kV2 dc2 pm2 cd2 ct2 oc3 kV3 dc3 pm3 cd3 ct3 oc4 kV4 dc4 pm4 cd4 ct4 oc5 kV5 dc5 pm5 cd5 ct5 oc6 kV6 dc6 pm6 cd6 ct6 oc7 kV7 dc7 pm7 cd7 ct7 oc8 kV8 dc8 pm8 cd8 ct8 oc9 kV9 dc9 pm9 cd9 ct9 oc10 kV10 dc10 pm10 cd10 ct10 oc11 kV11 dc11 pm11 cd11 ct11 oc12 kV12 dc12 pm12 cd12 ct12 oc13 kV13 dc13 pm13 cd13 ct13 oc14 kV14 dc14 pm14 cd14 ct14 oc15 kV15 dc15 pm15 cd15 ct15 oc16 kV16 dc16 pm16 cd16 ct16 oc17 kV17 dc17 pm17 cd17 ct17 oc18 kV18 dc18 pm18 cd18 ct18 oc19 kV19 dc19 pm19 cd19 ct19 oc20 kV20 dc20 pm20 cd20 ct20:Value}
    {CF CN CK CT CR T T1 T3 ff fn fm fi fj fh:Addr} {odf anf odn ann odm anm odi ani odj anj odh anh dT dT1 dT3:Option Addr} {slf sln slm sli slj slh sT sT1 sT3:Array (Option Value)} {ocf kVf dcf pmf cdf ctf ocn kVn dcn pmn cdn ctn ocm kVm dcm pmm cdm ctm oci kVi dci pmi cdi cti ocj kVj dcj pmj cdj ctj och kVh dch pmh cdh cth oT oT1 oT3:Value} {nT nT1 nT3:Nat} {tk tk1' tk3:Tok}
    (a1:PySem.W.nsIn K mainGlobals "words_in" = some (some (.ref f1))) (l1:K.lookup f1 = some ⟨oc1,od1,.func (PySem.W.fnOf "words_in" "words_in" (defArgs sWords) (defBody sWords) (defScope sWords) .none kV1 dc1 pm1 an1 cd1 ct1),sl1⟩) (c1:PySem.W.codeIn K cd1 "words_in" = true) (k1:PySem.W.keepIn K (.ref f1) = true)
    (a2:PySem.W.nsIn K mainGlobals "names_in" = some (some (.ref f2))) (l2:K.lookup f2 = some ⟨oc2,od2,.func (PySem.W.fnOf "names_in" "names_in" (defArgs sNames) (defBody sNames) (defScope sNames) .none kV2 dc2 pm2 an2 cd2 ct2),sl2⟩) (c2:PySem.W.codeIn K cd2 "names_in" = true) (k2:PySem.W.keepIn K (.ref f2) = true)
    (a3:PySem.W.nsIn K mainGlobals "put" = some (some (.ref f3))) (l3:K.lookup f3 = some ⟨oc3,od3,.func (PySem.W.fnOf "put" "put" (defArgs sPut) (defBody sPut) (defScope sPut) .none kV3 dc3 pm3 an3 cd3 ct3),sl3⟩) (c3:PySem.W.codeIn K cd3 "put" = true) (k3:PySem.W.keepIn K (.ref f3) = true)
    (a4:PySem.W.nsIn K mainGlobals "bounded" = some (some (.ref f4))) (l4:K.lookup f4 = some ⟨oc4,od4,.func (PySem.W.fnOf "bounded" "bounded" (defArgs sBounded) (defBody sBounded) (defScope sBounded) .none kV4 dc4 pm4 an4 cd4 ct4),sl4⟩) (c4:PySem.W.codeIn K cd4 "bounded" = true) (k4:PySem.W.keepIn K (.ref f4) = true)
    (a5:PySem.W.nsIn K mainGlobals "told_kind" = some (some (.ref f5))) (l5:K.lookup f5 = some ⟨oc5,od5,.func (PySem.W.fnOf "told_kind" "told_kind" (defArgs sToldKind) (defBody sToldKind) (defScope sToldKind) .none kV5 dc5 pm5 an5 cd5 ct5),sl5⟩) (c5:PySem.W.codeIn K cd5 "told_kind" = true) (k5:PySem.W.keepIn K (.ref f5) = true)
    (a6:PySem.W.nsIn K mainGlobals "own_name" = some (some (.ref f6))) (l6:K.lookup f6 = some ⟨oc6,od6,.func (PySem.W.fnOf "own_name" "own_name" (defArgs sOwn) (defBody sOwn) (defScope sOwn) .none kV6 dc6 pm6 an6 cd6 ct6),sl6⟩) (c6:PySem.W.codeIn K cd6 "own_name" = true) (k6:PySem.W.keepIn K (.ref f6) = true)
    (a7:PySem.W.nsIn K mainGlobals "put_in_face" = some (some (.ref f7))) (l7:K.lookup f7 = some ⟨oc7,od7,.func (PySem.W.fnOf "put_in_face" "put_in_face" (defArgs sPutFace) (defBody sPutFace) (defScope sPutFace) .none kV7 dc7 pm7 an7 cd7 ct7),sl7⟩) (c7:PySem.W.codeIn K cd7 "put_in_face" = true) (k7:PySem.W.keepIn K (.ref f7) = true)
    (a8:PySem.W.nsIn K mainGlobals "put_in_fun" = some (some (.ref f8))) (l8:K.lookup f8 = some ⟨oc8,od8,.func (PySem.W.fnOf "put_in_fun" "put_in_fun" (defArgs sPutFun) (defBody sPutFun) (defScope sPutFun) .none kV8 dc8 pm8 an8 cd8 ct8),sl8⟩) (c8:PySem.W.codeIn K cd8 "put_in_fun" = true) (k8:PySem.W.keepIn K (.ref f8) = true)
    (a9:PySem.W.nsIn K mainGlobals "face_of" = some (some (.ref f9))) (l9:K.lookup f9 = some ⟨oc9,od9,.func (PySem.W.fnOf "face_of" "face_of" (defArgs sFaceOf) (defBody sFaceOf) (defScope sFaceOf) .none kV9 dc9 pm9 an9 cd9 ct9),sl9⟩) (c9:PySem.W.codeIn K cd9 "face_of" = true) (k9:PySem.W.keepIn K (.ref f9) = true)
    (a10:PySem.W.nsIn K mainGlobals "least" = some (some (.ref f10))) (l10:K.lookup f10 = some ⟨oc10,od10,.func (PySem.W.fnOf "least" "least" (defArgs sLeast) (defBody sLeast) (defScope sLeast) .none kV10 dc10 pm10 an10 cd10 ct10),sl10⟩) (c10:PySem.W.codeIn K cd10 "least" = true) (k10:PySem.W.keepIn K (.ref f10) = true)
    (a11:PySem.W.nsIn K mainGlobals "_law_cell" = some (some (.ref f11))) (l11:K.lookup f11 = some ⟨oc11,od11,.func (PySem.W.fnOf "_law_cell" "_law_cell" (defArgs sCell) (defBody sCell) (defScope sCell) .none kV11 dc11 pm11 an11 cd11 ct11),sl11⟩) (c11:PySem.W.codeIn K cd11 "_law_cell" = true) (k11:PySem.W.keepIn K (.ref f11) = true)
    (a12:PySem.W.nsIn K mainGlobals "_law_word" = some (some (.ref f12))) (l12:K.lookup f12 = some ⟨oc12,od12,.func (PySem.W.fnOf "_law_word" "_law_word" (defArgs sWord) (defBody sWord) (defScope sWord) .none kV12 dc12 pm12 an12 cd12 ct12),sl12⟩) (c12:PySem.W.codeIn K cd12 "_law_word" = true) (k12:PySem.W.keepIn K (.ref f12) = true)
    (a13:PySem.W.nsIn K mainGlobals "_law_words" = some (some (.ref f13))) (l13:K.lookup f13 = some ⟨oc13,od13,.func (PySem.W.fnOf "_law_words" "_law_words" (defArgs sWordsL) (defBody sWordsL) (defScope sWordsL) .none kV13 dc13 pm13 an13 cd13 ct13),sl13⟩) (c13:PySem.W.codeIn K cd13 "_law_words" = true) (k13:PySem.W.keepIn K (.ref f13) = true)
    (a14:PySem.W.nsIn K mainGlobals "_law_items" = some (some (.ref f14))) (l14:K.lookup f14 = some ⟨oc14,od14,.func (PySem.W.fnOf "_law_items" "_law_items" (defArgs sItems) (defBody sItems) (defScope sItems) .none kV14 dc14 pm14 an14 cd14 ct14),sl14⟩) (c14:PySem.W.codeIn K cd14 "_law_items" = true) (k14:PySem.W.keepIn K (.ref f14) = true)
    (a15:PySem.W.nsIn K mainGlobals "_law_put" = some (some (.ref f15))) (l15:K.lookup f15 = some ⟨oc15,od15,.func (PySem.W.fnOf "_law_put" "_law_put" (defArgs sPutL) (defBody sPutL) (defScope sPutL) .none kV15 dc15 pm15 an15 cd15 ct15),sl15⟩) (c15:PySem.W.codeIn K cd15 "_law_put" = true) (k15:PySem.W.keepIn K (.ref f15) = true)
    (a16:PySem.W.nsIn K mainGlobals "_law_rows" = some (some (.ref f16))) (l16:K.lookup f16 = some ⟨oc16,od16,.func (PySem.W.fnOf "_law_rows" "_law_rows" (defArgs sRows) (defBody sRows) (defScope sRows) .none kV16 dc16 pm16 an16 cd16 ct16),sl16⟩) (c16:PySem.W.codeIn K cd16 "_law_rows" = true) (k16:PySem.W.keepIn K (.ref f16) = true)
    (a17:PySem.W.nsIn K mainGlobals "_law_least" = some (some (.ref f17))) (l17:K.lookup f17 = some ⟨oc17,od17,.func (PySem.W.fnOf "_law_least" "_law_least" (defArgs sLeastL) (defBody sLeastL) (defScope sLeastL) .none kV17 dc17 pm17 an17 cd17 ct17),sl17⟩) (c17:PySem.W.codeIn K cd17 "_law_least" = true) (k17:PySem.W.keepIn K (.ref f17) = true)
    (a18:PySem.W.nsIn K mainGlobals "_law_same" = some (some (.ref f18))) (l18:K.lookup f18 = some ⟨oc18,od18,.func (PySem.W.fnOf "_law_same" "_law_same" (defArgs sSame) (defBody sSame) (defScope sSame) .none kV18 dc18 pm18 an18 cd18 ct18),sl18⟩) (c18:PySem.W.codeIn K cd18 "_law_same" = true) (k18:PySem.W.keepIn K (.ref f18) = true)
    (a19:PySem.W.nsIn K mainGlobals "_law_refused" = some (some (.ref f19))) (l19:K.lookup f19 = some ⟨oc19,od19,.func (PySem.W.fnOf "_law_refused" "_law_refused" (defArgs sRefused) (defBody sRefused) (defScope sRefused) .none kV19 dc19 pm19 an19 cd19 ct19),sl19⟩) (c19:PySem.W.codeIn K cd19 "_law_refused" = true) (k19:PySem.W.keepIn K (.ref f19) = true)
    (a20:PySem.W.nsIn K mainGlobals "law" = some (some (.ref f20))) (l20:K.lookup f20 = some ⟨oc20,od20,.func (PySem.W.fnOf "law" "law" (defArgs sLaw) (defBody sLaw) (defScope sLaw) .none kV20 dc20 pm20 an20 cd20 ct20),sl20⟩) (c20:PySem.W.codeIn K cd20 "law" = true) (k20:PySem.W.keepIn K (.ref f20) = true)
    (aF:PySem.W.nsIn K mainGlobals "Face" = some (some (.ref CF)))
    (aN:PySem.W.nsIn K mainGlobals "NoFit" = some (some (.ref CN)))
    (aK:PySem.W.nsIn K mainGlobals "NoKind" = some (some (.ref CK)))
    (aT:PySem.W.nsIn K mainGlobals "TooBig" = some (some (.ref CT)))
    (aR:PySem.W.nsIn K mainGlobals "Refused" = some (some (.ref CR)))
    (af:PySem.W.nsIn K mainGlobals "fitted" = some (some (.ref ff)))
    (lf:K.lookup ff = some ⟨ocf,odf,.func (PySem.W.fnOf "fitted" "fitted" (defArgs sFitted) (defBody sFitted) (defScope sFitted) (.ref T) kVf dcf pmf anf cdf ctf),slf⟩)
    (cf:PySem.W.codeIn K cdf "fitted" = true)
    (kf:PySem.W.keepIn K (.ref ff) = true)
    (lT:K.lookup T = some ⟨oT,dT,.seq #[.str "" tk] nT,sT⟩)
    (an:PySem.W.nsIn K mainGlobals "normal" = some (some (.ref fn)))
    (ln:K.lookup fn = some ⟨ocn,odn,.func (PySem.W.fnOf "normal" "normal" (defArgs sNormal) (defBody sNormal) (defScope sNormal) (.ref T1) kVn dcn pmn ann cdn ctn),sln⟩)
    (cn:PySem.W.codeIn K cdn "normal" = true)
    (kn:PySem.W.keepIn K (.ref fn) = true)
    (lT1:K.lookup T1 = some ⟨oT1,dT1,.seq #[.int 40 tk1'] nT1,sT1⟩)
    (im:PySem.W.findIn K (.ref CF) "put" = some (some (.ref fm)))
    (lm:K.lookup fm = some ⟨ocm,odm,.func (PySem.W.fnOf "put" "Face.put" (defArgs sPutM) (defBody sPutM) (defScope sPutM) (.ref T3) kVm dcm pmm anm cdm ctm),slm⟩)
    (cm:PySem.W.codeIn K cdm "Face.put" = true)
    (km:PySem.W.keepIn K (.ref fm) = true)
    (tm:PySem.W.isFn K (.ref fm) = true)
    (lT3:K.lookup T3 = some ⟨oT3,dT3,.seq #[.int 40 tk3] nT3,sT3⟩)
    (ih:PySem.W.findIn K (.ref CF) "hidden" = some (some (.ref fh)))
    (lh:K.lookup fh = some ⟨och,odh,.func (PySem.W.fnOf "hidden" "Face.hidden" (defArgs sHidden) (defBody sHidden) (defScope sHidden) .none kVh dch pmh anh cdh cth),slh⟩)
    (ch:PySem.W.codeIn K cdh "Face.hidden" = true)
    (kh:PySem.W.keepIn K (.ref fh) = true)
    (th:PySem.W.isFn K (.ref fh) = true)
    (iF:PySem.W.findIn K (.ref CF) "__init__" = some (some (.ref fi)))
    (li:K.lookup fi = some ⟨oci,odi,.func (PySem.W.fnOf "__init__" "Face.__init__" (defArgs sInit) (defBody sInit) (defScope sInit) .none kVi dci pmi ani cdi cti),sli⟩)
    (ci:PySem.W.codeIn K cdi "Face.__init__" = true)
    (ki:PySem.W.keepIn K (.ref fi) = true)
    (tF:PySem.W.isFn K (.ref fi) = true)
    (mk:PySem.W.makesIn K CF = true)
    (kF:PySem.W.keepIn K (.ref CF) = true)
    (pg:PySem.W.plainGet K CF Str.empty = true)
    (hd:PySem.W.hasDictIn K CF = true)
    (po:PySem.W.plainOver K CF = true)
    (sa:PySem.W.findIn K (.ref CF) "__setattr__" = some (some (.builtin "object.__setattr__")))
    (nK:PySem.W.findIn K (.ref CF) "kinds" = some none)
    (nF:PySem.W.findIn K (.ref CF) "funs" = some none)
    (jF:PySem.W.findIn K (.ref CN) "__init__" = some (some (.ref fj)))
    (lj:K.lookup fj = some ⟨ocj,odj,.func (PySem.W.fnOf "__init__" "NoFit.__init__" (defArgs sInitN) (defBody sInitN) (defScope sInitN) .none kVj dcj pmj anj cdj ctj),slj⟩)
    (cj:PySem.W.codeIn K cdj "NoFit.__init__" = true)
    (kj:PySem.W.keepIn K (.ref fj) = true)
    (tj:PySem.W.typeIn K (.ref fj) = some (.type "function"))
    (xI:excInI K CN bmVE "ValueError.__new__" = true)
    (xK:PySem.W.excIn K CK bmVE "ValueError.__new__" = true)
    (xT:PySem.W.excIn K CT bmVE "ValueError.__new__" = true)
    (bg:PySem.W.specialIn K (.ref CR) "__getattribute__" = some (some (.builtin "type.__getattribute__")))
    (br:PySem.W.readsIn K CR (.type "type") = true)
    (bf:PySem.W.findCls K (.ref CR) (.type "type") "__init__" = some (.val (.builtin "ValueError.__init__")))
    (saN:PySem.W.findIn K (.ref CN) "__setattr__" = some (some (.builtin "object.__setattr__")))
    (poN:(PySem.W.clsIn K CN).any (fun cd => refPass cd.mro) = true)
    (hdN:PySem.W.hasDictIn K CN = true)
    (obN:PySem.W.mroIn K CN (.type "object") = some true)
    (x1:PySem.W.exmOne K (.ref CN) (.ref CN) = some true)
    (isN:(match K.lookup CN with | some ⟨_,_,.cls _,_⟩ => true | _ => false) = true)
    (gaN:PySem.W.findIn K (.ref CN) "__getattribute__" = some (some (.builtin "BaseException.__getattribute__")))
    (ghN:PySem.W.findIn K (.ref CN) "__getattr__" = some none)
    (clN:PySem.W.findIn K (.ref CN) "__class__" = some (some (.builtin "object.__class__")))
    (beN:PySem.W.mroIn K CN (.type "BaseException") = some true)
    (sp:PySem.W.specialIn K (.builtin "object.__class__") "__get__" = some (some (.builtin "getset_descriptor.__get__")))
    (tk1:PySem.W.takesIn K (.builtin "object.__class__") = some true)
    (t_part:PySem.W.takerIn K CN "part" = some none)
    (t_name:PySem.W.takerIn K CN "name" = some none)
    (f_name:PySem.W.findIn K (.ref CN) "name" = some none)
    (t_due:PySem.W.takerIn K CN "due" = some none)
    (f_due:PySem.W.findIn K (.ref CN) "due" = some none)
    (t_found:PySem.W.takerIn K CN "found" = some none)
    (f_found:PySem.W.findIn K (.ref CN) "found" = some none)
    (z1:PySem.W.nsIn K mainGlobals "len" = some none)
    (z2:PySem.W.nsIn K mainGlobals "list" = some none)
    (z3:PySem.W.nsIn K mainGlobals "range" = some none)
    (z4:PySem.W.nsIn K mainGlobals "dict" = some none)
    (z5:PySem.W.nsIn K mainGlobals "tuple" = some none)
    (z6:PySem.W.nsIn K mainGlobals "sorted" = some none) :
    ∃ fd:FuncData,(∀ (s:Shared) (v:Value),BindsTo s fd ⟨[v],[]⟩ [("_law_script",v)]) ∧ ∀ base:Heap,K.In base → base.Ns mainGlobals mg → FnOk l.prog w K mg base CX0 45 fa fd ["_law_script"] (spLaw K):=by
  have e:=hfa.symm.trans (PySem.W.mg_of X G a20)
  cases e
  have F1:=fun_mk (st:=sWords) l1 c1 k1
  have F2:=fun_mk (st:=sNames) l2 c2 k2
  have F3:=fun_mk (st:=sPut) l3 c3 k3
  have F4:=fun_mk (st:=sBounded) l4 c4 k4
  have F5:=fun_mk (st:=sToldKind) l5 c5 k5
  have F6:=fun_mk (st:=sOwn) l6 c6 k6
  have F7:=fun_mk (st:=sPutFace) l7 c7 k7
  have F8:=fun_mk (st:=sPutFun) l8 c8 k8
  have F9:=fun_mk (st:=sFaceOf) l9 c9 k9
  have F10:=fun_mk (st:=sLeast) l10 c10 k10
  have F11:=fun_mk (st:=sCell) l11 c11 k11
  have F12:=fun_mk (st:=sWord) l12 c12 k12
  have F13:=fun_mk (st:=sWordsL) l13 c13 k13
  have F14:=fun_mk (st:=sItems) l14 c14 k14
  have F15:=fun_mk (st:=sPutL) l15 c15 k15
  have F16:=fun_mk (st:=sRows) l16 c16 k16
  have F17:=fun_mk (st:=sLeastL) l17 c17 k17
  have F18:=fun_mk (st:=sSame) l18 c18 k18
  have F19:=fun_mk (st:=sRefused) l19 c19 k19
  have F20:=fun_mk (st:=sLaw) l20 c20 k20
  have b1:=F1.binds (ps:=["kind"]) fun _ _ _ _ _ _ us hl => match us,hl with | [_],_ => rfl
  have b2:=F2.binds (ps:=["kind"]) fun _ _ _ _ _ _ us hl => match us,hl with | [_],_ => rfl
  have b3:=F3.binds (ps:=["kind","given"]) fun _ _ _ _ _ _ us hl => match us,hl with | [_,_],_ => rfl
  have b4:=F4.binds (ps:=["kind","most"]) fun _ _ _ _ _ _ us hl => match us,hl with | [_,_],_ => rfl
  have b5:=F5.binds (ps:=["part","word","own","parts"]) fun _ _ _ _ _ _ us hl => match us,hl with | [_,_,_,_],_ => rfl
  have b6:=F6.binds (ps:=["word"]) fun _ _ _ _ _ _ us hl => match us,hl with | [_],_ => rfl
  have b7:=F7.binds (ps:=["face","given"]) fun _ _ _ _ _ _ us hl => match us,hl with | [_,_],_ => rfl
  have b8:=F8.binds (ps:=["fun","given"]) fun _ _ _ _ _ _ us hl => match us,hl with | [_,_],_ => rfl
  have b9:=F9.binds (ps:=["items","parts"]) fun _ _ _ _ _ _ us hl => match us,hl with | [_,_],_ => rfl
  have b10:=F10.binds (ps:=["face"]) fun _ _ _ _ _ _ us hl => match us,hl with | [_],_ => rfl
  have b11:=F11.binds (ps:=["_law_script","_law_k"]) fun _ _ _ _ _ _ us hl => match us,hl with | [_,_],_ => rfl
  have b12:=F12.binds (ps:=["_law_cell_here"]) fun _ _ _ _ _ _ us hl => match us,hl with | [_],_ => rfl
  have b13:=F13.binds (ps:=["_law_script","_law_start","_law_many"]) fun _ _ _ _ _ _ us hl => match us,hl with | [_,_,_],_ => rfl
  have b14:=F14.binds (ps:=["_law_script","_law_words_here","_law_calls"]) fun _ _ _ _ _ _ us hl => match us,hl with | [_,_,_],_ => rfl
  have b15:=F15.binds (ps:=["_law_kind","_law_given"]) fun _ _ _ _ _ _ us hl => match us,hl with | [_,_],_ => rfl
  have b16:=F16.binds (ps:=["_law_items_here","_law_first"]) fun _ _ _ _ _ _ us hl => match us,hl with | [_,_],_ => rfl
  have b17:=F17.binds (ps:=["_law_kinds","_law_funs"]) fun _ _ _ _ _ _ us hl => match us,hl with | [_,_],_ => rfl
  have b18:=F18.binds (ps:=["_law_face","_law_rows_here"]) fun _ _ _ _ _ _ us hl => match us,hl with | [_,_],_ => rfl
  have b19:=F19.binds (ps:=["_law_had","_law_sought"]) fun _ _ _ _ _ _ us hl => match us,hl with | [_,_],_ => rfl
  refine ⟨PySem.W.fnOf "law" "law" (defArgs sLaw) (defBody sLaw) (defScope sLaw) .none kV20 dc20 pm20 an20 cd20 ct20,fun s v => .of_eq rfl,fun base _ _ => ?_⟩
  have FF:FunD K "fitted" "fitted" sFitted (.ref T) ff (PySem.W.fnOf "fitted" "fitted" (defArgs sFitted) (defBody sFitted) (defScope sFitted) (.ref T) kVf dcf pmf anf cdf ctf):=⟨⟨ocf,odf,kVf,dcf,pmf,anf,cdf,ctf,slf,rfl,lf,cf⟩,kf⟩
  have FNo:FunD K "normal" "normal" sNormal (.ref T1) fn (PySem.W.fnOf "normal" "normal" (defArgs sNormal) (defBody sNormal) (defScope sNormal) (.ref T1) kVn dcn pmn ann cdn ctn):=⟨⟨ocn,odn,kVn,dcn,pmn,ann,cdn,ctn,sln,rfl,ln,cn⟩,kn⟩
  have FM:FunD K "put" "Face.put" sPutM (.ref T3) fm (PySem.W.fnOf "put" "Face.put" (defArgs sPutM) (defBody sPutM) (defScope sPutM) (.ref T3) kVm dcm pmm anm cdm ctm):=⟨⟨ocm,odm,kVm,dcm,pmm,anm,cdm,ctm,slm,rfl,lm,cm⟩,km⟩
  have Fi:=fun_mk (st:=sInit) li ci ki
  have bI:=Fi.binds (ps:=["self","kinds","funs"]) fun _ _ _ _ _ _ us hl => match us,hl with | [_,_,_],_ => rfl
  have Fh:=fun_mk (st:=sHidden) lh ch kh
  have bH:=Fh.binds (ps:=["self"]) fun _ _ _ _ _ _ us hl => match us,hl with | [_],_ => rfl
  have Fj:=fun_mk (st:=sInitN) lj cj kj
  have bJ:=Fj.binds (ps:=["self","part","name","due","found"]) fun _ _ _ _ _ _ us hl => match us,hl with | [_,_,_,_,_],_ => rfl
  have MF:Mk K CF fi:=⟨mk,iF,tF,kF⟩
  have MH:Meth K CF "hidden" fh:=⟨ih,th,kh⟩
  have MM:Meth K CF "put" fm:=⟨im,tm,km⟩
  have cF:Cls K CF:=⟨pg,hd,po,sa⟩
  have MX:MkX K CN fj:=⟨xI,jF,tj⟩
  have BR:BaseI K CR:=⟨bg,br,bf⟩
  have XS:ExcSet K CN:=⟨saN,poN,hdN,obN⟩
  have cN:ExcCls K CN:=⟨isN,gaN,ghN,clN,sp,tk1,obN,beN⟩
  have GWi:=ok_words (P:=l.prog) (w:=w) (base:=base) (mg:=mg) F1 (PySem.W.mg_none_of X G z1)
  have GNa:=ok_names (P:=l.prog) (w:=w) (base:=base) (mg:=mg) F2 (PySem.W.mg_none_of X G z1) (PySem.W.mg_none_of X G z2)
  have GP:=ok_put (P:=l.prog) (w:=w) (base:=base) (mg:=mg) F3 b3 k3 (PySem.W.mg_of X G a3) 20
  have GP4:=ok_put (P:=l.prog) (w:=w) (base:=base) (mg:=mg) F3 b3 k3 (PySem.W.mg_of X G a3) 40
  have GB:=ok_bounded (P:=l.prog) (w:=w) (base:=base) (mg:=mg) F4 GWi b1 k1 (PySem.W.mg_of X G a1) (PySem.W.mg_of X G aT) xT
  have GTK:=ok_toldKind (P:=l.prog) (w:=w) (base:=base) (mg:=mg) F5 cF nK (PySem.W.mg_of X G aK) xK
  have GNo:=ok_normal (P:=l.prog) (w:=w) (base:=base) (mg:=mg) FNo GNa b2 k2 (PySem.W.mg_of X G a2) GP4 b3 k3 (PySem.W.mg_of X G a3) GB b4 k4 (PySem.W.mg_of X G a4) GTK b5 k5 (PySem.W.mg_of X G a5)
  have GO:=ok_own (P:=l.prog) (w:=w) (base:=base) (mg:=mg) F6
  have GPF:=ok_putFun (P:=l.prog) (w:=w) (base:=base) (mg:=mg) F8 GP b3 k3 (PySem.W.mg_of X G a3) (PySem.W.mg_none_of X G z5)
  have GI:=ok_initF (P:=l.prog) (w:=w) (base:=base) (mg:=mg) Fi cF nK nF (PySem.W.mg_none_of X G z4)
  have GFa:=ok_putFace (P:=l.prog) (w:=w) (base:=base) (mg:=mg) F7 GP b3 k3 (PySem.W.mg_of X G a3) GPF b8 k8 (PySem.W.mg_of X G a8) GI bI MF (PySem.W.mg_of X G aF) cF nK nF
  have GJ:=ok_initN (P:=l.prog) (w:=w) (base:=base) (mg:=mg) Fj (PySem.W.mg_of X G aR) BR xI XS t_part t_name t_due t_found
  have GH:=ok_hidden (P:=l.prog) (w:=w) (base:=base) (mg:=mg) Fh GO b6 k6 (PySem.W.mg_of X G a6) cF nK
  have GFi:=ok_fitted (P:=l.prog) (w:=w) (base:=base) (mg:=mg) FF GP b3 k3 (PySem.W.mg_of X G a3) GPF b8 k8 (PySem.W.mg_of X G a8) MH GH bH MX GJ bJ (PySem.W.mg_of X G aN) cF nK nF
  have GM:=ok_putM (P:=l.prog) (w:=w) (base:=base) (mg:=mg) FM GFa b7 k7 (PySem.W.mg_of X G a7) GB b4 k4 (PySem.W.mg_of X G a4) cF nK nF
  have GA:=ok_faceOf (P:=l.prog) (w:=w) (base:=base) (mg:=mg) F9 FNo lT1 GNo kn (PySem.W.mg_of X G an) GO b6 k6 (PySem.W.mg_of X G a6) GI bI MF (PySem.W.mg_of X G aF) (PySem.W.mg_none_of X G z5)
  have GE:=ok_least (P:=l.prog) (w:=w) (base:=base) (mg:=mg) F10 GP b3 k3 (PySem.W.mg_of X G a3) GPF b8 k8 (PySem.W.mg_of X G a8) GO b6 k6 (PySem.W.mg_of X G a6) (PySem.W.mg_none_of X G z6) (PySem.W.mg_none_of X G z5) cF nK nF
  have GC:=ok_cell (P:=l.prog) (w:=w) (base:=base) (mg:=mg) F11 (PySem.W.mg_none_of X G z1)
  have GW:=ok_wordF (P:=l.prog) (w:=w) (base:=base) (mg:=mg) F12
  have GL:=ok_wordsL (P:=l.prog) (w:=w) (base:=base) (mg:=mg) F13 GC b11 k11 (PySem.W.mg_of X G a11) GW b12 k12 (PySem.W.mg_of X G a12) (PySem.W.mg_none_of X G z3)
  have GT:=ok_items (P:=l.prog) (w:=w) (base:=base) (mg:=mg) F14 GC b11 k11 (PySem.W.mg_of X G a11) (PySem.W.mg_none_of X G z3) (PySem.W.mg_none_of X G z5)
  have GPL:=ok_putL (P:=l.prog) (w:=w) (base:=base) (mg:=mg) F15 b15 k15 (PySem.W.mg_of X G a15) 20
  have GRo:=ok_rows (P:=l.prog) (w:=w) (base:=base) (mg:=mg) (by decide) F16 GPL b15 k15 (PySem.W.mg_of X G a15) (PySem.W.mg_none_of X G z5)
  have GG:=ok_leastL (P:=l.prog) (w:=w) (base:=base) (mg:=mg) F17 GPL b15 k15 (PySem.W.mg_of X G a15) (PySem.W.mg_none_of X G z6) (PySem.W.mg_none_of X G z5)
  have GS:=ok_same (P:=l.prog) (w:=w) (base:=base) (mg:=mg) F18 (PySem.W.mg_none_of X G z2) cF nK nF
  have GR:=ok_refused (P:=l.prog) (w:=w) (base:=base) (mg:=mg) F19 FF lT GFi kf (PySem.W.mg_of X G af) (PySem.W.mg_of X G aN) cN hdN f_name f_due f_found x1
  exact ok_law F20 GI bI MF (PySem.W.mg_of X G aF) cF FF lT GFi kf (PySem.W.mg_of X G af) GS b18 k18 (PySem.W.mg_of X G a18) FM lT3 GM MM GE b10 k10 (PySem.W.mg_of X G a10) GG b17 k17 (PySem.W.mg_of X G a17) GR b19 k19 (PySem.W.mg_of X G a19) GC b11 k11 (PySem.W.mg_of X G a11) GL b13 k13 (PySem.W.mg_of X G a13) GT b14 k14 (PySem.W.mg_of X G a14) GRo b16 k16 (PySem.W.mg_of X G a16) GA b9 k9 (PySem.W.mg_of X G a9) (PySem.W.mg_none_of X G z4) (PySem.W.mg_none_of X G z2) (PySem.W.mg_none_of X G z3) (PySem.W.mg_none_of X G z5)
theorem walk {l:PySem.W.OpenLaw} {q:Program} {loose:List Str} {XP:(Str → Option Value) → Heap → Prop} {YP:World → Heap → Prop} {d:DefRec} {K:Params → PySem.W.Frag} (hn:l.most = some 63) (hdf:d.params.defaults = [])
    (hY:∀ (w:World) (h:Heap),YP w h → (K w.params).In h)
    (F:∀ (w:World) (mg:Str → Option Value) (fa:Addr) (h:Heap),(K w.params).In h → h.Ns mainGlobals mg → mg d.name = some (.ref fa) →
      ∃ fd:FuncData,(∀ (s:Shared) (u:Value),BindsTo s fd ⟨[u],[]⟩ [("_law_script",u)]) ∧ ∀ base:Heap,(K w.params).In base → base.Ns mainGlobals mg → FnOk l.prog w (K w.params) mg base CX0 45 fa fd ["_law_script"] (spLaw (K w.params))) :
    PySem.W.WalkO q loose XP YP l.row.toRowW d [] (fun f vs => PySem.call f vs) :=
  L2.walk_of (n:=63) (k:=45) (x:="_law_script") (CX:=fun _ => CX0) (sp:=fun w => spLaw (K w.params)) hn (by decide) hdf ⟨rfl,by decide,by decide,rfl⟩ hY F (fun _ _ a ns hl _ hS => ⟨a,ns,rfl,hS,hl,fun _ => rfl⟩) fun _ _ _ _ _ z => z
end K29
open PySem PySem.W PyProof.Rows
set_option maxRecDepth 100000 in
set_option maxHeartbeats 0 in
theorem PySem.Challenge.cw_sealhouse_k29_faces_of_sixteen_holds : PySem.Challenge.rw_sealhouse_k29_faces_of_sixteen.Holds := by
  w_on; o_law; z_head; (case hw => w_witness2)
  k_fill
  refine L2.walk_z (fun _ => rfl) ?_
  refine K29.walk (l:=PySem.Challenge.rw_sealhouse_k29_faces_of_sixteen) rfl rfl (fun w h Y => Y) ?F
  case F =>
    intro w mg fa h KX G hmg
    refine' K29.all_mk KX G hmg ?a1 ?l1 ?c1 ?k1 ?a2 ?l2 ?c2 ?k2 ?a3 ?l3 ?c3 ?k3 ?a4 ?l4 ?c4 ?k4 ?a5 ?l5 ?c5 ?k5 ?a6 ?l6 ?c6 ?k6 ?a7 ?l7 ?c7 ?k7 ?a8 ?l8 ?c8 ?k8 ?a9 ?l9 ?c9 ?k9 ?a10 ?l10 ?c10 ?k10 ?a11 ?l11 ?c11 ?k11 ?a12 ?l12 ?c12 ?k12 ?a13 ?l13 ?c13 ?k13 ?a14 ?l14 ?c14 ?k14 ?a15 ?l15 ?c15 ?k15 ?a16 ?l16 ?c16 ?k16 ?a17 ?l17 ?c17 ?k17 ?a18 ?l18 ?c18 ?k18 ?a19 ?l19 ?c19 ?k19 ?a20 ?l20 ?c20 ?k20 ?aF ?aN ?aK ?aT ?aR ?af ?lf ?cf ?kf ?lT ?an ?ln ?cn ?kn ?lT1 ?im ?lm ?cm ?km ?tm ?lT3 ?ih ?lh ?ch ?kh ?th ?iF ?li ?ci ?ki ?tF ?mk ?kF ?pg ?hd ?po ?sa ?nK ?nF ?jF ?lj ?cj ?kj ?tj ?xI ?xK ?xT ?bg ?br ?bf ?saN ?poN ?hdN ?obN ?x1 ?isN ?gaN ?ghN ?clN ?beN ?sp ?tk1 ?t_part ?t_name ?f_name ?t_due ?f_due ?t_found ?f_found ?z1 ?z2 ?z3 ?z4 ?z5 ?z6
    (case a1 => k_is)
    (case l1 => k_is)
    (case c1 => k_is)
    (case k1 => k_is)
    (case a2 => k_is)
    (case l2 => k_is)
    (case c2 => k_is)
    (case k2 => k_is)
    (case a3 => k_is)
    (case l3 => k_is)
    (case c3 => k_is)
    (case k3 => k_is)
    (case a4 => k_is)
    (case l4 => k_is)
    (case c4 => k_is)
    (case k4 => k_is)
    (case a5 => k_is)
    (case l5 => k_is)
    (case c5 => k_is)
    (case k5 => k_is)
    (case a6 => k_is)
    (case l6 => k_is)
    (case c6 => k_is)
    (case k6 => k_is)
    (case a7 => k_is)
    (case l7 => k_is)
    (case c7 => k_is)
    (case k7 => k_is)
    (case a8 => k_is)
    (case l8 => k_is)
    (case c8 => k_is)
    (case k8 => k_is)
    (case a9 => k_is)
    (case l9 => k_is)
    (case c9 => k_is)
    (case k9 => k_is)
    (case a10 => k_is)
    (case l10 => k_is)
    (case c10 => k_is)
    (case k10 => k_is)
    (case a11 => k_is)
    (case l11 => k_is)
    (case c11 => k_is)
    (case k11 => k_is)
    (case a12 => k_is)
    (case l12 => k_is)
    (case c12 => k_is)
    (case k12 => k_is)
    (case a13 => k_is)
    (case l13 => k_is)
    (case c13 => k_is)
    (case k13 => k_is)
    (case a14 => k_is)
    (case l14 => k_is)
    (case c14 => k_is)
    (case k14 => k_is)
    (case a15 => k_is)
    (case l15 => k_is)
    (case c15 => k_is)
    (case k15 => k_is)
    (case a16 => k_is)
    (case l16 => k_is)
    (case c16 => k_is)
    (case k16 => k_is)
    (case a17 => k_is)
    (case l17 => k_is)
    (case c17 => k_is)
    (case k17 => k_is)
    (case a18 => k_is)
    (case l18 => k_is)
    (case c18 => k_is)
    (case k18 => k_is)
    (case a19 => k_is)
    (case l19 => k_is)
    (case c19 => k_is)
    (case k19 => k_is)
    (case a20 => k_is)
    (case l20 => k_is)
    (case c20 => k_is)
    (case k20 => k_is)
    (case aF => k_is)
    (case aN => k_is)
    (case aK => k_is)
    (case aT => k_is)
    (case aR => k_is)
    (case af => k_is)
    (case lf => k_is)
    (case cf => k_is)
    (case kf => k_is)
    (case lT => k_is)
    (case an => k_is)
    (case ln => k_is)
    (case cn => k_is)
    (case kn => k_is)
    (case lT1 => k_is)
    (case im => k_is)
    (case lm => k_is)
    (case cm => k_is)
    (case km => k_is)
    (case tm => k_is)
    (case lT3 => k_is)
    (case ih => k_is)
    (case lh => k_is)
    (case ch => k_is)
    (case kh => k_is)
    (case th => k_is)
    (case iF => k_is)
    (case li => k_is)
    (case ci => k_is)
    (case ki => k_is)
    (case tF => k_is)
    (case mk => k_is)
    (case kF => k_is)
    (case pg => k_is)
    (case hd => k_is)
    (case po => k_is)
    (case sa => k_is)
    (case nK => k_is)
    (case nF => k_is)
    (case jF => k_is)
    (case lj => k_is)
    (case cj => k_is)
    (case kj => k_is)
    (case tj => k_is)
    (case xI => with_unfolding_all exact rfl)
    (case xK => with_unfolding_all exact rfl)
    (case xT => with_unfolding_all exact rfl)
    (case bg => k_is)
    (case br => k_is)
    (case bf => k_is)
    (case saN => k_is)
    (case poN => exact rfl)
    (case hdN => k_is)
    (case obN => k_is)
    (case x1 => exact rfl)
    (case isN => exact rfl)
    (case gaN => k_is)
    (case ghN => k_is)
    (case clN => k_is)
    (case beN => k_is)
    (case sp => k_is)
    (case tk1 => k_is)
    (case t_part => k_is)
    (case t_name => k_is)
    (case f_name => k_is)
    (case t_due => k_is)
    (case f_due => k_is)
    (case t_found => k_is)
    (case f_found => k_is)
    (case z1 => k_is)
    (case z2 => k_is)
    (case z3 => k_is)
    (case z4 => k_is)
    (case z5 => k_is)
    (case z6 => k_is)
#print axioms PySem.Challenge.cw_sealhouse_k29_faces_of_sixteen_holds
