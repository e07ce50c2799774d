import PyProof.Rows.All
import Wide.All
import OpenK.AllK
import Wide.FinOn
import Lean
import PyProof.EqAt
import PyProof.EqKinds
import PyProof.TupleCall
import PySem.Challenge.RW_sealhouse_k18_no_kind_no_expression
noncomputable section
set_option Elab.async false
set_option linter.all false
set_option maxRecDepth 100000
namespace L2
open PySem PySem.Spec PyProof.Rows
noncomputable abbrev Key:=Sum Int Str
noncomputable def keyIs:Key → Value → Bool
  | .inl k,v => Value.isInt k v
  | .inr x,v => Value.isStrOf x v
noncomputable def keyH (w:World):Key → Int
  | .inl k => hashInt k
  | .inr x => hashStr w x
theorem keyIs_shape:∀ {k:Key} {v:Value},keyIs k v = true → (∃ i t,k = Sum.inl i ∧ v = Value.int i t) ∨ (∃ x t,k = Sum.inr x ∧ v = Value.str x t)
  | .inl i,v,h => by
    obtain ⟨t,e⟩:=Value.isInt_shape (k:=i) (v:=v) h
    exact .inl ⟨i,t,rfl,e⟩
  | .inr x,v,h => by
    obtain ⟨t,e⟩:=Value.isStrOf_shape (x:=x) (v:=v) h
    exact .inr ⟨x,t,rfl,e⟩
theorem keyIs_int (i:Int) (t:Tok):keyIs (.inl i) (.int i t) = true:=by simp [keyIs,Value.isInt]
theorem keyIs_str (x:Str) (t:Tok):keyIs (.inr x) (.str x t) = true:=by simp [keyIs,Value.isStrOf]
theorem key_ll (a b:Int):decide ((Sum.inl a:Key) = Sum.inl b) = (a == b):=by
  by_cases e:a = b
  · subst e; simp
  · have h:¬ (Sum.inl a:Key) = Sum.inl b:=fun q => e (Sum.inl.inj q)
    rw [decide_eq_false h]
    exact (beq_eq_false_iff_ne.mpr e).symm
theorem key_rr (a b:Str):decide ((Sum.inr a:Key) = Sum.inr b) = decide (a = b):=by
  by_cases e:a = b
  · subst e; simp
  · have h:¬ (Sum.inr a:Key) = Sum.inr b:=fun q => e (Sum.inr.inj q)
    rw [decide_eq_false h,decide_eq_false e]
theorem key_lr (a:Int) (b:Str):decide ((Sum.inl a:Key) = Sum.inr b) = false:=decide_eq_false (fun q => nomatch q)
theorem key_rl (a:Str) (b:Int):decide ((Sum.inr a:Key) = Sum.inl b) = false:=decide_eq_false (fun q => nomatch q)
noncomputable def mixKind (prog:Program) (w:World):PySem.KeyKind prog w Key where
  is:=keyIs
  hash:=keyH w
  inj:=fun v a b ha hb => by
    rcases keyIs_shape ha with ⟨i,t,rfl,rfl⟩ | ⟨x,t,rfl,rfl⟩
    · rcases keyIs_shape hb with ⟨j,u,rfl,e⟩ | ⟨y,u,rfl,e⟩
      · injection e with e1 _; rw [e1]
      · exact nomatch e
    · rcases keyIs_shape hb with ⟨j,u,rfl,e⟩ | ⟨y,u,rfl,e⟩
      · exact nomatch e
      · injection e with e1 _; rw [e1]
  byValue:=fun k v h => by
    rcases keyIs_shape h with ⟨i,t,rfl,rfl⟩ | ⟨x,t,rfl,rfl⟩ <;> rfl
  pyHash:=fun hv h => by
    rcases keyIs_shape hv with ⟨i,t,rfl,rfl⟩ | ⟨x,t,rfl,rfl⟩
    · exact wpAny_pyHash_int h
    · exact wpAny_pyHash_str h
  eqBool:=fun hu hv h => by
    rcases keyIs_shape hu with ⟨i,t,rfl,rfl⟩ | ⟨x,t,rfl,rfl⟩
    · rcases keyIs_shape hv with ⟨j,u,rfl,rfl⟩ | ⟨y,u,rfl,rfl⟩
      · rw [key_ll] at h; exact wpAny_eqBool_int h
      · rw [key_lr] at h; exact SeqAt.EqAt.int_str i t y u _ _ _ _ h
    · rcases keyIs_shape hv with ⟨j,u,rfl,rfl⟩ | ⟨y,u,rfl,rfl⟩
      · rw [key_rl] at h; exact SeqAt.EqAt.str_int x t j u _ _ _ _ h
      · rw [key_rr] at h; exact wpAny_eqBool_str h
  «strs»:=fun k x t v h => by
    rcases keyIs_shape h with ⟨i,u,rfl,e⟩ | ⟨y,u,rfl,e⟩
    · exact nomatch e
    · injection e with e1 _
      subst e1
      cases v <;> rfl
theorem mixKind_int (prog:Program) (w:World) (i:Int) (t:Tok):(mixKind prog w).is (.inl i) (.int i t) = true:=keyIs_int i t
theorem mixKind_str (prog:Program) (w:World) (x:Str) (t:Tok):(mixKind prog w).is (.inr x) (.str x t) = true:=keyIs_str x t
end L2
namespace L2
open PySem PySem.Spec PyProof.Rows
inductive V where
  | non | bl (b:Bool) | int (i:Int) | str (x:Str) | byt (b:Array UInt8) | flt (b:UInt64) | ref (a:Addr) | ty (n:String)
  deriving DecidableEq
noncomputable def RelV:V → Value → Prop
  | .non,u => u = Value.none
  | .bl b,u => u = Value.bool b
  | .int i,u => ∃ t,u = Value.int i t
  | .str x,u => ∃ t,u = Value.str x t
  | .byt b,u => ∃ t,u = Value.bytes b t
  | .flt b,u => ∃ t,u = Value.float b t
  | .ref a,u => u = Value.ref a
  | .ty n,u => u = Value.type n
noncomputable abbrev Vals:List V → List Value → Prop:=Paired RelV
theorem Vals.length {xs:List V} {us:List Value} (r:Vals xs us):xs.length = us.length:=Paired.length r
theorem Vals.get:∀ {xs:List V} {us:List Value} {i:Nat} {x:V},Vals xs us → xs[i]? = some x → ∃ u,us[i]? = some u ∧ RelV x u
  | _,_,_,_,.nil,e => by simp at e
  | _,_,0,_,.cons r _,e => by simp at e; subst e; exact ⟨_,rfl,r⟩
  | _,_,i + 1,x,.cons _ t,e => by
    obtain ⟨u,h1,h2⟩:=Vals.get (i:=i) (x:=x) t (by simpa using e)
    exact ⟨u,by simpa using h1,h2⟩
theorem Vals.append:∀ {xs ys:List V} {us ws:List Value},Vals xs us → Vals ys ws → Vals (xs ++ ys) (us ++ ws)
  | _,_,_,_,.nil,s => s
  | _,_,_,_,.cons r t,s => .cons r (Vals.append t s)
theorem Vals.take:∀ {xs:List V} {us:List Value} (n:Nat),Vals xs us → Vals (xs.take n) (us.take n)
  | _,_,0,_ => .nil
  | _,_,_ + 1,.nil => .nil
  | _,_,n + 1,.cons r t => .cons r (Vals.take n t)
theorem Vals.drop:∀ {xs:List V} {us:List Value} (n:Nat),Vals xs us → Vals (xs.drop n) (us.drop n)
  | _,_,0,r => r
  | _,_,_ + 1,.nil => .nil
  | _,_,n + 1,.cons _ t => Vals.drop n t
noncomputable def RelO:Option V → Option Value → Prop
  | some v,some u => RelV v u
  | none,none => True
  | _,_ => False
noncomputable def KV {κ:Type}:List (κ × V) → List (κ × Value) → Prop:=Paired fun (p:κ × V) (q:κ × Value) => p.1 = q.1 ∧ RelV p.2 q.2
noncomputable def kV:Key → V
  | .inl i => .int i
  | .inr x => .str x
inductive HO where
  | lst (xs:List V)
  | tup (xs:List V)
  | dK (kvs:List (Key × V)) | dT (kvs:List (List Key × V))
  | set (S:Int → Bool) (n:Nat)
  | ins (C dx:Addr) (fs:List (Str × V))
  | own (x:Addr)
  | xd (fs:List (Str × V))
  | met (f x:Addr)
  | rng (lo hi:Int)
  | frz (o:Obj) (u:HO)
  | tbl (ps:Array Value)
  | ext (φ:Heap → Prop)
noncomputable abbrev Hp:=Addr → Option HO
noncomputable def upd (H:Hp) (a:Addr) (o:HO):Hp:=fun b => if b = a then some o else H b
theorem upd_same {H:Hp} {a:Addr} {o:HO}:upd H a o a = some o:=by unfold upd; rw [if_pos rfl]
theorem upd_ne {H:Hp} {a b:Addr} {o:HO} (h:b ≠ a):upd H a o b = H b:=by unfold upd; rw [if_neg h]
theorem ne_of_none {H:Hp} {a b:Addr} {o:HO} (h:H a = some o) (h':H b = none):a ≠ b:=by
  intro e; subst e; rw [h] at h'; cases h'
section
variable (P:Program) (w:World)
noncomputable def ObjOk (H:Hp) (h:Heap) (a:Addr):HO → Prop
  | .lst xs => xs.length ≤ sizeLine ∧ ∃ (its:List Value) (n:Nat),Vals xs its ∧ h.get? a = some { cls:=.type "list",data:=.seq its.toArray n }
  | .tup xs => xs.length ≤ sizeLine ∧ ∃ its:List Value,Vals xs its ∧ IsTup h a its.toArray
  | .dK kvs => kvs.length ≤ sizeLine ∧ (a == sysModules) = false ∧ ∃ vs,KV kvs vs ∧ h.DictOf (mixKind P w) a vs
  | .dT kvs => kvs.length ≤ sizeLine ∧ (a == sysModules) = false ∧ ∃ xs:List (List Key × Addr × Value),
      Paired (fun (p:List Key × V) (q:List Key × Addr × Value) => p.1 = q.1 ∧ H q.2.1 = some (.tup (p.1.map kV)) ∧ RelV p.2 q.2.2) kvs xs ∧
      ∃ o es ep,h.get? a = some o ∧ o.ExactDict ∧ o.data = .dict es ep ∧ es.toList = xs.map (entryOfKey (tupleKind (mixKind P w))) ∧ (xs.map (·.1)).Nodup
  | .set S n => h.SetOf (intKind P w) a S n
  | .ins C dx fs => H dx = some (.own a) ∧ fs.length ≤ 1000 ∧ dx ≠ a ∧ h.get? a = some (PySem.W.instObj C dx) ∧
      ∃ mA,h.Ns1 dx mA ∧ (∀ f,RelO (fs.lookup f) (mA f)) ∧ PySem.Within mA (fs.map (·.1))
  | .own _ => ∃ o,h.get? a = some o
  | .xd fs => ∃ mA,h.Ns1 a mA ∧ ∀ f,RelO (fs.lookup f) (mA f)
  | .rng lo hi => ∃ t u v,h.get? a = some { cls:=.type "range",data:=.fields #[.int lo t,.int hi u,.int 1 v] }
  | .frz o u => h.get? a = some o ∧ ObjOk H h a u
  | .tbl ps => h.get? a = some { cls:=.none,data:=.fields ps }
  | .met f x => h.get? a = some (PySem.W.methodObj (.ref f) (.ref x))
  | .ext φ => φ h ∧ (∃ o,h.get? a = some o) ∧ ∀ h1 h2:Heap,φ h1 → (∀ o,h1.get? a = some o → h2.get? a = some o) → φ h2
noncomputable def HOk (H:Hp) (h:Heap):Prop:=∀ a o,H a = some o → ObjOk P w H h a o
end
section
variable {P:Program} {w:World} {H H':Hp} {h h':Heap} {a:Addr} {o:HO}
theorem ObjOk.lt (x:ObjOk P w H h a o):a < h.objs.size:=by
  cases o with
  | lst xs => obtain ⟨_,_,_,_,e⟩:=x; exact Heap.lt_size e
  | tup xs => obtain ⟨_,_,_,p⟩:=x; exact p.lt
  | dK kvs => obtain ⟨_,_,_,_,o,_,_,e,_⟩:=x; exact Heap.lt_size e
  | dT kvs => obtain ⟨_,_,_,_,o,_,_,e,_⟩:=x; exact Heap.lt_size e
  | set S n => obtain ⟨o,_,_,_,e,_⟩:=x; exact Heap.lt_size e
  | ins C dx fs => obtain ⟨_,_,_,e,_⟩:=x; exact Heap.lt_size e
  | own y => obtain ⟨_,e⟩:=x; exact Heap.lt_size e
  | xd fs => obtain ⟨_,⟨_,_,_,e,_⟩,_⟩:=x; exact Heap.lt_size e
  | rng lo hi => obtain ⟨_,_,_,e⟩:=x; exact Heap.lt_size e
  | frz ob u => obtain ⟨e,_⟩:=x; exact Heap.lt_size e
  | tbl ps => exact Heap.lt_size (show h.get? a = some _ from x)
  | met f y => exact Heap.lt_size (show h.get? a = some _ from x)
  | ext φ => obtain ⟨_,⟨_,e⟩,_⟩:=x; exact Heap.lt_size e
theorem Paired.mapP {α β:Type} {F G:α → β → Prop}:∀ {l₁:List α} {l₂:List β},Paired F l₁ l₂ → (∀ a b,F a b → G a b) → Paired G l₁ l₂
  | _,_,.nil,_ => .nil
  | _,_,.cons r t,f => .cons (f _ _ r) (Paired.mapP t f)
theorem ObjOk.stay (x:ObjOk P w H h a o) (k:∀ b u,(b = a ∨ H b = some (.own a)) → h.get? b = some u → h'.get? b = some u)
    (ho:∀ b,H b = some (.own a) → H' b = some (.own a)) (ht:∀ b xs,H b = some (.tup xs) → H' b = some (.tup xs)):ObjOk P w H' h' a o:=by
  induction o with
  | lst xs => obtain ⟨z,its,n,r,e⟩:=x; exact ⟨z,its,n,r,k _ _ (.inl rfl) e⟩
  | tup xs => obtain ⟨z,its,r,ob,e,c⟩:=x; exact ⟨z,its,r,ob,k _ _ (.inl rfl) e,c⟩
  | dK kvs => obtain ⟨z,y,vs,r,ob,es,ep,e,c⟩:=x; exact ⟨z,y,vs,r,ob,es,ep,k _ _ (.inl rfl) e,c⟩
  | dT kvs =>
    obtain ⟨z,y,xs,r,ob,es,ep,e,c⟩:=x
    exact ⟨z,y,xs,Paired.mapP r fun p q z => ⟨z.1,ht _ _ z.2.1,z.2.2⟩,ob,es,ep,k _ _ (.inl rfl) e,c⟩
  | set S n => obtain ⟨ob,es,ep,t,e,c⟩:=x; exact ⟨ob,es,ep,t,k _ _ (.inl rfl) e,c⟩
  | ins C dx fs =>
    obtain ⟨d,z,ne,e,mA,⟨od,es,ep,e2,c⟩,r⟩:=x
    exact ⟨ho _ d,z,ne,k _ _ (.inl rfl) e,mA,⟨od,es,ep,k _ _ (.inr d) e2,c⟩,r⟩
  | own y => obtain ⟨ob,e⟩:=x; exact ⟨ob,k _ _ (.inl rfl) e⟩
  | xd fs => obtain ⟨mA,⟨od,es,ep,e,c⟩,r⟩:=x; exact ⟨mA,⟨od,es,ep,k _ _ (.inl rfl) e,c⟩,r⟩
  | rng lo hi => obtain ⟨t,u,v,e⟩:=x; exact ⟨t,u,v,k _ _ (.inl rfl) e⟩
  | frz ob u ih => obtain ⟨e,q⟩:=x; exact ⟨k _ _ (.inl rfl) e,ih q⟩
  | tbl ps =>
    have e:h.get? a = some { cls:=.none,data:=.fields ps }:=x
    show h'.get? a = some { cls:=.none,data:=.fields ps }
    exact k a _ (.inl rfl) e
  | met f y =>
    have e:h.get? a = some (PySem.W.methodObj (.ref f) (.ref y)):=x
    show h'.get? a = some (PySem.W.methodObj (.ref f) (.ref y))
    exact k a _ (.inl rfl) e
  | ext φ => obtain ⟨p,⟨o,e⟩,st⟩:=x; exact ⟨st _ _ p fun o q => k _ _ (.inl rfl) q,⟨o,k _ _ (.inl rfl) e⟩,st⟩
theorem HOk.lt (x:HOk P w H h) (e:H a = some o):a < h.objs.size:=(x a o e).lt
theorem HOk.fresh (x:HOk P w H h) (e:h.objs.size ≤ a):H a = none:=by
  cases q:H a with
  | none => rfl
  | some u => exact absurd (Nat.lt_of_lt_of_le (x.lt q) e) (Nat.lt_irrefl _)
theorem HOk.kept (x:HOk P w H h) (k:∀ b u,h.get? b = some u → h'.get? b = some u):HOk P w H h':=fun a o e =>
  (x a o e).stay (fun b u _ q => k b u q) (fun _ q => q) fun _ _ q => q
theorem HOk.laid (x:HOk P w H h) (k:∀ b u,h.get? b = some u → h'.get? b = some u) (hp:h.objs.size ≤ a) (new:ObjOk P w (upd H a o) h' a o):HOk P w (upd H a o) h':=fun b u e => by
  have hn:=x.fresh hp
  by_cases hb:b = a
  · subst hb; rw [upd_same] at e; cases e; exact new
  · rw [upd_ne hb] at e
    exact (x b u e).stay (fun c v _ q => k c v q) (fun c q => by rw [upd_ne (ne_of_none q hn)]; exact q) fun c xs q => by rw [upd_ne (ne_of_none q hn)]; exact q
end
noncomputable def Rd (H:Hp) (a:Addr) (u:HO):Prop:=H a = some u ∨ ∃ o,H a = some (.frz o u)
theorem Rd.ok {P:Program} {w:World} {H:Hp} {h:Heap} {a:Addr} {u:HO} (r:Rd H a u) (x:HOk P w H h):ObjOk P w H h a u:=by
  rcases r with r | ⟨o,r⟩
  · exact x a u r
  · obtain ⟨_,q⟩:=x a _ r
    exact q
noncomputable def Mut:Option HO → Prop
  | some (.lst _) => True
  | some (.dK _) => True
  | some (.dT _) => True
  | some (.set _ _) => True
  | some (.ins _ _ _) => True
  | some (.ext _) => True
  | _ => False
section
variable {P:Program} {w:World} {H:Hp} {h h':Heap} {x e:Addr} {o':HO}
theorem HOk.write (ok:HOk P w H h) (mu:Mut (H x)) (he:e = x ∨ H e = some (.own x)) (k:∀ b u,b ≠ e → h.get? b = some u → h'.get? b = some u) (heo:∃ u,h'.get? e = some u)
    (new:ObjOk P w (upd H x o') h' x o'):HOk P w (upd H x o') h':=fun b u q => by
  have nown:∀ c y,H c = some (.own y) → c ≠ x:=fun c y r z => by subst z; rw [r] at mu; exact mu
  have ntup:∀ c xs,H c = some (.tup xs) → c ≠ x:=fun c xs r z => by subst z; rw [r] at mu; exact mu
  by_cases hb:b = x
  · subst hb; rw [upd_same] at q; cases q; exact new
  · rw [upd_ne hb] at q
    by_cases hbe:b = e
    · have q':H b = some (.own x):=by
        rcases he with z | z
        · exact absurd (hbe.trans z) hb
        · rw [hbe]; exact z
      rw [q] at q'; cases q'
      obtain ⟨v,hv⟩:=heo
      exact ⟨v,by rw [hbe]; exact hv⟩
    · refine (ok b u q).stay (fun c v hc r => k c v ?_ r) (fun c r => by rw [upd_ne (nown c b r)]; exact r) fun c xs r => by rw [upd_ne (ntup c xs r)]; exact r
      rcases hc with rfl | hc
      · exact hbe
      · rintro rfl
        rcases he with z | z
        · exact nown c b hc z
        · rw [hc] at z; cases z; exact hb rfl
end
structure Un (fs ex:List Addr) (H H':Hp) (h h':Heap):Prop where
  keep:∀ b o,h.get? b = some o → H b = none → b ∉ fs → b ∉ ex → h'.get? b = some o
  slot:∀ b o,h.get? b = some o → H b = none → b ∈ fs → b ∉ ex → ∃ sl,h'.get? b = some { o with slots:=sl }
  free:∀ b o,h.get? b = some o → H b = none → b ∉ ex → H' b = none
  there:∀ b o,h.get? b = some o → b ∉ ex → ∃ o',h'.get? b = some o'
  tups:∀ b xs,H b = some (.tup xs) → H' b = some (.tup xs)
  frzs:∀ b o u,H b = some (.frz o u) → H' b = some (.frz o u)
  tbls:∀ b ps,H b = some (.tbl ps) → ∃ more,H' b = some (.tbl (ps ++ more))
section
variable {fs fs' ex ex':List Addr} {H H1 H2:Hp} {h h1 h2 h':Heap} {a x e:Addr} {o:HO}
theorem Un.any (u:Un fs ex H H1 h h1) {b:Addr} {ob:Obj} (q:h.get? b = some ob) (n:H b = none) (hx:b ∉ ex):∃ sl,h1.get? b = some { ob with slots:=sl }:=by
  by_cases hb:b ∈ fs
  · exact u.slot b ob q n hb hx
  · exact ⟨ob.slots,u.keep b ob q n hb hx⟩
theorem Un.kept (k:∀ b u,h.get? b = some u → h'.get? b = some u):Un fs ex H H h h' :=
  ⟨fun b ob q _ _ _ => k b ob q,fun b ob q _ _ _ => ⟨ob.slots,k b ob q⟩,fun _ _ _ n _ => n,fun b ob q _ => ⟨ob,k b ob q⟩,fun _ _ q => q,fun _ _ _ q => q,fun _ ps q => ⟨#[],by rw [q]; simp⟩⟩
theorem Un.refl:Un fs ex H H h h:=Un.kept fun _ _ q => q
theorem Un.laid (k:∀ b u,h.get? b = some u → h'.get? b = some u) (hp:h.objs.size ≤ a) (hn:H a = none):Un fs ex H (upd H a o) h h' where
  keep:=fun b u q _ _ _ => k b u q
  slot:=fun b u q _ _ _ => ⟨u.slots,k b u q⟩
  free:=fun b u q n _ => by rw [upd_ne (Nat.ne_of_lt (Nat.lt_of_lt_of_le (Heap.lt_size q) hp))]; exact n
  there:=fun b u q _ => ⟨u,k b u q⟩
  tups:=fun b xs q => by rw [upd_ne (ne_of_none q hn)]; exact q
  frzs:=fun b u xs q => by rw [upd_ne (ne_of_none q hn)]; exact q
  tbls:=fun b ps q => ⟨#[],by rw [upd_ne (ne_of_none q hn),q]; simp⟩
theorem Un.write (mu:Mut (H x)) (he:e = x ∨ H e = some (.own x)) (k:∀ b u,b ≠ e → h.get? b = some u → h'.get? b = some u) (heo:∃ u,h'.get? e = some u):Un fs ex H (upd H x o) h h':=by
  have hx:∀ b,H b = none → b ≠ x:=fun b n z => by subst z; rw [n] at mu; exact mu
  have hb:∀ b,H b = none → b ≠ e:=fun b n z => by
    subst z
    rcases he with r | r
    · exact hx b n r
    · rw [n] at r; cases r
  have hm:∀ b u,H b = some u → ¬ Mut (some u) → b ≠ x:=fun b u q nm z => by subst z; rw [q] at mu; exact nm mu
  refine ⟨fun b u q n _ _ => k b u (hb b n) q,fun b u q n _ _ => ⟨u.slots,k b u (hb b n) q⟩,fun b u q n _ => by rw [upd_ne (hx b n)]; exact n,fun b u q _ => ?_,
    fun b xs q => by rw [upd_ne (hm b _ q fun z => z)]; exact q,fun b u xs q => by rw [upd_ne (hm b _ q fun z => z)]; exact q,fun b ps q => ⟨#[],by rw [upd_ne (hm b _ q fun z => z),q]; simp⟩⟩
  by_cases hbe:b = e
  · subst hbe; exact heo
  · exact ⟨u,k b u hbe q⟩
end
noncomputable def trk (h:Heap) (H:Hp):List Addr:=(List.range h.objs.size).filter fun a => (H a).isSome
noncomputable def hidT (h:Heap) (H:Hp):Heap:=PySem.W.hideAll h (trk h H)
theorem hidT_size (h:Heap) (H:Hp):(hidT h H).objs.size = h.objs.size:=PySem.W.hideAll_size _ _
theorem hidT_get {h:Heap} {H:Hp} {b:Addr} {o:Obj} (e:h.get? b = some o) (n:H b = none):(hidT h H).get? b = some o :=
  PySem.W.hideAll_get _ e fun hm => by
    have q:(H b).isSome = true:=(List.mem_filter.mp hm).2
    rw [n] at q; simp at q
theorem of_hidT {h:Heap} {H:Hp} {b:Addr} {o:Obj} (e:(hidT h H).get? b = some o):h.get? b = some o ∧ H b = none:=by
  have e':h.get? b = some o:=PySem.W.of_hideAll (trk h H) e
  refine ⟨e',?_⟩
  cases q:H b with
  | none => rfl
  | some x =>
    have hm:b ∈ trk h H:=List.mem_filter.mpr ⟨List.mem_range.mpr (Heap.lt_size e'),by simp [q]⟩
    have z:(hidT h H).get? b = none:=PySem.W.hideAll_none (trk h H) hm
    rw [z] at e; cases e
noncomputable def allNews (g h:Heap) (L:Addr):List (Addr × Obj):=(List.range h.objs.size).filterMap fun a => if a = L ∨ (g.get? a).isSome = true then none else (h.get? a).map fun o => (a,o)
noncomputable def rest (g h:Heap) (L d:Addr):List (Addr × Obj):=(allNews g h L).filter fun p => decide (p.1 ≠ d)
end L2
namespace L2
open PySem PySem.Spec PyProof.Rows
structure Mod (K:PySem.W.Frag) (mg:Str → Option Value) (base:Heap):Prop where
  kin:K.In base
  glob:base.Ns mainGlobals mg
  blt:∃ mb,base.Ns builtinsNs mb ∧ ∀ x:Str,x ≠ "__name__" → mb x = bootBuiltins x
  nolimit:base.NoLimit
structure Cx where
  prog:Program
  w:World
  K:PySem.W.Frag
  mg:Str → Option Value
  base:Heap
  A:Around
  N:List Str
  s₀:Shared
  H₀:Hp
  env:Env
  outer:List Env
  stack:List Env
  ex:List Addr
  fn:Str → Bool
  calm:Bool
  pn:List (Addr × Obj)
  xe:Value → Shared → Prop
noncomputable def frs (l:List Env):List Addr:=l.filterMap (·.frame)
noncomputable abbrev Cx.fs (X:Cx):List Addr:=frs X.outer
noncomputable def Vis (sc:Scope) (x:Str):Prop:=sc.names.lookup x = some .local ∨ sc.names.lookup x = some .cell ∨ sc.names.lookup x = some .free
noncomputable def Loc (sc:Scope) (x:Str):Prop:=sc.names.lookup x = some .local ∨ sc.names.lookup x = some .cell
noncomputable def Look (env:Env) (h:Heap) (m:Str → Option Value) (x:Str) (u:Value):Prop :=
  (env.kindOf x = some .local ∧ m x = some u) ∨ ((env.kindOf x = some .cell ∨ env.kindOf x = some .free) ∧ ∃ c,env.cells.lookup x = some c ∧ h.IsCell c (some u))
structure Cx.Ok (X:Cx):Prop where
  mod:Mod X.K X.mg X.base
  kind:X.env.scope.kind = .function
  glob:X.env.globals = mainGlobals
  blt:X.env.builtins = builtinsNs
  above:X.s₀.heap.objs.size ≤ X.env.locals
  inj:∀ x y c,X.env.cells.lookup x = some c → X.env.cells.lookup y = some c → x = y
  has:∀ x,(X.env.kindOf x = some .cell ∨ X.env.kindOf x = some .free) → ∃ c,X.env.cells.lookup x = some c
  cab:∀ x c,X.fn x = true → X.env.cells.lookup x = some c → X.s₀.heap.objs.size ≤ c
  hd:X.calm = true → X.A.handled = none
  frames:X.A.frames = some X.stack
  stk:X.stack = X.outer ∨ (X.stack = X.env :: X.outer ∧ X.env.frame = some X.env.locals)
  exf:∀ b ∈ X.ex,b ≠ X.env.locals ∧ ∀ x c,X.env.cells.lookup x = some c → c ≠ b
  bs:∀ b o,X.base.get? b = some o → X.s₀.heap.get? b = some o ∧ X.H₀ b = none
  bsz:X.base.objs.size ≤ X.s₀.heap.objs.size
  noex:∀ b o,X.base.get? b = some o → b ∉ X.ex
  exfs:∀ b ∈ X.ex,b ∉ X.fs
  funs:X.s₀.heap.FunFrames X.base X.outer
  frf:∀ b ∈ X.fs,X.H₀ b = none
structure Inv (X:Cx) (pins:List (Addr × Obj)) (σ:List (Option V)) (H:Hp) (s:Shared):Prop where
  ok:X.Ok
  os:s.os = X.s₀.os
  bare:AllBare s.gens
  base:Un X.fs X.ex X.H₀ H X.s₀.heap s.heap
  loc:∃ m,s.heap.Ns X.env.locals m ∧ ∀ (i:Nat) (x:Str) (v:V),X.N[i]? = some x → σ[i]? = some (some v) → Vis X.env.scope x → ∃ u,RelV v u ∧ Look X.env s.heap m x u
  cell:∀ x c,X.env.cells.lookup x = some c → ∃ v,s.heap.IsCell c v
  free:H X.env.locals = none
  freeC:∀ x c,X.env.cells.lookup x = some c → H c = none
  pin:∀ p ∈ X.pn ++ pins,s.heap.get? p.1 = some p.2 ∧ H p.1 = none ∧ p.1 ≠ X.env.locals ∧ p.1 ∉ X.fs ∧ ∀ v,p.2.data ≠ .cell v
  hok:HOk X.prog X.w H s.heap
  len:σ.length = X.N.length
section
variable {X:Cx} {pins:List (Addr × Obj)} {σ:List (Option V)} {H H':Hp} {s:Shared} {h':Heap}
theorem Cx.Ok.nofr (ok:X.Ok) {b:Addr} {o:Obj} (e:X.base.get? b = some o):b ∉ X.fs:=fun hb => by
  have:=(ok.funs.mem hb).1
  rw [e] at this; cases this
theorem Inv.bs (I:Inv X pins σ H s):∀ b o,X.base.get? b = some o → s.heap.get? b = some o ∧ H b = none:=fun b o e =>
  ⟨I.base.keep b o (I.ok.bs b o e).1 (I.ok.bs b o e).2 (I.ok.nofr e) (I.ok.noex b o e),I.base.free b o (I.ok.bs b o e).1 (I.ok.bs b o e).2 (I.ok.noex b o e)⟩
theorem Inv.bk (I:Inv X pins σ H s):∀ b o,X.base.get? b = some o → s.heap.get? b = some o:=fun b o e => (I.bs b o e).1
theorem Inv.mod (I:Inv X pins σ H s):Mod X.K X.mg X.base:=I.ok.mod
theorem Inv.kIn (I:Inv X pins σ H s):X.K.In s.heap:=I.ok.mod.kin.keeps I.bk
theorem Inv.lt (I:Inv X pins σ H s):X.env.locals < s.heap.objs.size:=let ⟨_,hn,_⟩:=I.loc; hn.lt
theorem Inv.sz (I:Inv X pins σ H s):X.s₀.heap.objs.size ≤ s.heap.objs.size:=Nat.le_trans I.ok.above (Nat.le_of_lt I.lt)
theorem Inv.nofs (I:Inv X pins σ H s) {a:Addr} (h:s.heap.objs.size ≤ a):a ∉ X.fs:=fun hb => by
  obtain ⟨_,o,ho,_⟩:=I.ok.funs.mem hb
  exact absurd (Nat.lt_of_lt_of_le (Heap.lt_size ho) (Nat.le_trans I.sz h)) (Nat.lt_irrefl _)
theorem Inv.cne (I:Inv X pins σ H s):∀ x c,X.env.cells.lookup x = some c → c ≠ X.env.locals:=fun x c e z => by
  obtain ⟨v,o,ho,hd⟩:=I.cell x c e
  obtain ⟨m,⟨o',es,ep,ho',hd',_⟩,_⟩:=I.loc
  rw [z,ho'] at ho; cases ho; rw [hd'] at hd; cases hd
theorem Inv.funs (I:Inv X pins σ H s):s.heap.FunFrames X.base X.outer:=by
  have all:∀ (l:List Env),(∀ b ∈ frs l,b ∈ X.fs) → X.s₀.heap.FunFrames X.base l → s.heap.FunFrames X.base l:=by
    intro l
    induction l with
    | nil => intro _ _; trivial
    | cons env r ih =>
      intro hs hl
      obtain ⟨hk,⟨L,o,hf,hn,ho,hd⟩,hr⟩:=hl
      have hL:L ∈ X.fs:=hs L (by unfold frs; rw [List.filterMap_cons,hf]; exact List.mem_cons_self)
      obtain ⟨sl,e⟩:=I.base.slot L o ho (I.ok.frf L hL) hL fun z => I.ok.exfs L z hL
      exact ⟨hk,⟨L,_,hf,hn,e,hd⟩,ih (fun b hb => hs b (by unfold frs; rw [List.filterMap_cons,hf]; exact List.mem_cons_of_mem _ hb)) hr⟩
  exact all X.outer (fun _ hb => hb) I.ok.funs
theorem Inv.stack (I:Inv X pins σ H s):s.heap.FunFrames X.base X.stack:=by
  rcases I.ok.stk with e | ⟨e,hf⟩
  · rw [e]; exact I.funs
  · rw [e]
    obtain ⟨m,hn,_⟩:=I.loc
    refine .cons (by rw [I.ok.kind]; decide) hf hn ?_ I.funs
    exact Heap.get?_none_of_le (Nat.le_trans I.ok.bsz I.ok.above)
theorem Inv.stkSub (I:Inv X pins σ H s):∀ b ∈ frs X.stack,b ∈ X.env.locals :: X.fs:=fun b hb => by
  rcases I.ok.stk with e | ⟨e,hf⟩
  · rw [e] at hb; exact List.mem_cons_of_mem _ hb
  · rw [e] at hb
    unfold frs at hb
    rw [List.filterMap_cons,hf] at hb
    exact hb
theorem Inv.stkFree (I:Inv X pins σ H s):∀ b ∈ frs X.stack,H b = none:=fun b hb => by
  rcases List.mem_cons.mp (I.stkSub b hb) with e | hb
  · rw [e]; exact I.free
  · obtain ⟨_,o,ho,_⟩:=I.ok.funs.mem hb
    exact I.base.free b o ho (I.ok.frf b hb) fun z => I.ok.exfs b z hb
theorem Inv.step {g':Array GenState} {t':Nat} {d':Drawn} {ch:List Addr} (I:Inv X pins σ H s)
    (hch:∀ b ∈ ch,(b ∈ X.ex ∨ X.s₀.heap.objs.size ≤ b) ∧ b ≠ X.env.locals ∧ (∀ x c,X.env.cells.lookup x = some c → c ≠ b) ∧ ∀ p ∈ X.pn ++ pins,p.1 ≠ b)
    (keep:∀ b o,b ≠ X.env.locals → b ∉ X.fs → b ∉ ch → s.heap.get? b = some o → H b = none → h'.get? b = some o)
    (slot:∀ b o,b ≠ X.env.locals → b ∈ X.fs → b ∉ ch → s.heap.get? b = some o → H b = none → ∃ sl,h'.get? b = some { o with slots:=sl }) (free:∀ b o,b ∉ ch → s.heap.get? b = some o → H b = none → H' b = none)
    (there:∀ b o,b ∉ ch → s.heap.get? b = some o → ∃ o',h'.get? b = some o')
    (tups:∀ b xs,H b = some (.tup xs) → H' b = some (.tup xs)) (frzs:∀ b o u,H b = some (.frz o u) → H' b = some (.frz o u)) (tbls:∀ b ps,H b = some (.tbl ps) → ∃ more,H' b = some (.tbl (ps ++ more)))
    (ns:∀ m,s.heap.Ns X.env.locals m → h'.Ns X.env.locals m) (hok:HOk X.prog X.w H' h') (hg:AllBare g') :
    Inv X pins σ H' { s with heap:=h',gens:=g',drawn:=d',toks:=t' }:=by
  have neL:∀ b o,X.s₀.heap.get? b = some o → b ≠ X.env.locals:=fun b o e => Nat.ne_of_lt (Nat.lt_of_lt_of_le (Heap.lt_size e) I.ok.above)
  have neC:∀ b o,X.s₀.heap.get? b = some o → b ∉ X.ex → b ∉ ch:=fun b o e hx hb => by
    rcases (hch b hb).1 with z | z
    · exact hx z
    · exact absurd (Nat.lt_of_lt_of_le (Heap.lt_size e) z) (Nat.lt_irrefl _)
  have cellK:∀ x c,X.env.cells.lookup x = some c → ∀ v,s.heap.IsCell c v → h'.IsCell c v:=fun x c e v ⟨o,ho,hd⟩ => by
    have nch:c ∉ ch:=fun z => (hch c z).2.2.1 x c e rfl
    by_cases hc:c ∈ X.fs
    · obtain ⟨sl,q⟩:=slot c o (I.cne x c e) hc nch ho (I.freeC x c e)
      exact ⟨_,q,hd⟩
    · exact ⟨o,keep c o (I.cne x c e) hc nch ho (I.freeC x c e),hd⟩
  refine ⟨I.ok,I.os,hg,⟨fun b o e n hb hx => ?_,fun b o e n hb hx => ?_,fun b o e n hx => ?_,fun b o e hx => ?_,fun b xs e => tups b xs (I.base.tups b xs e),fun b o xs e => frzs b o xs (I.base.frzs b o xs e),fun b ps e => ?_⟩,?_,fun x c e => ?_,?_,fun x c e => ?_,fun p hp => ?_,hok,I.len⟩
  · exact keep b o (neL b o e) hb (neC b o e hx) (I.base.keep b o e n hb hx) (I.base.free b o e n hx)
  · obtain ⟨sl,e1⟩:=I.base.slot b o e n hb hx
    obtain ⟨sl',e2⟩:=slot b _ (neL b o e) hb (neC b o e hx) e1 (I.base.free b o e n hx)
    exact ⟨sl',e2⟩
  · obtain ⟨o',e1⟩:=I.base.there b o e hx
    exact free b o' (neC b o e hx) e1 (I.base.free b o e n hx)
  · obtain ⟨o',e1⟩:=I.base.there b o e hx
    exact there b o' (neC b o e hx) e1
  · obtain ⟨m1,e1⟩:=I.base.tbls b ps e
    obtain ⟨m2,e2⟩:=tbls b _ e1
    exact ⟨m1 ++ m2,by rw [e2,Array.append_assoc]⟩
  · obtain ⟨m,hn,hl⟩:=I.loc
    refine ⟨m,ns m hn,fun i x v e1 e2 e3 => ?_⟩
    obtain ⟨u,r,l⟩:=hl i x v e1 e2 e3
    refine ⟨u,r,?_⟩
    rcases l with l | ⟨k,c,e,z⟩
    · exact .inl l
    · exact .inr ⟨k,c,e,cellK x c e _ z⟩
  · obtain ⟨v,z⟩:=I.cell x c e
    exact ⟨v,cellK x c e v z⟩
  · obtain ⟨m,⟨o,_,_,ho,_⟩,_⟩:=I.loc
    exact free _ o (fun z => (hch _ z).2.1 rfl) ho I.free
  · obtain ⟨v,o,ho,hd⟩:=I.cell x c e
    exact free c o (fun z => (hch c z).2.2.1 x c e rfl) ho (I.freeC x c e)
  · obtain ⟨e,n,ne,nf,d⟩:=I.pin p hp
    have nch:p.1 ∉ ch:=fun z => (hch p.1 z).2.2.2 p hp rfl
    exact ⟨keep p.1 p.2 ne nf nch e n,free p.1 p.2 nch e n,ne,nf,d⟩
theorem Inv.un {t':Nat} (I:Inv X pins σ H s) (u:Un X.fs [] H H' s.heap h') (hok:HOk X.prog X.w H' h'):Inv X pins σ H' { s with heap:=h',toks:=t' }:=by
  obtain ⟨m,⟨o,es,ep,ho,r⟩,_⟩:=id I.loc
  obtain ⟨sl,hL⟩:=u.any ho I.free (by simp)
  exact I.step (g':=s.gens) (d':=s.drawn) (ch:=[]) (fun _ z => nomatch z) (fun b o _ hb _ e n => u.keep b o e n hb (by simp)) (fun b o _ hb _ e n => u.slot b o e n hb (by simp)) (fun b o _ e n => u.free b o e n (by simp)) (fun b o _ e => u.there b o e (by simp)) u.tups u.frzs u.tbls (fun m' hm => by
    obtain ⟨o',es',ep',ho',r'⟩:=hm
    rw [ho] at ho'; cases ho'
    exact ⟨_,es',ep',hL,r'⟩) hok I.bare
theorem Inv.call {g':Array GenState} {t':Nat} {d':Drawn} {ch:List Addr} (I:Inv X pins σ H s) (u:Un (frs X.stack) ch H H' s.heap h') (hok:HOk X.prog X.w H' h') (hg:AllBare g')
    (hch:∀ b ∈ ch,(b ∈ X.ex ∨ X.s₀.heap.objs.size ≤ b) ∧ b ≠ X.env.locals ∧ (∀ x c,X.env.cells.lookup x = some c → c ≠ b) ∧ ∀ p ∈ X.pn ++ pins,p.1 ≠ b) :
    Inv X pins σ H' { s with heap:=h',gens:=g',drawn:=d',toks:=t' }:=by
  obtain ⟨m,⟨o,es,ep,ho,r⟩,_⟩:=id I.loc
  obtain ⟨sl,hL⟩:=u.any ho I.free fun z => (hch _ z).2.1 rfl
  exact I.step (ch:=ch) hch (fun b o hL hb hc e n => u.keep b o e n (fun z => (List.mem_cons.mp (I.stkSub b z)).elim hL hb) hc) (fun b o _ _ hc e n => u.any e n hc) (fun b o hc e n => u.free b o e n hc) (fun b o hc e => u.there b o e hc) u.tups u.frzs u.tbls (fun m' hm => by
    obtain ⟨o',es',ep',ho',r'⟩:=hm
    rw [ho] at ho'; cases ho'
    exact ⟨_,es',ep',hL,r'⟩) hok hg
theorem Inv.turned {t':Nat} {it:Addr} (I:Inv X pins σ H s) (k:∀ b o,b ≠ it → s.heap.get? b = some o → h'.get? b = some o) (hn:H it = none) (hL:it ≠ X.env.locals)
    (h1:it ∈ X.ex ∨ X.s₀.heap.objs.size ≤ it) (h2:∀ x c,X.env.cells.lookup x = some c → c ≠ it) (h3:∀ p ∈ X.pn ++ pins,p.1 ≠ it):Inv X pins σ H { s with heap:=h',toks:=t' }:=by
  have nit:∀ b u,H b = some u → b ≠ it:=fun b u e z => by rw [z,hn] at e; cases e
  refine I.step (g':=s.gens) (d':=s.drawn) (ch:=[it]) (fun b hb => ?_) (fun b o _ _ hc e _ => k b o (fun z => hc (by simp [z])) e) (fun b o _ _ hc e _ => ⟨o.slots,k b o (fun z => hc (by simp [z])) e⟩) (fun _ _ _ _ n => n)
    (fun b o hc e => ⟨o,k b o (fun z => hc (by simp [z])) e⟩) (fun _ _ e => e) (fun _ _ _ e => e) (fun b ps e => ⟨#[],by rw [e]; simp⟩) (fun m hm => ?_) (fun b u e => ?_) I.bare
  · have e:b = it:=by simpa using hb
    subst e
    exact ⟨h1,hL,h2,h3⟩
  · obtain ⟨o,es,ep,ho,r⟩:=hm
    exact ⟨o,es,ep,k _ o (Ne.symm hL) ho,r⟩
  · refine (I.hok b u e).stay (fun c v hc q => k c v ?_ q) (fun _ q => q) fun _ _ q => q
    rcases hc with z | z
    · rw [z]; exact nit b u e
    · exact nit c _ z
theorem Inv.tok (I:Inv X pins σ H s) (t:Nat):Inv X pins σ H { s with toks:=t }:=I.un (h':=s.heap) (t':=t) Un.refl I.hok
theorem Inv.kept {t':Nat} (I:Inv X pins σ H s) (k:∀ b u,s.heap.get? b = some u → h'.get? b = some u):Inv X pins σ H { s with heap:=h',toks:=t' }:=I.un (Un.kept k) (I.hok.kept k)
theorem Inv.laid {a:Addr} {o:HO} {t':Nat} (I:Inv X pins σ H s) (k:∀ b u,s.heap.get? b = some u → h'.get? b = some u) (hp:s.heap.objs.size ≤ a) (new:ObjOk X.prog X.w (upd H a o) h' a o) :
    Inv X pins σ (upd H a o) { s with heap:=h',toks:=t' }:=I.un (Un.laid k hp (I.hok.fresh hp)) (I.hok.laid k hp new)
theorem Inv.write {x e:Addr} {o:HO} {t':Nat} (I:Inv X pins σ H s) (mu:Mut (H x)) (he:e = x ∨ H e = some (.own x)) (k:∀ b u,b ≠ e → s.heap.get? b = some u → h'.get? b = some u) (heo:∃ u,h'.get? e = some u)
    (new:ObjOk X.prog X.w (upd H x o) h' x o):Inv X pins σ (upd H x o) { s with heap:=h',toks:=t' }:=I.un (Un.write mu he k heo) (I.hok.write mu he k heo new)
theorem Inv.weak {σ':List (Option V)} (I:Inv X pins σ H s) (hl:σ'.length = σ.length) (w:∀ (i:Nat) v,σ'[i]? = some (some v) → σ[i]? = some (some v)):Inv X pins σ' H s :=
  ⟨I.ok,I.os,I.bare,I.base,let ⟨m,hn,hl'⟩:=I.loc; ⟨m,hn,fun i x v e1 e2 e3 => hl' i x v e1 (w i v e2) e3⟩,I.cell,I.free,I.freeC,I.pin,I.hok,hl.trans I.len⟩
theorem Inv.pins_of {pins':List (Addr × Obj)} (I:Inv X pins σ H s) (h:∀ p ∈ pins',s.heap.get? p.1 = some p.2 ∧ H p.1 = none ∧ p.1 ≠ X.env.locals ∧ p.1 ∉ X.fs ∧ ∀ v,p.2.data ≠ .cell v):Inv X pins' σ H s :=
  ⟨I.ok,I.os,I.bare,I.base,I.loc,I.cell,I.free,I.freeC,fun p hp => (List.mem_append.mp hp).elim (fun z => I.pin p (List.mem_append_left _ z)) (h p),I.hok,I.len⟩
theorem nodup_ix {N:List Str} (hN:N.Nodup) {i j:Nat} {x:Str} (a:N[i]? = some x) (b:N[j]? = some x):i = j:=by
  obtain ⟨h1,e1⟩:=List.getElem?_eq_some_iff.mp a
  obtain ⟨h2,e2⟩:=List.getElem?_eq_some_iff.mp b
  exact (List.getElem_inj hN).mp (e1.trans e2.symm)
theorem store_ok2 {M:Model} {A:Around} {E:Value → Shared → Prop} {i:Nat} {x:Str} {v:V} {u:Value} {Q:Unit → Shared → Prop} (I:Inv X pins σ H s) (hN:X.N.Nodup) (hi:X.N[i]? = some x) (hx:Loc X.env.scope x) (r:RelV v u)
    (h:∀ s',Inv X pins (σ.set i (some v)) H s' → (∃ a,Heap.SameBut a s.heap s'.heap ∧ (a = X.env.locals ∨ X.env.cells.lookup x = some a)) → Q () s') (hf:X.fn x = true ∨ X.env.scope.names.lookup x = some .local:=by first | exact .inl rfl | exact .inr rfl | assumption):wpAny M A (storeName X.env x u) Q E s:=by
  obtain ⟨m,hn,hl⟩:=id I.loc
  have hcls:(X.env.scope.kind == .class || (X.env.scope.kind == .module && X.env.locals != X.env.globals)) = false:=by rw [I.ok.kind]; rfl
  have hiσ:i < σ.length:=by rw [I.len]; exact (List.getElem?_eq_some_iff.mp hi).1
  have cne:=I.cne
  have tracked:∀ {a:Addr} {h':Heap},(∃ o,s.heap.get? a = some o ∧ H a = none) → Heap.SameBut a s.heap h' → HOk X.prog X.w H h':=fun {a h'} ha hs b ob e => by
    obtain ⟨_,_,hfree⟩:=ha
    refine (I.hok b ob e).stay (fun c w' hc q => (hs.2 c ?_).trans q) (fun _ q => q) fun _ _ q => q
    rintro rfl
    rcases hc with rfl | hc
    · rw [hfree] at e; cases e
    · rw [hfree] at hc; cases hc
  rcases hx with hk | hk
  · refine wpAny_storeName_local hk hn (fun h' hn' hs => ?_) hcls
    obtain ⟨oL,_,_,hoL,_⟩:=id hn
    refine h _ ⟨I.ok,I.os,I.bare,⟨fun b o e n hb hx => ?_,fun b o e n hb hx => ?_,I.base.free,fun b o e hx => ?_,I.base.tups,I.base.frzs,I.base.tbls⟩,⟨_,hn',fun j y v' e1 e2 e3 => ?_⟩,fun y c e => ?_,I.free,I.freeC,fun p hp => ?_,tracked ⟨oL,hoL,I.free⟩ hs,by simpa using I.len⟩ ⟨_,hs,.inl rfl⟩
    · exact (hs.2 b (Nat.ne_of_lt (Nat.lt_of_lt_of_le (Heap.lt_size e) I.ok.above))).trans (I.base.keep b o e n hb hx)
    · obtain ⟨sl,e1⟩:=I.base.slot b o e n hb hx
      exact ⟨sl,(hs.2 b (Nat.ne_of_lt (Nat.lt_of_lt_of_le (Heap.lt_size e) I.ok.above))).trans e1⟩
    · obtain ⟨o',e1⟩:=I.base.there b o e hx
      exact ⟨o',(hs.2 b (Nat.ne_of_lt (Nat.lt_of_lt_of_le (Heap.lt_size e) I.ok.above))).trans e1⟩
    · by_cases hj:j = i
      · subst hj
        rw [hi] at e1; cases e1
        rw [List.getElem?_set_self hiσ] at e2
        cases e2
        exact ⟨u,r,.inl ⟨hk,by simp⟩⟩
      · rw [List.getElem?_set_ne (Ne.symm hj)] at e2
        obtain ⟨u',r',q⟩:=hl j y v' e1 e2 e3
        refine ⟨u',r',?_⟩
        rcases q with ⟨k,e⟩ | ⟨k,c,e,z⟩
        · refine .inl ⟨k,?_⟩
          have:y ≠ x:=fun e => hj (nodup_ix hN e1 (e ▸ hi))
          simp [this,e]
        · exact .inr ⟨k,c,e,z.sameBut hs (cne y c e)⟩
    · obtain ⟨w',z⟩:=I.cell y c e
      exact ⟨w',z.sameBut hs (cne y c e)⟩
    · obtain ⟨e,n,ne,nf,d⟩:=I.pin p hp
      exact ⟨(hs.2 p.1 ne).trans e,n,ne,nf,d⟩
  · have hfn:X.fn x = true:=by
      rcases hf with z | z
      · exact z
      · rw [z] at hk; cases hk
    obtain ⟨c,hc⟩:=I.ok.has x (.inl hk)
    obtain ⟨w',z⟩:=I.cell x c hc
    refine wpAny_storeName_cell I.ok.kind hk hc z (fun h' hc' hs => ?_)
    obtain ⟨oc,hoc,hocd⟩:=id z
    refine h { s with heap:=h' } ⟨I.ok,I.os,I.bare,⟨fun b o e n hb hx => ?_,fun b o e n hb hx => ?_,I.base.free,fun b o e hx => ?_,I.base.tups,I.base.frzs,I.base.tbls⟩,⟨m,hn.sameBut hs (Ne.symm (cne x c hc)),fun j y v' e1 e2 e3 => ?_⟩,fun y c' e => ?_,I.free,I.freeC,fun p hp => ?_,tracked ⟨oc,hoc,I.freeC x c hc⟩ hs,by simpa using I.len⟩ ⟨c,hs,.inr hc⟩
    · exact (hs.2 b (Nat.ne_of_lt (Nat.lt_of_lt_of_le (Heap.lt_size e) (I.ok.cab x c hfn hc)))).trans (I.base.keep b o e n hb hx)
    · obtain ⟨sl,e1⟩:=I.base.slot b o e n hb hx
      exact ⟨sl,(hs.2 b (Nat.ne_of_lt (Nat.lt_of_lt_of_le (Heap.lt_size e) (I.ok.cab x c hfn hc)))).trans e1⟩
    · obtain ⟨o',e1⟩:=I.base.there b o e hx
      exact ⟨o',(hs.2 b (Nat.ne_of_lt (Nat.lt_of_lt_of_le (Heap.lt_size e) (I.ok.cab x c hfn hc)))).trans e1⟩
    · by_cases hj:j = i
      · subst hj
        rw [hi] at e1; cases e1
        rw [List.getElem?_set_self hiσ] at e2
        cases e2
        exact ⟨u,r,.inr ⟨.inl hk,c,hc,hc'⟩⟩
      · rw [List.getElem?_set_ne (Ne.symm hj)] at e2
        obtain ⟨u',r',q⟩:=hl j y v' e1 e2 e3
        refine ⟨u',r',?_⟩
        rcases q with q | ⟨k,c',e,z'⟩
        · exact .inl q
        · refine .inr ⟨k,c',e,z'.sameBut hs ?_⟩
          rintro rfl
          exact hj (nodup_ix hN e1 (I.ok.inj _ _ _ e hc ▸ hi))
    · by_cases hcc:c' = c
      · subst hcc; exact ⟨_,hc'⟩
      · obtain ⟨w2,z2⟩:=I.cell y c' e
        exact ⟨w2,z2.sameBut hs hcc⟩
    · obtain ⟨e,n,ne,nf,d⟩:=I.pin p hp
      refine ⟨(hs.2 p.1 ?_).trans e,n,ne,nf,d⟩
      intro q
      rw [q,hoc] at e
      have q':oc = p.2:=Option.some.inj e
      exact d w' (by rw [← q']; exact hocd)
theorem store_ok {M:Model} {A:Around} {E:Value → Shared → Prop} {i:Nat} {x:Str} {v:V} {u:Value} {Q:Unit → Shared → Prop} (I:Inv X pins σ H s) (hN:X.N.Nodup) (hi:X.N[i]? = some x) (hx:Loc X.env.scope x) (r:RelV v u)
    (h:∀ s',Inv X pins (σ.set i (some v)) H s' → Q () s') (hf:X.fn x = true ∨ X.env.scope.names.lookup x = some .local:=by first | exact .inl rfl | exact .inr rfl | assumption):wpAny M A (storeName X.env x u) Q E s :=
  store_ok2 I hN hi hx r (fun s' I' _ => h s' I') hf
theorem Inv.call' {s':Shared} {ch:List Addr} (I:Inv X pins σ H s) (ho:s'.os = s.os) (u:Un (frs X.stack) ch H H' s.heap s'.heap) (hok:HOk X.prog X.w H' s'.heap) (hg:AllBare s'.gens)
    (hch:∀ b ∈ ch,(b ∈ X.ex ∨ X.s₀.heap.objs.size ≤ b) ∧ b ≠ X.env.locals ∧ (∀ x c,X.env.cells.lookup x = some c → c ≠ b) ∧ ∀ p ∈ X.pn ++ pins,p.1 ≠ b):Inv X pins σ H' s':=by
  obtain ⟨h',g',d',t',o'⟩:=s'
  have e:o' = s.os:=ho
  subst e
  exact I.call (g':=g') (t':=t') (d':=d') u hok hg hch
end
noncomputable abbrev XK:=Value → Option Addr → Hp → Prop
noncomputable abbrev St:=List (Option V)
noncomputable abbrev VK:=V → Hp → Prop
noncomputable abbrev TE:=St → Hp → VK → Prop
noncomputable abbrev TT:=St → Hp → (Bool → Hp → Prop) → Prop
noncomputable abbrev TA:=St → Hp → (List V → Hp → Prop) → Prop
structure Ends where
  nx:St → Hp → Prop
  rt:VK
  bk:St → Hp → Prop:=fun _ _ => False
  ct:St → Hp → Prop:=fun _ _ => False
noncomputable abbrev TS:=Ends → St → Hp → Prop
noncomputable def EP (X:Cx) (pins:List (Addr × Obj)) (σ:St) (Q:VK) (u:Value) (s':Shared):Prop:=∃ v H',Inv X pins σ H' s' ∧ RelV v u ∧ Q v H'
noncomputable def TP (X:Cx) (pins:List (Addr × Obj)) (σ:St) (Q:Bool → Hp → Prop) (b:Bool) (s':Shared):Prop:=∃ H',Inv X pins σ H' s' ∧ Q b H'
noncomputable def AP (X:Cx) (pins:List (Addr × Obj)) (σ:St) (Q:List V → Hp → Prop) (us:List Value) (s':Shared):Prop:=∃ vs H',Inv X pins σ H' s' ∧ Vals vs us ∧ Q vs H'
noncomputable def SP (X:Cx) (pins:List (Addr × Obj)) (D:Ends) (f:Flow) (s':Shared):Prop :=
  match f with
  | .next => ∃ σ' H',Inv X pins σ' H' s' ∧ D.nx σ' H'
  | .brk => ∃ σ' H',Inv X pins σ' H' s' ∧ D.bk σ' H'
  | .cont => ∃ σ' H',Inv X pins σ' H' s' ∧ D.ct σ' H'
  | .ret u => ∃ v σ' H',Inv X pins σ' H' s' ∧ RelV v u ∧ D.rt v H'
noncomputable def PE (X:Cx) (e:Expr) (t:TE):Prop :=
  ∀ (pins:List (Addr × Obj)) (s:Shared) (σ:St) (H:Hp) (Q:VK),Inv X pins σ H s → t σ H Q → wpAny (model X.prog X.w) X.A (eval e X.env) (EP X pins σ Q) X.xe s
noncomputable def PT (X:Cx) (e:Expr) (t:TT):Prop :=
  ∀ (pins:List (Addr × Obj)) (s:Shared) (σ:St) (H:Hp) (Q:Bool → Hp → Prop),Inv X pins σ H s → t σ H Q → wpAny (model X.prog X.w) X.A (isTrue e X.env (eval e X.env)) (TP X pins σ Q) X.xe s
noncomputable def PW (X:Cx) (e:Expr) (t:TT):Prop :=
  ∀ (whole:Sem Value) (pins:List (Addr × Obj)) (s:Shared) (σ:St) (H:Hp) (Q:Bool → Hp → Prop),Inv X pins σ H s → t σ H Q → wpAny (model X.prog X.w) X.A (isTrue e X.env whole) (TP X pins σ Q) X.xe s
theorem PW.pt {X:Cx} {e:Expr} {t:TT} (h:PW X e t):PT X e t:=h _
noncomputable def PA (X:Cx) (es:List Expr) (t:TA):Prop :=
  ∀ (pos:Pos) (pins:List (Addr × Obj)) (s:Shared) (σ:St) (H:Hp) (Q:List V → Hp → Prop),Inv X pins σ H s → t σ H Q → wpAny (model X.prog X.w) X.A (spliced (backTo pos (starEach es X.env))) (AP X pins σ Q) X.xe s
noncomputable def PS (X:Cx) (st:Stmt) (t:TS):Prop :=
  ∀ (pins:List (Addr × Obj)) (s:Shared) (σ:St) (H:Hp) (D:Ends),Inv X pins σ H s → t D σ H → wpAny (model X.prog X.w) X.A (exec st X.env) (SP X pins D) X.xe s
noncomputable def PSs (X:Cx) (st:List Stmt) (t:TS):Prop :=
  ∀ (pins:List (Addr × Obj)) (s:Shared) (σ:St) (H:Hp) (D:Ends),Inv X pins σ H s → t D σ H → wpAny (model X.prog X.w) X.A (execs st X.env) (SP X pins D) X.xe s
theorem thn {α:Type} {t:Sem α} {Q Q':α → Shared → Prop} {M:Model} {A:Around} {E:Value → Shared → Prop} {s:Shared} (h:wpAny M A t Q E s) (hQ:∀ a s,Q a s → Q' a s):wpAny M A t Q' E s:=wpAny_mono h hQ fun _ _ x => x
end L2
namespace L2
open PySem PySem.Spec PyProof.Rows
section
variable {X:Cx}
noncomputable def tVar (i:Nat):TE:=fun σ H Q => ∃ v,σ[i]? = some (some v) ∧ Q v H
noncomputable def tC (v:V):TE:=fun _ H Q => Q v H
theorem pe_var {i:Nat} {x:Str} {pos:Pos} (hN:X.N[i]? = some x) (hv:Vis X.env.scope x) (hd:(x == ("__debug__":Str)) = false:=by decide) (hcd:(x == ("__classdict__":Str)) = false:=by decide):PE X (.Name x pos) (tVar i):=by
  intro pins s σ H Q I h
  obtain ⟨v,e,h⟩:=h
  obtain ⟨m,hn,hl⟩:=I.loc
  obtain ⟨u,r,l⟩:=hl i x v hN e hv
  have fin:EP X pins σ Q u s:=⟨v,H,I,r,h⟩
  rcases l with ⟨hk,hm⟩ | ⟨hk,c,hc,hcell⟩
  · exact wpAny_Name (wpAny_loadName_local I.ok.kind hk hn hm fin) hd
  · rcases hk with hk | hk
    · exact wpAny_Name (wpAny_loadName_cell I.ok.kind hk hc hcell fin) hd
    · exact wpAny_Name (wpAny_loadName_free I.ok.kind hk hc hcell fin hcd) hd
theorem pe_int {i j pos}:PE X (.Constant (.int i) j pos) (tC (.int i)):=fun _ _ _ H _ I h => wpAny_Constant_int ⟨.int i,H,I.tok _,⟨_,rfl⟩,h⟩
theorem pe_bl {b j pos}:PE X (.Constant (.bool b) j pos) (tC (.bl b)):=fun _ _ _ H _ I h => Constant_bool ⟨.bl b,H,I,rfl,h⟩
theorem pe_non {j pos}:PE X (.Constant .none j pos) (tC .non):=fun _ _ _ H _ I h => Constant_none ⟨.non,H,I,rfl,h⟩
theorem pe_str {x j pos}:PE X (.Constant (.str x) j pos) (tC (.str x)):=fun _ _ _ H _ I h => Calls.Constant_str ⟨.str x,H,I.tok _,⟨_,rfl⟩,h⟩
noncomputable def Gl (X:Cx) (x:Str):Prop:=X.env.kindOf x = some .globalImplicit
theorem ld_glob {E:Value → Shared → Prop} {pins:List (Addr × Obj)} {s:Shared} {σ:St} {H:Hp} {x:Str} {u:Value} {pos:Pos} {Q:Value → Shared → Prop} (I:Inv X pins σ H s) (hg:Gl X x) (hm:X.mg x = some u) (h:Q u s)
    (hd:(x == ("__debug__":Str)) = false:=by decide):wpAny (model X.prog X.w) X.A (eval (.Name x pos) X.env) Q E s :=
  Calls.Name_function_global I.ok.kind hg (Calls.loadGlobal_global (by rw [I.ok.glob]; exact I.mod.glob.keeps I.bk) hm h) hd
theorem ld_blt {E:Value → Shared → Prop} {pins:List (Addr × Obj)} {s:Shared} {σ:St} {H:Hp} {x:Str} {u:Value} {pos:Pos} {Q:Value → Shared → Prop} (I:Inv X pins σ H s) (hg:Gl X x) (hm:X.mg x = none) (hv:bootBuiltins x = some u) (h:Q u s)
    (hn:x ≠ "__name__":=by decide) (hd:(x == ("__debug__":Str)) = false:=by decide):wpAny (model X.prog X.w) X.A (eval (.Name x pos) X.env) Q E s:=by
  obtain ⟨mb,h1,h2⟩:=I.mod.blt
  exact Calls.Name_function_global I.ok.kind hg (Calls.loadGlobal_builtin (by rw [I.ok.glob]; exact I.mod.glob.keeps I.bk) hm (by rw [I.ok.blt]; exact h1.keeps I.bk) ((h2 x hn).trans hv) h) hd
theorem pe_glob {x:Str} {v:V} {u:Value} {pos:Pos} (hg:Gl X x) (hm:X.mg x = some u) (r:RelV v u) (hd:(x == ("__debug__":Str)) = false:=by decide):PE X (.Name x pos) (tC v) :=
  fun _ _ _ H _ I h => ld_glob I hg hm ⟨v,H,I,r,h⟩ hd
theorem pe_bltn {x:Str} {v:V} {u:Value} {pos:Pos} (hg:Gl X x) (hm:X.mg x = none) (hv:bootBuiltins x = some u) (r:RelV v u) (hn:x ≠ "__name__":=by decide) (hd:(x == ("__debug__":Str)) = false:=by decide):PE X (.Name x pos) (tC v) :=
  fun _ _ _ H _ I h => ld_blt I hg hm hv ⟨v,H,I,r,h⟩ hn hd
variable {a b:Expr} {ta tb:TE} {pos:Pos}
noncomputable def PC (X:Cx) (op:CmpOp) (a b:Expr) (t:TE):Prop :=
  ∀ (pins:List (Addr × Obj)) (s:Shared) (σ:St) (H:Hp) (Q:VK),Inv X pins σ H s → t σ H Q →
    wpAny (model X.prog X.w) X.A (eval a X.env) (fun v s₁ => wpAny (model X.prog X.w) X.A (eval b X.env) (fun u s₂ => wpAny (model X.prog X.w) X.A (compareOp op v u) (EP X pins σ Q) X.xe s₂) X.xe s₁) X.xe s
noncomputable def tB (t:TE):TT:=fun σ H Q => t σ H fun x H1 => ∃ c,x = .bl c ∧ Q c H1
theorem pt_cmp {op:CmpOp} {t:TE} (h:PC X op a b t) (h1:behindInMarks op b = false:=by first | exact nobehind _ (by decide) (by decide) | rfl):PT X (.Compare a [op] [b] pos) (tB t):=by
  intro pins s σ H Q I hw
  refine wpAny_isTrue_Compare1 (thn (h pins s σ H _ I hw) fun v s1 h1 => thn h1 fun u s2 h2 => thn h2 fun c s3 ⟨x,H1,I1,r1,q1⟩ => ?_) h1
  obtain ⟨d,rfl,q⟩:=q1
  cases r1
  exact wpAny_truthy_bool ⟨H1,I1,q⟩
theorem pt_val {e:Expr} {t:TE} (h:PE X e t) (he:∀ whole,isTrue e X.env whole = (do let v ← whole; standAt e.pos; holding [v] (truthy v)):=by intro _; rfl):PT X e (tB t):=by
  intro pins s σ H Q I hw
  refine isTrue_plain (thn (h pins s σ H _ I hw) fun v s1 ⟨x,H1,I1,r1,q1⟩ => ?_) (he _)
  obtain ⟨d,rfl,q⟩:=q1
  cases r1
  exact wpAny_truthy_bool ⟨H1,I1,q⟩
variable {tA tB':TT} {rest:List Expr}
noncomputable def tAnd (t u:TT):TT:=fun σ H Q => t σ H fun c H1 => if c = true then u σ H1 Q else Q false H1
noncomputable def tOr (t u:TT):TT:=fun σ H Q => t σ H fun c H1 => if c = true then Q true H1 else u σ H1 Q
noncomputable def tNot (t:TT):TT:=fun σ H Q => t σ H fun c H1 => Q (!c) H1
theorem pw_and1 (ha:PT X a tA):PW X (.BoolOp .And [a] pos) tA:=by
  intro wh pins s σ H Q I h
  refine isTrue_and (thn (ha pins s σ H Q I h) fun c s1 e => ?_)
  cases c with
  | true => exact isTrue_and_nil e
  | false => exact e
theorem pw_or1 (ha:PT X a tA):PW X (.BoolOp .Or [a] pos) tA:=by
  intro wh pins s σ H Q I h
  refine isTrue_or (thn (ha pins s σ H Q I h) fun c s1 e => ?_)
  cases c with
  | false => exact isTrue_or_nil e
  | true => exact e
theorem pw_and (ha:PT X a tA) (hb:PW X (.BoolOp .And (b :: rest) pos) tB'):PW X (.BoolOp .And (a :: b :: rest) pos) (tAnd tA tB'):=by
  intro wh pins s σ H Q I h
  refine isTrue_and (thn (ha pins s σ H _ I h) fun c s1 ⟨H1,I1,q1⟩ => ?_)
  cases c with
  | true => exact hb wh pins s1 σ H1 Q I1 q1
  | false => exact ⟨H1,I1,q1⟩
theorem pw_or (ha:PT X a tA) (hb:PW X (.BoolOp .Or (b :: rest) pos) tB'):PW X (.BoolOp .Or (a :: b :: rest) pos) (tOr tA tB'):=by
  intro wh pins s σ H Q I h
  refine isTrue_or (thn (ha pins s σ H _ I h) fun c s1 ⟨H1,I1,q1⟩ => ?_)
  cases c with
  | true => exact ⟨H1,I1,q1⟩
  | false => exact hb wh pins s1 σ H1 Q I1 q1
theorem pt_not (ha:PT X a tA):PT X (.UnaryOp .Not a pos) (tNot tA):=by
  intro pins s σ H Q I h
  exact isTrue_not (ha pins s σ H (fun c H1 => Q (!c) H1) I h)
noncomputable def tAndV (ta tb:TE):TE:=fun σ H Q => ta σ H fun x H1 => ∃ c,x = .bl c ∧ if c = true then tb σ H1 Q else Q (.bl false) H1
noncomputable def tNotV (ta:TE):TE:=fun σ H Q => ta σ H fun x H1 => ∃ c,x = .bl c ∧ Q (.bl (!c)) H1
theorem pe_one {op} {t:TE} (h:PE X a t):PE X (.BoolOp op [a] pos) t:=fun pins s σ H Q I hw => BoolOp_one (h pins s σ H Q I hw)
theorem pe_and (ha:PE X a ta) (hb:PE X (.BoolOp .And (b :: rest) pos) tb):PE X (.BoolOp .And (a :: b :: rest) pos) (tAndV ta tb):=by
  intro pins s σ H Q I h
  refine BoolOp_and (thn (ha pins s σ H _ I h) fun v s1 ⟨x,H1,I1,r1,q1⟩ => ?_)
  obtain ⟨c,rfl,q1⟩:=q1
  cases r1
  refine wpAny_truthy_bool ?_
  cases c with
  | true => exact hb pins s1 σ H1 Q I1 q1
  | false => exact ⟨.bl false,H1,I1,rfl,q1⟩
theorem pe_not (ha:PE X a ta):PE X (.UnaryOp .Not a pos) (tNotV ta):=by
  intro pins s σ H Q I h
  refine UnaryOp_ (thn (ha pins s σ H _ I h) fun v s1 ⟨x,H1,I1,r1,q1⟩ => ?_)
  obtain ⟨c,rfl,q1⟩:=q1
  cases r1
  exact not_of (wpAny_truthy_bool ⟨.bl (!c),H1,I1,rfl,q1⟩)
end
end L2
namespace L2
open PySem PySem.Spec PyProof.Rows
noncomputable def SqL (K:PySem.W.Frag) (H:Hp) (a:Addr) (xs:List V):Prop :=
  Rd H a (.lst xs) ∨
    ∃ (o:Obj) (its:Array Value) (n:Nat),K.lookup a = some o ∧ o.cls = .type "list" ∧ o.dict = none ∧ o.data = .seq its n ∧ its.size ≤ sizeLine ∧ Vals xs its.toList
noncomputable def SqT (K:PySem.W.Frag) (H:Hp) (a:Addr) (xs:List V):Prop :=
  Rd H a (.tup xs) ∨
    ∃ (o:Obj) (its:Array Value) (n:Nat),K.lookup a = some o ∧ o.cls = .type "tuple" ∧ o.data = .seq its n ∧ its.size ≤ sizeLine ∧ Vals xs its.toList
noncomputable def absV:Value → Option V
  | .none => some .non
  | .bool b => some (.bl b)
  | .int i _ => some (.int i)
  | .str x _ => some (.str x)
  | .bytes b _ => some (.byt b)
  | .float b _ => some (.flt b)
  | .ref a => some (.ref a)
  | .type n => some (.ty n)
  | _ => none
theorem RelV.abs {x:V} {u:Value} (r:RelV x u):absV u = some x:=by
  cases x with
  | non => cases r; rfl
  | bl _ => cases r; rfl
  | int _ => obtain ⟨t,rfl⟩:=r; rfl
  | str _ => obtain ⟨t,rfl⟩:=r; rfl
  | byt _ => obtain ⟨t,rfl⟩:=r; rfl
  | flt _ => obtain ⟨t,rfl⟩:=r; rfl
  | ref _ => cases r; rfl
  | ty _ => cases r; rfl
theorem RelV.inj {x y:V} {u:Value} (r:RelV x u) (q:RelV y u):x = y:=Option.some.inj (r.abs.symm.trans q.abs)
theorem Vals.inj:∀ {xs ys:List V} {us:List Value},Vals xs us → Vals ys us → xs = ys
  | _,_,_,.nil,.nil => rfl
  | _,_,_,.cons r t,.cons r' t' => by rw [r.inj r',Vals.inj t t']
section
variable {X:Cx} {pins:List (Addr × Obj)} {σ:St} {H:Hp} {s:Shared} {a:Addr} {xs ys:List V}
theorem SqL.of {K:PySem.W.Frag} (h:H a = some (.lst xs)):SqL K H a xs:=.inl (.inl h)
theorem SqT.of {K:PySem.W.Frag} (h:H a = some (.tup xs)):SqT K H a xs:=.inl (.inl h)
theorem Inv.list (I:Inv X pins σ H s) (h:SqL X.K H a xs):∃ its:List Value,Vals xs its ∧ PlainL s.heap a its.toArray ∧ xs.length ≤ sizeLine:=by
  rcases h with h | ⟨o,its,n,hk,hc,hd,hs,hz,r⟩
  · obtain ⟨z,its,n,r,e⟩:=h.ok I.hok
    exact ⟨its,r,⟨_,n,e,rfl,rfl,rfl⟩,z⟩
  · refine ⟨its.toList,r,⟨o,n,I.kIn a o hk,hc,hd,by simpa using hs⟩,?_⟩
    have e:=r.length
    simp only [Array.length_toList] at e
    omega
theorem Inv.tuple (I:Inv X pins σ H s) (h:SqT X.K H a xs):∃ its:List Value,Vals xs its ∧ IsTup s.heap a its.toArray ∧ xs.length ≤ sizeLine:=by
  rcases h with h | ⟨o,its,n,hk,hc,hs,hz,r⟩
  · obtain ⟨z,its,r,p⟩:=h.ok I.hok
    exact ⟨its,r,p,z⟩
  · refine ⟨its.toList,r,⟨o,I.kIn a o hk,hc,n,by simpa using hs⟩,?_⟩
    have e:=r.length
    simp only [Array.length_toList] at e
    omega
theorem Inv.list_inj (I:Inv X pins σ H s) (h:SqL X.K H a xs) (h':SqL X.K H a ys):xs = ys:=by
  obtain ⟨its,r,⟨o,n,e,_,_,d⟩,_⟩:=I.list h
  obtain ⟨its',r',⟨o',n',e',_,_,d'⟩,_⟩:=I.list h'
  rw [e] at e'; cases e'
  rw [d] at d'
  injection d' with d1 _
  have:its = its':=by simpa using congrArg Array.toList d1
  subst this
  exact r.inj r'
theorem Inv.tuple_inj (I:Inv X pins σ H s) (h:SqT X.K H a xs) (h':SqT X.K H a ys):xs = ys:=by
  obtain ⟨its,r,⟨o,e,_,n,d⟩,_⟩:=I.tuple h
  obtain ⟨its',r',⟨o',e',_,n',d'⟩,_⟩:=I.tuple h'
  rw [e] at e'; cases e'
  rw [d] at d'
  injection d' with d1 _
  have:its = its':=by simpa using congrArg Array.toList d1
  subst this
  exact r.inj r'
end
noncomputable abbrev Cx.wish (X:Cx) (E:Value → Shared → Prop):Cx:={ X with xe:=E }
noncomputable abbrev Cx.nox (X:Cx):Cx:=X.wish fun _ _ => False
theorem Cx.Ok.wish {X:Cx} (ok:X.Ok) (E:Value → Shared → Prop):(X.wish E).Ok :=
  ⟨ok.mod,ok.kind,ok.glob,ok.blt,ok.above,ok.inj,ok.has,ok.cab,ok.hd,ok.frames,ok.stk,ok.exf,ok.bs,ok.bsz,ok.noex,ok.exfs,ok.funs,ok.frf⟩
theorem Cx.Ok.unwish {X:Cx} {E:Value → Shared → Prop} (ok:(X.wish E).Ok):X.Ok :=
  ⟨ok.mod,ok.kind,ok.glob,ok.blt,ok.above,ok.inj,ok.has,ok.cab,ok.hd,ok.frames,ok.stk,ok.exf,ok.bs,ok.bsz,ok.noex,ok.exfs,ok.funs,ok.frf⟩
section
variable {X:Cx} {pins:List (Addr × Obj)} {σ:St} {H:Hp} {s:Shared} {E:Value → Shared → Prop}
theorem Inv.wish (I:Inv X pins σ H s) (E:Value → Shared → Prop):Inv (X.wish E) pins σ H s:=⟨I.ok.wish E,I.os,I.bare,I.base,I.loc,I.cell,I.free,I.freeC,I.pin,I.hok,I.len⟩
theorem Inv.unwish (I:Inv (X.wish E) pins σ H s):Inv X pins σ H s:=⟨I.ok.unwish,I.os,I.bare,I.base,I.loc,I.cell,I.free,I.freeC,I.pin,I.hok,I.len⟩
theorem SP.unwish {D:Ends} {f:Flow} {s':Shared} (h:SP (X.wish E) pins D f s'):SP X pins D f s':=by
  cases f with
  | next => obtain ⟨σ',H',I,q⟩:=h; exact ⟨σ',H',I.unwish,q⟩
  | brk => obtain ⟨σ',H',I,q⟩:=h; exact ⟨σ',H',I.unwish,q⟩
  | cont => obtain ⟨σ',H',I,q⟩:=h; exact ⟨σ',H',I.unwish,q⟩
  | ret u => obtain ⟨v,σ',H',I,r,q⟩:=h; exact ⟨v,σ',H',I.unwish,r,q⟩
theorem PSs.nox {st:List Stmt} {t:TS} (h:PSs X.nox st t):PSs X st t:=fun pins s σ H D I hw =>
  wpAny_mono (h pins s σ H D (I.wish _) hw) (fun _ _ q => q.unwish) fun _ _ z => False.elim z
end
section
variable {X:Cx} {st:Stmt} {rest:List Stmt} {t u:TS} {e:Expr} {te:TE} {pos:Pos}
noncomputable def tNext:TS:=fun D σ H => D.nx σ H
noncomputable def tSeq (t u:TS):TS:=fun D σ H => t { D with nx:=u D } σ H
theorem pss_nil:PSs X [] tNext:=fun _ _ σ H _ I h => wpAny_execs_nil ⟨σ,H,I,h⟩
theorem pss_cons (h1:PS X st t) (h2:PSs X rest u):PSs X (st :: rest) (tSeq t u):=by
  intro pins s σ H D I h
  refine wpAny_execs_cons (thn (h1 pins s σ H { D with nx:=u D } I h) fun f s1 q => ?_)
  cases f with
  | next =>
    obtain ⟨σ',H',I',q⟩:=q
    exact h2 pins s1 σ' H' D I' q
  | ret v => exact q
  | brk => exact q
  | cont => exact q
theorem pss_one (h1:PS X st t):PSs X [st] t:=by
  intro pins s σ H D I h
  refine wpAny_execs_cons (thn (h1 pins s σ H D I h) fun f s1 q => ?_)
  cases f with
  | next => exact wpAny_execs_nil q
  | ret v => exact q
  | brk => exact q
  | cont => exact q
theorem Inv.quiet {pins:List (Addr × Obj)} {σ:St} {H:Hp} {s:Shared} (I:Inv X pins σ H s):interactive X.env = false:=by simp [interactive,I.ok.kind]
noncomputable def tDrop (te:TE):TS:=fun D σ H => te σ H fun _ H1 => D.nx σ H1
theorem ps_expr (he:PE X e te) (hs:swapsWith e none pos.line X.env = pure false:=by rfl):PS X (.Expr e pos) (tDrop te):=by
  intro pins s σ H D I h
  exact wpAny_Expr_any (thn (he pins s σ H _ I h) fun v s1 ⟨x,H1,I1,r1,q1⟩ => ⟨σ,H1,I1,q1⟩) I.quiet hs
noncomputable def tRet (te:TE):TS:=fun D σ H => te σ H D.rt
theorem ps_ret (he:PE X e te):PS X (.Return (some e) pos) (tRet te):=by
  intro pins s σ H D I h
  exact wpAny_Return_some (thn (he pins s σ H _ I h) fun v s1 ⟨x,H1,I1,r1,q1⟩ => ⟨x,σ,H1,I1,r1,q1⟩)
noncomputable def tIfS (c:TT) (t u:TS):TS:=fun D σ H => c σ H fun b H1 => if b = true then t D σ H1 else u D σ H1
theorem ps_if {c:Expr} {a b:List Stmt} {tc:TT} (hc:PT X c tc) (ha:PSs X a t) (hb:PSs X b u):PS X (.If c a b pos) (tIfS tc t u):=by
  intro pins s σ H D I h
  refine wpAny_If (thn (hc pins s σ H _ I h) fun d s1 ⟨H1,I1,q1⟩ => ?_)
  cases d with
  | true => exact ha pins s1 σ H1 D I1 q1
  | false => exact hb pins s1 σ H1 D I1 q1
end
noncomputable abbrev TG:=V → St → Hp → (St → Hp → Prop) → Prop
noncomputable abbrev TGs:=List V → St → Hp → (St → Hp → Prop) → Prop
noncomputable def PG (X:Cx) (target:Expr) (t:TG):Prop :=
  ∀ (pins:List (Addr × Obj)) (s:Shared) (σ:St) (H:Hp) (v:V) (u:Value) (Q:St → Hp → Prop),Inv X pins σ H s → RelV v u → t v σ H Q →
    wpAny (model X.prog X.w) X.A (assign target X.env u) (fun _ s' => ∃ σ' H',Inv X pins σ' H' s' ∧ Q σ' H') X.xe s
noncomputable def PGs (X:Cx) (ts:List Expr) (t:TGs):Prop :=
  ∀ (pins:List (Addr × Obj)) (s:Shared) (σ:St) (H:Hp) (vs:List V) (us:List Value) (Q:St → Hp → Prop),Inv X pins σ H s → Vals vs us → t vs σ H Q →
    wpAny (model X.prog X.w) X.A (assignInOrder ((assignEach ts X.env).map (·.2)) us) (fun _ s' => ∃ σ' H',Inv X pins σ' H' s' ∧ Q σ' H') X.xe s
section
variable {X:Cx} {pos:Pos}
noncomputable def gName (i:Nat):TG:=fun v σ H Q => Q (σ.set i (some v)) H
theorem pg_name {i:Nat} {x:Str} (hN:X.N.Nodup) (hi:X.N[i]? = some x) (hx:Loc X.env.scope x) (hf:X.fn x = true ∨ X.env.scope.names.lookup x = some .local:=by first | exact .inl rfl | exact .inr rfl | assumption):PG X (.Name x pos) (gName i):=by
  intro pins s σ H v u Q I r h
  exact wpAny_assign_Name (store_ok I hN hi hx r (fun s' I' => ⟨_,H,I',h⟩) hf)
noncomputable def gNil:TGs:=fun vs σ H Q => vs = [] ∧ Q σ H
noncomputable def gCons (t:TG) (u:TGs):TGs:=fun vs σ H Q => ∃ v r,vs = v :: r ∧ t v σ H fun σ' H' => u r σ' H' Q
theorem pgs_nil:PGs X [] gNil:=by
  intro pins s σ H vs us Q I r h
  obtain ⟨e,h⟩:=h
  subst e
  cases r
  exact assignInOrder_nil ⟨σ,H,I,h⟩
theorem pgs_cons {e:Expr} {es:List Expr} {t:TG} {u:TGs} (h1:PG X e t) (h2:PGs X es u)
    (hs:(assignEach (e :: es) X.env).map (·.2) = assign e X.env :: (assignEach es X.env).map (·.2):=by rfl):PGs X (e :: es) (gCons t u):=by
  intro pins s σ H vs us Q I r h
  obtain ⟨v,vr,e1,h⟩:=h
  subst e1
  cases r with
  | cons r rr =>
    rw [hs]
    refine assignInOrder_cons (thn (h1 pins s σ H _ _ _ I r h) fun _ s1 ⟨σ1,H1,I1,q1⟩ => ?_)
    exact h2 pins s1 σ1 H1 _ _ Q I1 rr q1
noncomputable def gTup (K:PySem.W.Frag) (n:Nat) (t:TGs):TG:=fun v σ H Q => ∃ a xs,v = .ref a ∧ SqT K H a xs ∧ xs.length = n ∧ t xs σ H Q
theorem pg_tup {es:List Expr} {k:Nat} {t:TGs} {n:Nat} (hc:X.calm = true) (h:PGs X es t)
    (hn:(assignEach es X.env).length = n:=by rfl) (hst:(assignEach es X.env).findIdx? (·.1) = none:=by rfl):PG X (.Tuple es k pos) (gTup X.K n t):=by
  intro pins s σ H v u Q I r hw
  obtain ⟨a,xs,e1,hq,hl,hw⟩:=hw
  subst e1
  cases r
  obtain ⟨its,rv,ht,hz⟩:=I.tuple hq
  refine assign_Tuple_tuple (I.ok.hd hc) ht (by simp [hn,← hl,rv.length]) hst fun h' hx => ?_
  have I1:Inv X pins σ H { s with heap:=h' }:=I.kept (t':=s.toks) fun b o e => hx b o (Nat.ne_of_lt (Heap.lt_size e)) e
  exact h pins _ σ H xs _ Q I1 (by simpa using rv) hw
noncomputable def tAsg (te:TE) (g:TG):TS:=fun D σ H => te σ H fun x H1 => g x σ H1 D.nx
theorem ps_set {i:Nat} {x:Str} {e:Expr} {te:TE} {pos':Pos} (hN:X.N.Nodup) (hi:X.N[i]? = some x) (hx:Loc X.env.scope x) (he:PE X e te) (hs:swapsWith e (some (.Name x pos')) pos.line X.env = pure false:=by rfl) (hf:X.fn x = true ∨ X.env.scope.names.lookup x = some .local:=by first | exact .inl rfl | exact .inr rfl | assumption) :
    PS X (.Assign [.Name x pos'] e pos) (tAsg te (gName i)):=by
  intro pins s σ H D I h
  refine wpAny_Assign_Name (thn (he pins s σ H _ I h) fun v s1 ⟨y,H1,I1,r1,q1⟩ => ?_) hs
  exact store_ok I1 hN hi hx r1 (fun s2 I2 => ⟨_,H1,I2,q1⟩) hf
end
section
variable {X:Cx} {pos:Pos}
noncomputable def tWhile (c:TT) (tb:TS):TS:=fun D σ H => ∃ W:Nat → St → Hp → Prop,(∃ m,W m σ H) ∧ ∀ m σ H,W m σ H →
  c σ H fun b H1 => if b = true then ∃ N:St → Hp → Prop,(∀ σ' H',N σ' H' → ∃ m',m' < m ∧ W m' σ' H') ∧ tb { D with nx:=N,ct:=N,bk:=D.nx } σ H1 else D.nx σ H1
theorem ps_while {c:Expr} {body:List Stmt} {tc:TT} {tb:TS} (hp:PassesOwn (model X.prog X.w) X.A X.env X.xe) (hc:PT X c tc) (hb:PSs X body tb):PS X (.While c body [] pos) (tWhile tc tb):=by
  intro pins s σ H D I h
  obtain ⟨W,⟨m0,w0⟩,turn⟩:=h
  refine wpAny_While (codeAny_whileLoop (fun n s' => ∃ σ' H',Inv X pins σ' H' s' ∧ W n σ' H') ?_ m0 ⟨σ,H,I,w0⟩)
  rintro n s1 ⟨σ1,H1,I1,w1⟩
  refine wpAny_passesOwn hp (thn (hc pins s1 σ1 H1 _ I1 (turn n σ1 H1 w1)) fun b s2 ⟨H2,I2,q2⟩ => ?_)
  cases b with
  | true =>
    obtain ⟨N,hN,q2⟩:=q2
    rw [if_pos rfl]
    refine wpAny_passesOwn hp (thn (hb pins s2 σ1 H2 _ I2 q2) fun f s3 q3 => ?_)
    cases f with
    | next =>
      obtain ⟨σ3,H3,I3,n3⟩:=q3
      obtain ⟨m',hm,w3⟩:=hN σ3 H3 n3
      exact ⟨m',hm,σ3,H3,I3,w3⟩
    | cont =>
      obtain ⟨σ3,H3,I3,n3⟩:=q3
      obtain ⟨m',hm,w3⟩:=hN σ3 H3 n3
      exact ⟨m',hm,σ3,H3,I3,w3⟩
    | brk => exact q3
    | ret v => exact q3
  | false =>
    rw [if_neg Bool.false_ne_true]
    exact wpAny_execs_nil ⟨σ1,H2,I2,q2⟩
end
structure It where
  go:Nat → Hp → Prop
  yld:Nat → Hp → V → Hp → Prop
  stop:Nat → Hp → Prop
noncomputable def FpOk (X:Cx) (pins:List (Addr × Obj)) (H:Hp) (b:Addr):Prop :=
  H b = none ∧ b ≠ X.env.locals ∧ b ∉ X.fs ∧ (b ∈ X.ex ∨ X.s₀.heap.objs.size ≤ b) ∧ (∀ x c,X.env.cells.lookup x = some c → c ≠ b) ∧ ∀ p ∈ X.pn ++ pins,p.1 ≠ b
theorem Inv.fpOk {X:Cx} {pins:List (Addr × Obj)} {σ:St} {H H':Hp} {s:Shared} {b:Addr} (I:Inv X pins σ H s) (hb:s.heap.objs.size ≤ b) (hn:H' b = none):FpOk X pins H' b:=by
  refine ⟨hn,Nat.ne_of_gt (Nat.lt_of_lt_of_le I.lt hb),I.nofs hb,.inr (Nat.le_trans I.sz hb),fun x c e z => ?_,fun p hp z => ?_⟩
  · obtain ⟨v,q⟩:=I.cell x c e
    exact absurd (Nat.lt_of_lt_of_le q.lt (by rw [z]; exact hb)) (Nat.lt_irrefl _)
  · exact absurd (Nat.lt_of_lt_of_le (Heap.lt_size (I.pin p hp).1) (by rw [z]; exact hb)) (Nat.lt_irrefl _)
structure Turn (P:Program) (w:World) (K:PySem.W.Frag) (tg:Expr) (J:It) (fp:List Addr) (it:Addr) (tn:Nat → Heap → Prop):Prop where
  mem:it ∈ fp
  obj:∀ i h,tn i h → ∀ b ∈ fp,∃ o,h.get? b = some o ∧ ∀ v,o.data ≠ .cell v
  keep:∀ i h h',tn i h → (∀ b ∈ fp,∀ o,h.get? b = some o → h'.get? b = some o) → tn i h'
  item:∀ (X:Cx),X.prog = P → X.w = w → X.K = K → X.calm = true → ∀ (i:Nat) (pins:List (Addr × Obj)) (s:Shared) (σ:St) (H:Hp) (E:Value → Shared → Prop),Inv X pins σ H s → (∀ b ∈ fp,FpOk X pins H b) → tn i s.heap → J.go i H →
    wpAny (model P w) X.A (pyNext (.ref it)) (fun r s1 => ∃ u,r = some u ∧
      wpAny (model P w) X.A (letOwnedTupleGo tg (.ref it) u) (fun _ s2 => ∃ x H',Inv X pins σ H' s2 ∧ RelV x u ∧ J.yld i H x H' ∧ tn (i + 1) s2.heap ∧ ∀ b ∈ fp,H' b = none) E s1) E s
  done:∀ (X:Cx),X.prog = P → X.w = w → X.K = K → X.calm = true → ∀ (i:Nat) (pins:List (Addr × Obj)) (s:Shared) (σ:St) (H:Hp) (E:Value → Shared → Prop),Inv X pins σ H s → (∀ b ∈ fp,FpOk X pins H b) → tn i s.heap → J.stop i H →
    wpAny (model P w) X.A (pyNext (.ref it)) (fun r s1 => r = none ∧ Inv X pins σ H s1) E s
  self:∀ (A:Around) (i:Nat) (s:Shared) (Q:Value → Shared → Prop) (E:Value → Shared → Prop),tn i s.heap → Q (.ref it) s → wpAny (model P w) A (pyIter (.ref it)) Q E s
noncomputable abbrev TI:=St → Hp → (It → Hp → Prop) → Prop
noncomputable def PIE (X:Cx) (pins:List (Addr × Obj)) (σ:St) (tg:Expr) (R:It → Hp → Prop) (itv:Value) (s2:Shared):Prop :=
  ∃ (it:Addr) (fp:List Addr) (tn:Nat → Heap → Prop) (J:It) (H':Hp),itv = .ref it ∧ Inv X pins σ H' s2 ∧ Turn X.prog X.w X.K tg J fp it tn ∧ tn 0 s2.heap ∧ (∀ b ∈ fp,FpOk X pins H' b) ∧ R J H'
noncomputable def PI (X:Cx) (tg iter:Expr) (wi:TI):Prop :=
  ∀ (pins:List (Addr × Obj)) (s:Shared) (σ:St) (H:Hp) (R:It → Hp → Prop),Inv X pins σ H s → wi σ H R →
    wpAny (model X.prog X.w) X.A (eval iter X.env) (fun v s1 => wpAny (model X.prog X.w) X.A (pyIter v) (PIE X pins σ tg R) X.xe s1) X.xe s
theorem go_of {M:Model} {A:Around} {E:Value → Shared → Prop} {s:Shared} {tg:Expr} {it:Addr} {u:Value} {o:Obj} {n:String} {vs:Array Value} {Q:Unit → Shared → Prop} (ho:s.heap.get? it = some o) (hc:o.cls = .type n) (hd:o.data = .fields vs)
    (hn:["enumerate","zip","dict_itemiterator","dict_reverseitemiterator","odict_iterator","itertools.zip_longest","itertools.pairwise"].contains n = false) (hQ:Q () s):wpAny M A (letOwnedTupleGo tg (.ref it) u) Q E s:=by
  unfold letOwnedTupleGo
  cases tg <;> first
    | exact wpAny_pure hQ
    | (cases u <;> first
        | exact wpAny_pure hQ
        | (refine wpAny_bind (wpAny_load ho ?_)
           rw [hc,hd]
           show wpAny M A (if (["enumerate","zip","dict_itemiterator","dict_reverseitemiterator","odict_iterator","itertools.zip_longest","itertools.pairwise"].contains n && vs[0]? == some (rawInt _)) = true then _ else _) Q E s
           rw [if_neg (by intro h; rw [hn,Bool.false_and] at h; cases h)]
           exact wpAny_pure hQ))
noncomputable def Itl (K:PySem.W.Frag) (a:Addr):It :=
  ⟨fun i H => ∃ xs x,SqL K H a xs ∧ xs[i]? = some x,fun i H x H' => H' = H ∧ ∀ xs,SqL K H a xs → xs[i]? = some x,fun i H => ∃ xs,SqL K H a xs ∧ xs.length ≤ i⟩
noncomputable def Itt (K:PySem.W.Frag) (a:Addr):It :=
  ⟨fun i H => ∃ xs x,SqT K H a xs ∧ xs[i]? = some x,fun i H x H' => H' = H ∧ ∀ xs,SqT K H a xs → xs[i]? = some x,fun i H => ∃ xs,SqT K H a xs ∧ xs.length ≤ i⟩
noncomputable def Itr (lo:Int) (n:Nat):It:=⟨fun i _ => i < n,fun i H x H' => H' = H ∧ x = .int (lo + i),fun i _ => n ≤ i⟩
theorem turn_list {P:Program} {w:World} {K:PySem.W.Frag} {tg:Expr} (a it:Addr):Turn P w K tg (Itl K a) [it] it (fun i h => h.IsListIter it a i) where
  mem:=by simp
  obj:=fun i h st b hb => by
    have e:b = it:=by simpa using hb
    subst e
    obtain ⟨o,e,c,d⟩:=st
    exact ⟨o,e,fun v z => by rw [d] at z; cases z⟩
  keep:=fun i h h' st k => st.at fun o e => k it (by simp) o e
  item:=by
    intro X hP hw hK hc i pins s σ H E I hf st hg
    subst hP hw hK
    obtain ⟨xs,x,hq,hx⟩:=hg
    obtain ⟨its,rv,p,hz⟩:=I.list hq
    obtain ⟨u,hu,ru⟩:=rv.get hx
    obtain ⟨f0,f1,f2,f3,f4,f5⟩:=hf it (by simp)
    refine wpAny_pyNext_list_item st p.isList (x:=u) (by simpa using hu) fun h' st' sb => ?_
    have I1:Inv X pins σ H { s with heap:=h' }:=I.turned (t':=s.toks) (fun b o hb e => (sb.2 b hb).trans e) f0 f1 f3 f4 f5
    obtain ⟨o,e,c,d⟩:=id st'
    exact ⟨u,rfl,go_of (s:={ s with heap:=h' }) e c d (by decide) ⟨x,H,I1,ru,⟨rfl,fun ys hy => by rw [I.list_inj hy hq]; exact hx⟩,st',fun b hb => (hf b hb).1⟩⟩
  done:=by
    intro X hP hw hK hc i pins s σ H E I hf st hg
    subst hP hw hK
    obtain ⟨xs,hq,hx⟩:=hg
    obtain ⟨its,rv,p,hz⟩:=I.list hq
    obtain ⟨f0,f1,f2,f3,f4,f5⟩:=hf it (by simp)
    have hl:=rv.length
    exact wpAny_pyNext_list_end (I.ok.hd hc) st p.isList (by simp; omega) fun h' eb => ⟨rfl,I.turned (t':=s.toks) (fun b o hb e => eb b o hb e) f0 f1 f3 f4 f5⟩
  self:=fun _ _ _ _ _ st h => wpAny_pyIter_listiter st h
theorem turn_tuple {P:Program} {w:World} {K:PySem.W.Frag} {tg:Expr} (a it:Addr):Turn P w K tg (Itt K a) [it] it (fun i h => h.IsTupleIter it a i) where
  mem:=by simp
  obj:=fun i h st b hb => by
    have e:b = it:=by simpa using hb
    subst e
    obtain ⟨o,e,c,d⟩:=st
    exact ⟨o,e,fun v z => by rw [d] at z; cases z⟩
  keep:=fun i h h' st k => st.at fun o e => k it (by simp) o e
  item:=by
    intro X hP hw hK hc i pins s σ H E I hf st hg
    subst hP hw hK
    obtain ⟨xs,x,hq,hx⟩:=hg
    obtain ⟨its,rv,p,hz⟩:=I.tuple hq
    obtain ⟨u,hu,ru⟩:=rv.get hx
    obtain ⟨f0,f1,f2,f3,f4,f5⟩:=hf it (by simp)
    refine wpAny_pyNext_tuple_item st (show s.heap.IsTuple a its.toArray from p) (x:=u) (by simpa using hu) fun h' st' sb => ?_
    have I1:Inv X pins σ H { s with heap:=h' }:=I.turned (t':=s.toks) (fun b o hb e => (sb.2 b hb).trans e) f0 f1 f3 f4 f5
    obtain ⟨o,e,c,d⟩:=id st'
    exact ⟨u,rfl,go_of (s:={ s with heap:=h' }) e c d (by decide) ⟨x,H,I1,ru,⟨rfl,fun ys hy => by rw [I.tuple_inj hy hq]; exact hx⟩,st',fun b hb => (hf b hb).1⟩⟩
  done:=by
    intro X hP hw hK hc i pins s σ H E I hf st hg
    subst hP hw hK
    obtain ⟨xs,hq,hx⟩:=hg
    obtain ⟨its,rv,p,hz⟩:=I.tuple hq
    obtain ⟨f0,f1,f2,f3,f4,f5⟩:=hf it (by simp)
    have hl:=rv.length
    exact wpAny_pyNext_tuple_end (I.ok.hd hc) st (show s.heap.IsTuple a its.toArray from p) (by simp; omega) fun h' eb => ⟨rfl,I.turned (t':=s.toks) (fun b o hb e => eb b o hb e) f0 f1 f3 f4 f5⟩
  self:=fun _ _ _ _ _ st h => wpAny_pyIter_tupleiter st h
theorem turn_range {P:Program} {w:World} {K:PySem.W.Frag} {tg:Expr} (it:Addr) (lo:Int) (n:Nat):Turn P w K tg (Itr lo n) [it] it (fun i h => IsRangeIter h it (lo + (i:Nat) * 1) ((n:Int) - (i:Nat)) 1) where
  mem:=by simp
  obj:=fun i h st b hb => by
    have e:b = it:=by simpa using hb
    subst e
    exact ⟨_,st,fun v z => by
      have z':Data.fields _ = Data.cell v:=z
      cases z'⟩
  keep:=fun i h h' st k => k it (by simp) _ st
  item:=by
    intro X hP hw hK hc i pins s σ H E I hf st hg
    subst hP hw hK
    obtain ⟨f0,f1,f2,f3,f4,f5⟩:=hf it (by simp)
    have W:=Walks.range (prog:=X.prog) (w:=X.w) (I.ok.hd hc) it lo 1 n
    refine W.item i s _ _ hg st fun v h' tk hv st' kk => ?_
    obtain ⟨t,rfl⟩:=hv
    have I1:Inv X pins σ H { s with heap:=h',toks:=tk }:=I.turned (fun b o hb e => kk b o (by simpa using hb) e) f0 f1 f3 f4 f5
    refine ⟨_,rfl,go_of (s:={ s with heap:=h',toks:=tk }) (n:="range_iterator") st' rfl rfl (by decide) ⟨.int (lo + i),H,I1,⟨t,?_⟩,⟨rfl,rfl⟩,st',fun b hb => (hf b hb).1⟩⟩
    rw [Int.mul_one]
  done:=by
    intro X hP hw hK hc i pins s σ H E I hf st hg
    subst hP hw hK
    obtain ⟨f0,f1,f2,f3,f4,f5⟩:=hf it (by simp)
    exact wpAny_pyNext_range_end (I.ok.hd hc) st (by have:n ≤ i:=hg; omega) fun h' eb => ⟨rfl,I.turned (t':=s.toks) (fun b o hb e => eb b o hb e) f0 f1 f3 f4 f5⟩
  self:=fun _ _ _ _ _ st h => wpAny_pyIter_rangeiter st h
end L2
namespace L2
open PySem PySem.Spec PyProof.Rows
section
variable {X:Cx} {tg:Expr}
noncomputable def iList (K:PySem.W.Frag) (tl:TE):TI:=fun σ H R => tl σ H fun x H1 => ∃ a,x = .ref a ∧ (∃ xs,SqL K H1 a xs) ∧ R (Itl K a) H1
noncomputable def iTup (K:PySem.W.Frag) (tl:TE):TI:=fun σ H R => tl σ H fun x H1 => ∃ a,x = .ref a ∧ (∃ xs,SqT K H1 a xs) ∧ R (Itt K a) H1
theorem pi_list {l:Expr} {tl:TE} (hl:PE X l tl):PI X tg l (iList X.K tl):=by
  intro pins s σ H R I h
  refine thn (hl pins s σ H _ I h) fun v s1 ⟨x,H1,I1,r1,q1⟩ => ?_
  obtain ⟨a,e,⟨xs,hq⟩,q⟩:=q1
  subst e
  cases r1
  obtain ⟨its,rv,p,hz⟩:=I1.list hq
  refine wpAny_pyIter_list p.isList ?_
  refine ⟨s1.heap.objs.size,[s1.heap.objs.size],_,_,H1,rfl,I1.kept (t':=s1.toks) fun b o e => Heap.get?_push_of_some _ e,turn_list a _,⟨_,Heap.get?_push_size _ rfl,rfl,rfl⟩,fun b hb => ?_,q⟩
  have e:b = s1.heap.objs.size:=by simpa using hb
  subst e
  exact I1.fpOk (Nat.le_refl _) (I1.hok.fresh (Nat.le_refl _))
theorem pi_tup {l:Expr} {tl:TE} (hl:PE X l tl):PI X tg l (iTup X.K tl):=by
  intro pins s σ H R I h
  refine thn (hl pins s σ H _ I h) fun v s1 ⟨x,H1,I1,r1,q1⟩ => ?_
  obtain ⟨a,e,⟨xs,hq⟩,q⟩:=q1
  subst e
  cases r1
  obtain ⟨its,rv,p,hz⟩:=I1.tuple hq
  refine wpAny_pyIter_tuple (show s1.heap.IsTuple a its.toArray from p) ?_
  refine ⟨s1.heap.objs.size,[s1.heap.objs.size],_,_,H1,rfl,I1.kept (t':=s1.toks) fun b o e => Heap.get?_push_of_some _ e,turn_tuple a _,⟨_,Heap.get?_push_size _ rfl,rfl,rfl⟩,fun b hb => ?_,q⟩
  have e:b = s1.heap.objs.size:=by simpa using hb
  subst e
  exact I1.fpOk (Nat.le_refl _) (I1.hok.fresh (Nat.le_refl _))
theorem range_it {pins:List (Addr × Obj)} {σ:St} {H:Hp} {s:Shared} {R:It → Hp → Prop} {E:Value → Shared → Prop} {lo hi:Int} {t u v:Tok} {tk:Nat} (I:Inv X pins σ H s) (h1:-(2 ^ 62) ≤ lo) (h2:lo < 2 ^ 62) (h3:-(2 ^ 62) ≤ hi) (h4:hi < 2 ^ 62)
    (q:R (Itr lo (hi - lo).toNat) H):wpAny (model X.prog X.w) X.A (pyIter (.ref s.heap.objs.size)) (PIE X pins σ tg R) E { s with heap:=s.heap.push { cls:=.type "range",data:=.fields #[.int lo t,.int hi u,.int 1 v] },toks:=tk }:=by
  refine wpAny_pyIter_range (IsRange.new ..) (small_one h1 h2 h3 h4) ?_
  have I1:Inv X pins σ H { s with heap:=s.heap.push { cls:=.type "range",data:=.fields #[.int lo t,.int hi u,.int 1 v] },toks:=tk }:=I.kept fun b o e => Heap.get?_push_of_some _ e
  refine ⟨(s.heap.push { cls:=.type "range",data:=.fields #[.int lo t,.int hi u,.int 1 v] }).objs.size,[(s.heap.push { cls:=.type "range",data:=.fields #[.int lo t,.int hi u,.int 1 v] }).objs.size],_,_,H,rfl,
    I1.kept (t':=tk) fun b o e => Heap.get?_push_of_some _ e,turn_range _ lo (hi - lo).toNat,?_,fun b hb => ?_,q⟩
  · have e1:lo + ((0:Nat):Int) * 1 = lo:=by simp
    have e2:(((hi - lo).toNat:Nat):Int) - ((0:Nat):Int) = Builtin.Range.rangeSize lo hi 1:=by rw [rangeSize_one]; split <;> omega
    show IsRangeIter _ _ (lo + ((0:Nat):Int) * 1) ((((hi - lo).toNat:Nat):Int) - ((0:Nat):Int)) 1
    rw [e1,e2]
    exact Heap.get?_push_size _ rfl
  · have e:b = (s.heap.push { cls:=.type "range",data:=.fields #[.int lo t,.int hi u,.int 1 v] }).objs.size:=by simpa using hb
    subst e
    exact I1.fpOk (Nat.le_refl _) (I1.hok.fresh (Nat.le_refl _))
noncomputable def iRng1 (ta:TA):TI:=fun σ H R => ta σ H fun vs H1 => ∃ j:Int,vs = [.int j] ∧ -(2 ^ 62) ≤ j ∧ j < 2 ^ 62 ∧ R (Itr 0 j.toNat) H1
theorem pi_range1 {a:Expr} {ta:TA} {p pos:Pos} (hg:Gl X "range") (hm:X.mg "range" = none) (ha:PA X [a] ta) (hs:starEach [a] X.env = [(false,eval a X.env)]:=by rfl):PI X tg (.Call (.Name "range" p) [a] [] pos) (iRng1 ta):=by
  intro pins s σ H R I h
  refine Call_ (ld_blt I hg hm boot_range (PyProof.Rows.callWith_type1 (thn (ha pos pins s σ H _ I h) fun us s1 ⟨vs,H1,I1,r1,q1⟩ => ?_) hs rfl))
  obtain ⟨j,e,q1,q2,q⟩:=q1
  subst e
  cases r1 with
  | cons r rr =>
    cases rr
    obtain ⟨t,rfl⟩:=r
    exact call_range_1 (range_it I1 (by omega) (by omega) q1 q2 (by simpa using q))
noncomputable def tFor (wi:TI) (g:TG) (tb:TS):TS:=fun D σ H => wi σ H fun J H1 => ∃ W:Nat → Nat → St → Hp → Prop,(∃ m,W 0 m σ H1) ∧ ∀ i m σ H,W i m σ H →
  (J.stop i H ∧ D.nx σ H) ∨ (J.go i H ∧ ∃ N:St → Hp → Prop,(∀ σ' H',N σ' H' → ∃ m',m' < m ∧ W (i + 1) m' σ' H') ∧ ∀ x H',J.yld i H x H' → g x σ H' fun σ2 H2 => tb { D with nx:=N,ct:=N,bk:=D.nx } σ2 H2)
noncomputable def pinsAt (fp:List Addr) (h:Heap):List (Addr × Obj):=fp.filterMap fun b => (h.get? b).map fun o => (b,o)
theorem mem_pinsAt {fp:List Addr} {h:Heap} {b:Addr} {o:Obj} (hb:b ∈ fp) (e:h.get? b = some o):(b,o) ∈ pinsAt fp h:=List.mem_filterMap.mpr ⟨b,hb,by rw [e]; rfl⟩
theorem of_pinsAt {fp:List Addr} {h:Heap} {p:Addr × Obj} (hp:p ∈ pinsAt fp h):p.1 ∈ fp ∧ h.get? p.1 = some p.2:=by
  obtain ⟨b,hb,e⟩:=List.mem_filterMap.mp hp
  cases q:h.get? b with
  | none => rw [q] at e; cases e
  | some o =>
    rw [q] at e
    have e':(b,o) = p:=Option.some.inj e
    subst e'
    exact ⟨hb,q⟩
theorem Inv.pinned {pins:List (Addr × Obj)} {σ:St} {H:Hp} {s:Shared} {fp:List Addr} (I:Inv X pins σ H s) (hf:∀ b ∈ fp,FpOk X pins H b) (ho:∀ b ∈ fp,∃ o,s.heap.get? b = some o ∧ ∀ v,o.data ≠ .cell v):Inv X (pins ++ pinsAt fp s.heap) σ H s :=
  I.pins_of fun p hp => (List.mem_append.mp hp).elim (fun z => I.pin p (List.mem_append_right _ z)) fun z => by
    obtain ⟨hb,e⟩:=of_pinsAt z
    obtain ⟨f0,f1,f2,_⟩:=hf p.1 hb
    obtain ⟨o,e',d⟩:=ho p.1 hb
    rw [e] at e'; cases e'
    exact ⟨e,f0,f1,f2,d⟩
theorem Inv.unpinned {pins pl:List (Addr × Obj)} {σ:St} {H:Hp} {s:Shared} (I:Inv X (pins ++ pl) σ H s):Inv X pins σ H s:=I.pins_of fun p hp => I.pin p (List.mem_append_right _ (List.mem_append_left _ hp))
theorem ps_for {iter:Expr} {body:List Stmt} {wi:TI} {g:TG} {tb:TS} {pos:Pos} (hp:PassesOwn (model X.prog X.w) X.A X.env X.xe) (hc:X.calm = true) (hi:PI X tg iter wi) (hg:PG X tg g) (hb:PSs X body tb)
    (hs:∀ x,foldedSetIterable iter X.env x = pure x:=by intro _; rfl):PS X (.For tg iter body [] pos) (tFor wi g tb):=by
  intro pins s σ H D I h
  refine wpAny_For (thn (hi pins s σ H _ I h) fun v s1 h1 => thn h1 fun itv s2 h2 => ?_) hs
  obtain ⟨it,fp,tn,J,H2,e,I2,T,st2,f2,W,⟨m0,w0⟩,turn⟩:=h2
  subst e
  have stat:∀ {H':Hp},(∀ b ∈ fp,H' b = none) → ∀ b ∈ fp,FpOk X pins H' b:=fun hn b hb => ⟨hn b hb,(f2 b hb).2⟩
  refine codeAny_forLoop_any (fun n s' => ∃ i σ' H',Inv X pins σ' H' s' ∧ tn i s'.heap ∧ (∀ b ∈ fp,H' b = none) ∧ W i n σ' H') ?_ m0 ⟨0,σ,H2,I2,st2,fun b hb => (f2 b hb).1,w0⟩
  rintro n s3 ⟨i,σ3,H3,I3,st3,fr3,w3⟩
  rcases turn i n σ3 H3 w3 with ⟨stop,qn⟩ | ⟨go,N,hN,step⟩
  · refine wpAny_passesOwn hp (thn (T.done X rfl rfl rfl hc i pins s3 σ3 H3 X.xe I3 (stat fr3) st3 stop) fun r s4 ⟨hr,I4⟩ => ?_)
    subst hr
    exact wpAny_execs_nil ⟨σ3,H3,I4,qn⟩
  · refine wpAny_passesOwn hp (thn (T.item X rfl rfl rfl hc i pins s3 σ3 H3 X.xe I3 (stat fr3) st3 go) fun r s4 ⟨u,hr,h4⟩ => ?_)
    subst hr
    refine wpAny_passesOwn hp (thn h4 fun _ s5 ⟨x,H5,I5,r5,y5,st5,fr5⟩ => ?_)
    have I5':=I5.pinned (stat fr5) (T.obj _ _ st5)
    refine wpAny_passesOwn hp (thn (hg _ s5 σ3 H5 x u _ I5' r5 (step x H5 y5)) fun _ s6 ⟨σ6,H6,I6,q6⟩ => ?_)
    refine wpAny_passesOwn hp (thn (hb _ s6 σ6 H6 _ I6 q6) fun f s7 q7 => ?_)
    have again:∀ {σ7:St} {H7:Hp},Inv X (pins ++ pinsAt fp s5.heap) σ7 H7 s7 → N σ7 H7 → ∃ m,m < n ∧ ∃ i σ' H',Inv X pins σ' H' s7 ∧ tn i s7.heap ∧ (∀ b ∈ fp,H' b = none) ∧ W i m σ' H':=fun {σ7 H7} I7 n7 => by
      obtain ⟨m',hm,w7⟩:=hN σ7 H7 n7
      refine ⟨m',hm,i + 1,σ7,H7,I7.unpinned,T.keep _ _ _ st5 fun b hb o e => (I7.pin (b,o) (List.mem_append_right _ (List.mem_append_right _ (mem_pinsAt hb e)))).1,fun b hb => ?_,w7⟩
      obtain ⟨o,e,d⟩:=T.obj _ _ st5 b hb
      exact (I7.pin (b,o) (List.mem_append_right _ (List.mem_append_right _ (mem_pinsAt hb e)))).2.1
    cases f with
    | next => obtain ⟨σ7,H7,I7,n7⟩:=q7; exact again I7 n7
    | cont => obtain ⟨σ7,H7,I7,n7⟩:=q7; exact again I7 n7
    | brk => obtain ⟨σ7,H7,I7,q7⟩:=q7; exact ⟨σ7,H7,I7.unpinned,q7⟩
    | ret v => obtain ⟨x7,σ7,H7,I7,r7,q7⟩:=q7; exact ⟨x7,σ7,H7,I7.unpinned,r7,q7⟩
end
theorem for_list {K:PySem.W.Frag} {a:Addr} {xs:List V} {g:TG} {tb:TS} {D:Ends} {σ:St} {H:Hp} (Pv:Nat → St → Hp → Prop) (h0:Pv 0 σ H) (hl:∀ i σ H,i ≤ xs.length → Pv i σ H → SqL K H a xs)
    (hs:∀ i x σ H,xs[i]? = some x → Pv i σ H → g x σ H fun σ2 H2 => tb { D with nx:=Pv (i + 1),ct:=Pv (i + 1),bk:=D.nx } σ2 H2) (hd:∀ σ H,Pv xs.length σ H → D.nx σ H) :
    ∃ W:Nat → Nat → St → Hp → Prop,(∃ m,W 0 m σ H) ∧ ∀ i m σ H,W i m σ H →
      ((Itl K a).stop i H ∧ D.nx σ H) ∨ ((Itl K a).go i H ∧ ∃ N:St → Hp → Prop,(∀ σ' H',N σ' H' → ∃ m',m' < m ∧ W (i + 1) m' σ' H') ∧ ∀ x H',(Itl K a).yld i H x H' → g x σ H' fun σ2 H2 => tb { D with nx:=N,ct:=N,bk:=D.nx } σ2 H2):=by
  refine ⟨fun i m σ H => m = xs.length - i ∧ i ≤ xs.length ∧ Pv i σ H,⟨xs.length,by simp,Nat.zero_le _,h0⟩,?_⟩
  rintro i m σ H ⟨rfl,hi,p⟩
  have q:=hl i σ H hi p
  by_cases hlt:i < xs.length
  · refine .inr ⟨⟨xs,xs[i],q,by simp [hlt]⟩,Pv (i + 1),fun σ' H' p' => ⟨xs.length - (i + 1),by omega,rfl,hlt,p'⟩,fun x H' y => ?_⟩
    obtain ⟨e,y⟩:=y
    subst e
    exact hs i x σ _ (y xs q) p
  · have e:i = xs.length:=by omega
    subst e
    exact .inl ⟨⟨xs,q,Nat.le_refl _⟩,hd σ H p⟩
theorem for_tup {K:PySem.W.Frag} {a:Addr} {xs:List V} {g:TG} {tb:TS} {D:Ends} {σ:St} {H:Hp} (Pv:Nat → St → Hp → Prop) (h0:Pv 0 σ H) (hl:∀ i σ H,i ≤ xs.length → Pv i σ H → SqT K H a xs)
    (hs:∀ i x σ H,xs[i]? = some x → Pv i σ H → g x σ H fun σ2 H2 => tb { D with nx:=Pv (i + 1),ct:=Pv (i + 1),bk:=D.nx } σ2 H2) (hd:∀ σ H,Pv xs.length σ H → D.nx σ H) :
    ∃ W:Nat → Nat → St → Hp → Prop,(∃ m,W 0 m σ H) ∧ ∀ i m σ H,W i m σ H →
      ((Itt K a).stop i H ∧ D.nx σ H) ∨ ((Itt K a).go i H ∧ ∃ N:St → Hp → Prop,(∀ σ' H',N σ' H' → ∃ m',m' < m ∧ W (i + 1) m' σ' H') ∧ ∀ x H',(Itt K a).yld i H x H' → g x σ H' fun σ2 H2 => tb { D with nx:=N,ct:=N,bk:=D.nx } σ2 H2):=by
  refine ⟨fun i m σ H => m = xs.length - i ∧ i ≤ xs.length ∧ Pv i σ H,⟨xs.length,by simp,Nat.zero_le _,h0⟩,?_⟩
  rintro i m σ H ⟨rfl,hi,p⟩
  have q:=hl i σ H hi p
  by_cases hlt:i < xs.length
  · refine .inr ⟨⟨xs,xs[i],q,by simp [hlt]⟩,Pv (i + 1),fun σ' H' p' => ⟨xs.length - (i + 1),by omega,rfl,hlt,p'⟩,fun x H' y => ?_⟩
    obtain ⟨e,y⟩:=y
    subst e
    exact hs i x σ _ (y xs q) p
  · have e:i = xs.length:=by omega
    subst e
    exact .inl ⟨⟨xs,q,Nat.le_refl _⟩,hd σ H p⟩
theorem for_range {lo:Int} {n:Nat} {g:TG} {tb:TS} {D:Ends} {σ:St} {H:Hp} (Pv:Nat → St → Hp → Prop) (h0:Pv 0 σ H)
    (hs:∀ i σ H,i < n → Pv i σ H → g (.int (lo + i)) σ H fun σ2 H2 => tb { D with nx:=Pv (i + 1),ct:=Pv (i + 1),bk:=D.nx } σ2 H2) (hd:∀ σ H,Pv n σ H → D.nx σ H) :
    ∃ W:Nat → Nat → St → Hp → Prop,(∃ m,W 0 m σ H) ∧ ∀ i m σ H,W i m σ H →
      ((Itr lo n).stop i H ∧ D.nx σ H) ∨ ((Itr lo n).go i H ∧ ∃ N:St → Hp → Prop,(∀ σ' H',N σ' H' → ∃ m',m' < m ∧ W (i + 1) m' σ' H') ∧ ∀ x H',(Itr lo n).yld i H x H' → g x σ H' fun σ2 H2 => tb { D with nx:=N,ct:=N,bk:=D.nx } σ2 H2):=by
  refine ⟨fun i m σ H => m = n - i ∧ i ≤ n ∧ Pv i σ H,⟨n,by simp,Nat.zero_le _,h0⟩,?_⟩
  rintro i m σ H ⟨rfl,hi,p⟩
  by_cases hlt:i < n
  · refine .inr ⟨hlt,Pv (i + 1),fun σ' H' p' => ⟨n - (i + 1),by omega,rfl,hlt,p'⟩,fun x H' y => ?_⟩
    obtain ⟨e,y⟩:=y
    subst e y
    exact hs i σ _ hlt p
  · have e:i = n:=by omega
    subst e
    exact .inl ⟨Nat.le_refl _,hd σ H p⟩
end L2
namespace L2
open PySem PySem.Spec PyProof.Rows
noncomputable abbrev R2:=V → V → Hp → VK → Prop
noncomputable def OpR (X:Cx) (f:Value → Value → Sem Value) (r:R2):Prop :=
  ∀ (pins:List (Addr × Obj)) (s:Shared) (σ:St) (H:Hp) (x y:V) (v u:Value) (Q:VK),Inv X pins σ H s → RelV x v → RelV y u → r x y H Q →
    wpAny (model X.prog X.w) X.A (f v u) (EP X pins σ Q) X.xe s
noncomputable def UnR (X:Cx) (f:Value → Sem Value) (r:V → Hp → VK → Prop):Prop :=
  ∀ (pins:List (Addr × Obj)) (s:Shared) (σ:St) (H:Hp) (x:V) (v:Value) (Q:VK),Inv X pins σ H s → RelV x v → r x H Q →
    wpAny (model X.prog X.w) X.A (f v) (EP X pins σ Q) X.xe s
noncomputable def CallR (X:Cx) (f:Value) (r:List V → Hp → VK → Prop):Prop :=
  ∀ (pins:List (Addr × Obj)) (s:Shared) (σ:St) (H:Hp) (xs:List V) (us:List Value) (Q:VK),Inv X pins σ H s → Vals xs us → r xs H Q →
    wpAny (model X.prog X.w) X.A (call f us) (EP X pins σ Q) X.xe s
noncomputable def tOp (r:R2) (ta tb:TE):TE:=fun σ H Q => ta σ H fun x H1 => tb σ H1 fun y H2 => r x y H2 Q
noncomputable def tUn (r:V → Hp → VK → Prop) (ta:TE):TE:=fun σ H Q => ta σ H fun x H1 => r x H1 Q
noncomputable def rI (C:Int → Int → Prop) (g:Int → Int → V):R2:=fun x y H Q => ∃ i j,x = .int i ∧ y = .int j ∧ C i j ∧ Q (g i j) H
noncomputable def rI0 (g:Int → Int → V):R2:=fun x y H Q => ∃ i j,x = .int i ∧ y = .int j ∧ Q (g i j) H
noncomputable def rU (g:Int → V):V → Hp → VK → Prop:=fun x H Q => ∃ i,x = .int i ∧ Q (g i) H
section
variable {X:Cx} {a b c:Expr} {ta tb tc:TE} {pos:Pos}
theorem binT (ha:PE X a ta) (hb:PE X b tb) {pins:List (Addr × Obj)} {s:Shared} {σ:St} {H:Hp} {R:V → V → Hp → Prop} (I:Inv X pins σ H s)
    (h:ta σ H fun x H1 => tb σ H1 fun y H2 => R x y H2) {Q:Value → Shared → Prop} {f:Value → Value → Sem Value}
    (hf:∀ v u s2 x y H2,Inv X pins σ H2 s2 → RelV x v → RelV y u → R x y H2 → wpAny (model X.prog X.w) X.A (f v u) Q X.xe s2) :
    wpAny (model X.prog X.w) X.A (eval a X.env) (fun v s₁ => wpAny (model X.prog X.w) X.A (eval b X.env) (fun u s₂ => wpAny (model X.prog X.w) X.A (f v u) Q X.xe s₂) X.xe s₁) X.xe s:=by
  refine thn (ha pins s σ H _ I h) fun v s1 ⟨x,H1,I1,r1,q1⟩ => ?_
  refine thn (hb pins s1 σ H1 _ I1 q1) fun u s2 ⟨y,H2,I2,r2,q2⟩ => ?_
  exact hf v u s2 x y H2 I2 r1 r2 q2
theorem pe_op {op:Operator} {r:R2} (ho:OpR X (binaryOp op) r) (ha:PE X a ta) (hb:PE X b tb):PE X (.BinOp a op b pos) (tOp r ta tb):=by
  intro pins s σ H Q I h
  exact wpAny_BinOp (binT ha hb I h fun v u s2 x y H2 I2 rx ry q => ho pins s2 σ H2 x y v u Q I2 rx ry q)
theorem pe_un {op:UnaryOp} {r:V → Hp → VK → Prop} (ho:UnR X (unaryOp op) r) (ha:PE X a ta):PE X (.UnaryOp op a pos) (tUn r ta):=by
  intro pins s σ H Q I h
  exact UnaryOp_ (thn (ha pins s σ H _ I h) fun v s1 ⟨x,H1,I1,r1,q1⟩ => ho pins s1 σ H1 x v Q I1 r1 q1)
theorem opI {f:Value → Value → Sem Value} {C:Int → Int → Prop} {g:Int → Int → Int}
    (rule:∀ (i j:Int) (t u:Tok) (s:Shared) (Q:Value → Shared → Prop) (E:Value → Shared → Prop),C i j → Q (.int (g i j) s.toks) { s with toks:=s.toks + 1 } → wpAny (model X.prog X.w) X.A (f (.int i t) (.int j u)) Q E s) :
    OpR X f (rI C fun i j => .int (g i j)):=by
  intro pins s σ H x y v u Q I rx ry h
  obtain ⟨i,j,rfl,rfl,hc,q⟩:=h
  obtain ⟨t,rfl⟩:=rx
  obtain ⟨t',rfl⟩:=ry
  exact rule i j t t' s _ _ hc ⟨.int (g i j),H,I.tok _,⟨_,rfl⟩,q⟩
theorem opI0 {f:Value → Value → Sem Value} {g:Int → Int → Int}
    (rule:∀ (i j:Int) (t u:Tok) (s:Shared) (Q:Value → Shared → Prop) (E:Value → Shared → Prop),Q (.int (g i j) s.toks) { s with toks:=s.toks + 1 } → wpAny (model X.prog X.w) X.A (f (.int i t) (.int j u)) Q E s) :
    OpR X f (rI0 fun i j => .int (g i j)):=by
  intro pins s σ H x y v u Q I rx ry h
  obtain ⟨i,j,rfl,rfl,q⟩:=h
  obtain ⟨t,rfl⟩:=rx
  obtain ⟨t',rfl⟩:=ry
  exact rule i j t t' s _ _ ⟨.int (g i j),H,I.tok _,⟨_,rfl⟩,q⟩
theorem opB0 {f:Value → Value → Sem Value} {g:Int → Int → Bool}
    (rule:∀ (i j:Int) (t u:Tok) (s:Shared) (Q:Value → Shared → Prop) (E:Value → Shared → Prop),Q (.bool (g i j)) s → wpAny (model X.prog X.w) X.A (f (.int i t) (.int j u)) Q E s) :
    OpR X f (rI0 fun i j => .bl (g i j)):=by
  intro pins s σ H x y v u Q I rx ry h
  obtain ⟨i,j,rfl,rfl,q⟩:=h
  obtain ⟨t,rfl⟩:=rx
  obtain ⟨t',rfl⟩:=ry
  exact rule i j t t' s _ _ ⟨.bl (g i j),H,I,rfl,q⟩
noncomputable def CDiv (i j:Int):Prop:=0 < j ∧ j < 1073741824
noncomputable def CPow (i j:Int):Prop:=0 ≤ j ∧ j ≤ 1000000 ∧ i.natAbs < 2 ^ 64
noncomputable def CMul (i j:Int):Prop:=(-(2 ^ 64) < i ∧ i < 2 ^ 64) ∨ (-(2 ^ 64) < j ∧ j < 2 ^ 64)
theorem CMul.ok {i j:Int} (h:CMul i j):IntMulOk i j:=by
  rcases h with ⟨h1,h2⟩ | ⟨h1,h2⟩
  · exact .of_left (intBits_le_64 h1 h2)
  · exact .of_right (intBits_le_64 h1 h2)
theorem op_add:OpR X (binaryOp .Add) (rI0 fun i j => .int (i + j)):=opI0 fun _ _ _ _ _ _ _ q => add_int q
theorem op_sub:OpR X (binaryOp .Sub) (rI0 fun i j => .int (i - j)):=opI0 fun _ _ _ _ _ _ _ q => sub_int q
theorem op_mul:OpR X (binaryOp .Mult) (rI CMul fun i j => .int (i * j)):=opI fun _ _ _ _ _ _ _ hc q => mul_int q hc.ok
theorem op_fdiv:OpR X (binaryOp .FloorDiv) (rI CDiv fun i j => .int (i / j)):=opI fun i j _ _ _ _ _ hc q => by
  have h1:(0:Int) < j:=hc.1
  have h2:j < 1073741824:=hc.2
  exact floordiv_int (by omega) (by rw [Int.fdiv_eq_ediv_of_nonneg i (by omega)]; exact q) (.inl (PyProof.noPylong_small (by omega)))
theorem op_mod:OpR X (binaryOp .Mod) (rI (fun _ j => 0 < j) fun i j => .int (i % j)):=opI fun i j _ _ _ _ _ hc q => by
  have h1:(0:Int) < j:=hc
  exact mod_int' (by omega) (by rw [Int.fmod_eq_emod_of_nonneg i (by omega)]; exact q)
theorem op_pow:OpR X (binaryOp .Pow) (rI CPow fun i j => .int (i ^ j.toNat)):=opI fun _ _ _ _ _ _ _ hc q => pow_int_small hc.1 hc.2.1 hc.2.2 q
theorem unI {f:Value → Sem Value} {g:Int → Int}
    (rule:∀ (i:Int) (t:Tok) (s:Shared) (Q:Value → Shared → Prop) (E:Value → Shared → Prop),Q (.int (g i) s.toks) { s with toks:=s.toks + 1 } → wpAny (model X.prog X.w) X.A (f (.int i t)) Q E s) :
    UnR X f (rU fun i => .int (g i)):=by
  intro pins s σ H x v Q I rx h
  obtain ⟨i,rfl,q⟩:=h
  obtain ⟨t,rfl⟩:=rx
  exact rule i t s _ _ ⟨.int (g i),H,I.tok _,⟨_,rfl⟩,q⟩
theorem un_neg:UnR X (unaryOp .USub) (rU fun i => .int (-i)):=unI fun _ _ _ _ _ q => neg_int q
end
noncomputable def scal:V → V → Bool
  | .non,.non => true | .non,.int _ => true | .int _,.non => true | .non,.bl _ => true | .bl _,.non => true | .non,.str _ => true | .str _,.non => true
  | .int _,.int _ => true | .bl _,.bl _ => true | .str _,.str _ => true | .byt _,.byt _ => true
  | .int _,.str _ => true | .str _,.int _ => true | .bl _,.str _ => true | .str _,.bl _ => true
  | _,_ => false
noncomputable def rEq:R2:=fun x y H Q => scal x y = true ∧ Q (.bl (decide (x = y))) H
noncomputable def rNe:R2:=fun x y H Q => scal x y = true ∧ Q (.bl (!decide (x = y))) H
theorem dec_int {i j:Int}:decide (V.int i = V.int j) = (i == j):=by
  rw [Bool.eq_iff_iff]
  simp
theorem dec_bl {i j:Bool}:decide (V.bl i = V.bl j) = (i == j):=by
  rw [Bool.eq_iff_iff]
  simp
theorem dec_str {i j:Str}:decide (V.str i = V.str j) = (i == j):=by
  rw [Bool.eq_iff_iff]
  simp
theorem dec_byt {i j:Array UInt8}:decide (V.byt i = V.byt j) = (i.toList == j.toList):=by
  rw [Bool.eq_iff_iff]
  cases i
  cases j
  simp
section
variable {X:Cx} {a b c:Expr} {ta tb tc:TE} {pos:Pos}
theorem fin_bl {pins:List (Addr × Obj)} {σ:St} {H:Hp} {s:Shared} {Q:VK} {k k':Bool} (I:Inv X pins σ H s) (q:Q (.bl k) H) (e:k = k'):EP X pins σ Q (.bool k') s:=by
  subst e
  exact ⟨.bl k,H,I,rfl,q⟩
theorem op_eq:OpR X (compareOp .Eq) rEq:=by
  intro pins s σ H x y v u Q I rx ry h
  obtain ⟨hs,q⟩:=h
  cases x with
  | non =>
    cases rx
    cases y with
    | non => cases ry; exact PySem.EqNone.eq_none_none (fin_bl I q (by simp))
    | bl j => cases ry; exact PySem.EqNone.eq_none_bool (fin_bl I q (by simp))
    | int j => obtain ⟨t',rfl⟩:=ry; exact PySem.EqNone.eq_none_int (fin_bl I q (by simp))
    | str j => obtain ⟨t',rfl⟩:=ry; exact PySem.EqNone.eq_none_str (fin_bl I q (by simp))
    | _ => exact absurd (show false = true from hs) Bool.false_ne_true
  | bl i =>
    cases rx
    cases y with
    | non => cases ry; exact PySem.EqNone.eq_bool_none (fin_bl I q (by simp))
    | bl j => cases ry; exact eq_bool (fin_bl I q dec_bl)
    | str j => obtain ⟨t',rfl⟩:=ry; exact PySem.EqMixed.eq_bool_str (fin_bl I q (by simp))
    | _ => exact absurd (show false = true from hs) Bool.false_ne_true
  | int i =>
    obtain ⟨t,rfl⟩:=rx
    cases y with
    | non => cases ry; exact PySem.EqNone.eq_int_none (fin_bl I q (by simp))
    | int j => obtain ⟨t',rfl⟩:=ry; exact eq_int (fin_bl I q dec_int)
    | str j => obtain ⟨t',rfl⟩:=ry; exact PySem.EqMixed.eq_int_str (fin_bl I q (by simp))
    | _ => exact absurd (show false = true from hs) Bool.false_ne_true
  | str i =>
    obtain ⟨t,rfl⟩:=rx
    cases y with
    | non => cases ry; exact PySem.EqNone.eq_str_none (fin_bl I q (by simp))
    | bl j => cases ry; exact PySem.EqMixed.eq_str_bool (fin_bl I q (by simp))
    | int j => obtain ⟨t',rfl⟩:=ry; exact PySem.EqMixed.eq_str_int (fin_bl I q (by simp))
    | str j => obtain ⟨t',rfl⟩:=ry; exact eq_str (fin_bl I q dec_str)
    | _ => exact absurd (show false = true from hs) Bool.false_ne_true
  | byt i =>
    obtain ⟨t,rfl⟩:=rx
    cases y with
    | byt j => obtain ⟨t',rfl⟩:=ry; exact PySem.W.eq_bytes (fin_bl I q dec_byt)
    | _ => exact absurd (show false = true from hs) Bool.false_ne_true
  | _ => cases y <;> exact absurd (show false = true from hs) Bool.false_ne_true
theorem op_ne:OpR X (compareOp .NotEq) rNe:=by
  intro pins s σ H x y v u Q I rx ry h
  obtain ⟨hs,q⟩:=h
  cases x with
  | non =>
    cases rx
    cases y with
    | non => cases ry; exact PySem.EqNone.ne_none_none (fin_bl I q (by simp))
    | bl j => cases ry; exact PySem.EqNone.ne_none_bool (fin_bl I q (by simp))
    | int j => obtain ⟨t',rfl⟩:=ry; exact PySem.EqNone.ne_none_int (fin_bl I q (by simp))
    | str j => obtain ⟨t',rfl⟩:=ry; exact PySem.EqNone.ne_none_str (fin_bl I q (by simp))
    | _ => exact absurd (show false = true from hs) Bool.false_ne_true
  | bl i =>
    cases rx
    cases y with
    | non => cases ry; exact PySem.EqNone.ne_bool_none (fin_bl I q (by simp))
    | bl j => cases ry; exact ne_bool (fin_bl I q (congrArg not dec_bl))
    | str j => obtain ⟨t',rfl⟩:=ry; exact PySem.EqMixed.ne_bool_str (fin_bl I q (by simp))
    | _ => exact absurd (show false = true from hs) Bool.false_ne_true
  | int i =>
    obtain ⟨t,rfl⟩:=rx
    cases y with
    | non => cases ry; exact PySem.EqNone.ne_int_none (fin_bl I q (by simp))
    | int j => obtain ⟨t',rfl⟩:=ry; exact ne_int (fin_bl I q (congrArg not dec_int))
    | str j => obtain ⟨t',rfl⟩:=ry; exact PySem.EqMixed.ne_int_str (fin_bl I q (by simp))
    | _ => exact absurd (show false = true from hs) Bool.false_ne_true
  | str i =>
    obtain ⟨t,rfl⟩:=rx
    cases y with
    | non => cases ry; exact PySem.EqNone.ne_str_none (fin_bl I q (by simp))
    | bl j => cases ry; exact PySem.EqMixed.ne_str_bool (fin_bl I q (by simp))
    | int j => obtain ⟨t',rfl⟩:=ry; exact PySem.EqMixed.ne_str_int (fin_bl I q (by simp))
    | str j => obtain ⟨t',rfl⟩:=ry; exact ne_str (fin_bl I q (congrArg not dec_str))
    | _ => exact absurd (show false = true from hs) Bool.false_ne_true
  | byt i =>
    obtain ⟨t,rfl⟩:=rx
    cases y with
    | byt j => obtain ⟨t',rfl⟩:=ry; exact PySem.W.ne_bytes (fin_bl I q (congrArg not dec_byt))
    | _ => exact absurd (show false = true from hs) Bool.false_ne_true
  | _ => cases y <;> exact absurd (show false = true from hs) Bool.false_ne_true
theorem op_lt:OpR X (compareOp .Lt) (rI0 fun i j => .bl (decide (i < j))):=opB0 fun _ _ _ _ _ _ _ q => lt_int q
theorem op_le:OpR X (compareOp .LtE) (rI0 fun i j => .bl (decide (i ≤ j))):=opB0 fun _ _ _ _ _ _ _ q => le_int q
theorem op_gt:OpR X (compareOp .Gt) (rI0 fun i j => .bl (decide (j < i))):=opB0 fun _ _ _ _ _ _ _ q => gt_int q
theorem op_in_str:OpR X (compareOp .In) (fun x y H Q => ∃ i j,x = .str i ∧ y = .str j ∧ Q (.bl (!(Builtin.Str.occurrences j i 0 j.length 1).isEmpty)) H):=by
  intro pins s σ H x y v u Q I rx ry h
  obtain ⟨i,j,rfl,rfl,q⟩:=h
  obtain ⟨t,rfl⟩:=rx
  obtain ⟨t',rfl⟩:=ry
  exact in_str (fin_bl I q rfl)
theorem op_notN:OpR X (compareOp .IsNot) (fun x y H Q => y = .non ∧ Q (.bl (!decide (x = .non))) H):=by
  intro pins s σ H x y v u Q I rx ry h
  obtain ⟨rfl,q⟩:=h
  cases ry
  refine isnot_none_gen (fin_bl I q ?_)
  cases x <;> first
    | (cases rx; rfl)
    | (obtain ⟨t,rfl⟩:=rx; rfl)
theorem op_notin_str:OpR X (compareOp .NotIn) (fun x y H Q => ∃ i j,x = .str i ∧ y = .str j ∧ Q (.bl (!(!(Builtin.Str.occurrences j i 0 j.length 1).isEmpty))) H):=by
  intro pins s σ H x y v u Q I rx ry h
  obtain ⟨i,j,rfl,rfl,q⟩:=h
  obtain ⟨t,rfl⟩:=rx
  obtain ⟨t',rfl⟩:=ry
  exact notIn_str (fin_bl I q rfl)
theorem nomark (b:Expr) {op:CmpOp} (h:op ≠ .In:=by decide) (h2:op ≠ .NotIn:=by decide):behindInMarks op b = false:=by
  have e1:(op == CmpOp.In) = false:=by cases op <;> first | rfl | exact absurd rfl h
  have e2:(op == CmpOp.NotIn) = false:=by cases op <;> first | rfl | exact absurd rfl h2
  cases b <;> simp [behindInMarks,e1,e2]
theorem pe_cmpR {op:CmpOp} {r:R2} (ho:OpR X (compareOp op) r) (ha:PE X a ta) (hb:PE X b tb) (hm:behindInMarks op b = false):PE X (.Compare a [op] [b] pos) (tOp r ta tb):=by
  intro pins s σ H Q I h
  exact wpAny_Compare1 (binT ha hb I h fun v u s2 x y H2 I2 rx ry q => ho pins s2 σ H2 x y v u Q I2 rx ry q) hm
noncomputable def tTest (t:TE):TT:=fun σ H Q => t σ H fun x H' => ∃ k,x = .bl k ∧ Q k H'
theorem pt_cmpR {op:CmpOp} {r:R2} (ho:OpR X (compareOp op) r) (ha:PE X a ta) (hb:PE X b tb) (hm:behindInMarks op b = false):PT X (.Compare a [op] [b] pos) (tTest (tOp r ta tb)):=by
  intro pins s σ H Q I h
  refine wpAny_isTrue_Compare1 (thn (ha pins s σ H _ I h) fun v s1 ⟨x,H1,I1,r1,q1⟩ => thn (hb pins s1 σ H1 _ I1 q1) fun u s2 ⟨y,H2,I2,r2,q2⟩ =>
    thn (ho pins s2 σ H2 x y v u _ I2 r1 r2 q2) fun c s3 ⟨z,H3,I3,r3,k,e,q3⟩ => ?_) hm
  subst e
  cases r3
  exact wpAny_truthy_bool ⟨H3,I3,q3⟩
noncomputable def tChain (r r':R2) (ta tb tc:TE):TE:=fun σ H Q => ta σ H fun x H1 => tb σ H1 fun y H2 => r x y H2 fun z H3 => ∃ k,z = .bl k ∧
  (if k = true then tc σ H3 fun w' H4 => r' y w' H4 Q else Q (.bl false) H3)
theorem pe_chain {op op':CmpOp} {r r':R2} (ho:OpR X (compareOp op) r) (ho':OpR X (compareOp op') r') (ha:PE X a ta) (hb:PE X b tb) (hc:PE X c tc)
    (hm:lastMarks [op,op'] [b,c] = false:=by with_unfolding_all rfl):PE X (.Compare a [op,op'] [b,c] pos) (tChain r r' ta tb tc):=by
  intro pins s σ H Q I h
  refine Compare_chain (thn (ha pins s σ H _ I h) fun v s1 ⟨x,H1,I1,r1,q1⟩ => chain_link (thn (hb pins s1 σ H1 _ I1 q1) fun u s2 ⟨y,H2,I2,r2,q2⟩ =>
    thn (ho pins s2 σ H2 x y v u _ I2 r1 r2 q2) fun d s3 ⟨z,H3,I3,r3,k,e,q3⟩ => ?_)) hm
  subst e
  cases r3
  refine wpAny_truthy_bool ?_
  cases k with
  | false => exact ite_ff ⟨.bl false,H3,I3,rfl,q3⟩
  | true => exact ite_tt (chain_last (thn (hc pins s3 σ H3 _ I3 q3) fun w' s4 ⟨z',H4,I4,r4,q4⟩ => ho' pins s4 σ H4 y z' u w' Q I4 r2 r4 q4))
theorem pt_chain {op op':CmpOp} {r r':R2} (ho:OpR X (compareOp op) r) (ho':OpR X (compareOp op') r') (ha:PE X a ta) (hb:PE X b tb) (hc:PE X c tc)
    (hm:lastMarks [op,op'] [b,c] = false:=by with_unfolding_all rfl):PT X (.Compare a [op,op'] [b,c] pos) (tTest (tChain r r' ta tb tc)):=by
  intro pins s σ H Q I h
  refine isTrue_chain (thn (ha pins s σ H _ I h) fun v s1 ⟨x,H1,I1,r1,q1⟩ => test_link (thn (hb pins s1 σ H1 _ I1 q1) fun u s2 ⟨y,H2,I2,r2,q2⟩ =>
    thn (ho pins s2 σ H2 x y v u _ I2 r1 r2 q2) fun d s3 ⟨z,H3,I3,r3,k,e,q3⟩ => ?_)) hm
  subst e
  cases r3
  refine wpAny_truthy_bool ?_
  cases k with
  | false =>
    obtain ⟨k',e',q'⟩:=q3
    cases e'
    exact ite_ff ⟨H3,I3,q'⟩
  | true =>
    refine ite_tt (test_last (thn (hc pins s3 σ H3 _ I3 q3) fun w' s4 ⟨z',H4,I4,r4,q4⟩ => thn (ho' pins s4 σ H4 y z' u w' _ I4 r2 r4 q4) fun d' s5 ⟨z2,H5,I5,r5,k2,e2,q5⟩ => ?_))
    subst e2
    cases r5
    exact wpAny_truthy_bool ⟨H5,I5,q5⟩
theorem line63:(sizeLine:Nat) < 2 ^ 63:=by rw [sizeLine_eq]; decide
theorem op_add_str:OpR X (binaryOp .Add) (fun x y H Q => ∃ i j,x = .str i ∧ y = .str j ∧ i.length + j.length ≤ sizeLine ∧ Q (.str (i ++ j)) H):=by
  intro pins s σ H x y v u Q I rx ry h
  obtain ⟨i,j,rfl,rfl,hz,q⟩:=h
  obtain ⟨t,rfl⟩:=rx
  obtain ⟨t',rfl⟩:=ry
  exact add_str (fun t' tk => ⟨.str (i ++ j),H,I.tok _,⟨_,rfl⟩,q⟩) hz
theorem vals1 {x:V} {us:List Value} (r:Vals [x] us):∃ u,us = [u] ∧ RelV x u:=by
  cases r with
  | cons r1 r2 => cases r2; exact ⟨_,rfl,r1⟩
theorem call_int1:CallR X (.type "int") (fun xs H Q => (∃ i,xs = [.int i] ∧ Q (.int i) H) ∨ ∃ k,xs = [.bl k] ∧ Q (.int (if k then 1 else 0)) H):=by
  intro pins s σ H xs us Q I r h
  rcases h with ⟨i,rfl,q⟩ | ⟨k,rfl,q⟩
  · obtain ⟨u,rfl,t,rfl⟩:=vals1 r
    exact call_int_int ⟨.int i,H,I,⟨_,rfl⟩,q⟩
  · obtain ⟨u,rfl,r1⟩:=vals1 r
    cases r1
    exact call_int_bool ⟨.int (if k then 1 else 0),H,I.tok _,⟨_,rfl⟩,q⟩
theorem call_str_int:CallR X (.type "str") (fun xs H Q => ∃ i,xs = [.int i] ∧ i.natAbs.log2 < 1920 ∧ Q (.str (toString i)) H):=by
  intro pins s σ H xs us Q I r h
  obtain ⟨i,rfl,hz,q⟩:=h
  obtain ⟨u,rfl,t,rfl⟩:=vals1 r
  exact PySem.P.str_of_int hz ⟨.str _,H,I.tok _,⟨_,rfl⟩,q⟩
end
end L2
namespace L2
open PySem PySem.Spec PyProof.Rows
structure ObjM (h:Heap) (x dx C:Addr) (mA:Str → Option Value):Prop where
  obj:h.get? x = some (PySem.W.instObj C dx)
  ns:h.Ns1 dx mA
  ne:dx ≠ x
theorem lookIn_ns {h:Heap} {dx:Addr} {mA:Str → Option Value} (n:h.Ns1 dx mA):∃ od,h.get? dx = some od ∧ ∀ name,PySem.W.lookIn name od = some (mA name):=by
  obtain ⟨o,es,ep,ho,hd,hk,_,hm⟩:=n
  refine ⟨o,ho,fun name => ?_⟩
  have e:=hm name
  unfold nsFind findBy at e
  rw [← Array.find?_toList] at e
  unfold PySem.W.lookIn
  rw [hd]
  dsimp only
  split
  · rename_i y q
    rw [q] at e
    exact congrArg some e
  · rename_i q
    rw [q] at e
    have a:es.toList.any (·.refKey) = false:=by
      rw [List.any_eq_false]
      intro y hy
      obtain ⟨z,t,hkey⟩:=hk y (Array.mem_toList_iff.mp hy)
      simp [DictEntry.refKey,hkey]
    have a':¬ es.toList.any (·.refKey) = true:=by rw [a]; exact Bool.false_ne_true
    rw [if_neg a']
    exact congrArg some e
theorem ObjM.look {h:Heap} {x dx C:Addr} {mA:Str → Option Value} (I:ObjM h x dx C mA):∃ od,PySem.W.InstAt h x (PySem.W.instObj C dx) C (some od) ∧ ∀ name,PySem.W.lookIn name od = some (mA name) :=
  let ⟨od,ho,hl⟩:=lookIn_ns I.ns
  ⟨od,⟨I.obj,rfl,rfl,ho⟩,hl⟩
section
variable {prog:Program} {w:World} {A:Around} {E:Value → Shared → Prop} {s:Shared} {K:PySem.W.Frag} {x dx C f:Addr} {mA:Str → Option Value} {name:Str} {v:Value}
end
theorem RelO.some_of {v:V} {o:Option Value} (r:RelO (some v) o):∃ u,o = some u ∧ RelV v u:=by
  cases o with
  | none => exact (show False from r).elim
  | some u => exact ⟨u,rfl,r⟩
section
variable {P:Program} {w:World} {H H':Hp} {h h':Heap} {a C dx:Addr} {fs fs':List (Str × V)}
theorem ins_get (hok:HOk P w H h) (e:H a = some (.ins C dx fs)):∃ mA,ObjM h a dx C mA ∧ (∀ f,RelO (fs.lookup f) (mA f)) ∧ PySem.Within mA (fs.map (·.1)) ∧ fs.length ≤ 1000 ∧ H dx = some (.own a):=by
  obtain ⟨d,z,ne,ob,mA,n,r,q⟩:=(show ObjOk P w H h a (.ins C dx fs) from hok a _ e)
  exact ⟨mA,⟨ob,n,ne⟩,r,q,z,d⟩
end
structure Cls (K:PySem.W.Frag) (C:Addr):Prop where
  pg:PySem.W.plainGet K C Str.empty = true
  hd:PySem.W.hasDictIn K C = true
  po:PySem.W.plainOver K C = true
  sa:PySem.W.findIn K (.ref C) "__setattr__" = some (some (.builtin "object.__setattr__"))
theorem Cls.get {K:PySem.W.Frag} {C:Addr} (c:Cls K C) (f:Str):PySem.W.plainGet K C f = true:=c.pg
structure Con (K:PySem.W.Frag) (C:Addr) (f:Str) (v:V) (u:Value):Prop where
  at_:PySem.W.findIn K (.ref C) f = some (some u)
  rel:RelV v u
  get:PySem.W.specialIn K u "__get__" = some none
  cp:PySem.W.copiedNames.contains f = false
structure Meth (K:PySem.W.Frag) (C:Addr) (m:Str) (f:Addr):Prop where
  at_:PySem.W.findIn K (.ref C) m = some (some (.ref f))
  fn:PySem.W.isFn K (.ref f) = true
  kp:PySem.W.keepIn K (.ref f) = true
section
variable {X:Cx} {pins:List (Addr × Obj)} {σ:St} {H:Hp} {s:Shared} {a C dx:Addr} {fs:List (Str × V)} {f:Str} {v:V} {A:Around} {E:Value → Shared → Prop}
end
section
variable {X:Cx} {o e value:Expr} {f:Str} {pos pos' tpos:Pos} {ta tv:TE}
end
section
variable {X:Cx} {pins:List (Addr × Obj)} {σ:St} {H:Hp} {s:Shared} {A:Around} {E:Value → Shared → Prop} {Q:Value → Shared → Prop} {c:Value} {b:Bool}
inductive TyOf (K:PySem.W.Frag) (H:Hp):V → Value → Prop where
  | non:TyOf K H .non (.type "NoneType")
  | bl (x:Bool):TyOf K H (.bl x) (.type "bool")
  | int (i:Int):TyOf K H (.int i) (.type "int")
  | str (x:Str):TyOf K H (.str x) (.type "str")
  | flt (x:UInt64):TyOf K H (.flt x) (.type "float")
  | lst {a:Addr} {xs:List V} (e:H a = some (.lst xs)):TyOf K H (.ref a) (.type "list")
  | frz {a:Addr} {o:Obj} {xs:List V} (e:H a = some (.frz o (.lst xs))):TyOf K H (.ref a) (.type "list")
  | tup {a:Addr} {xs:List V} (e:H a = some (.tup xs)):TyOf K H (.ref a) (.type "tuple")
  | dK {a:Addr} {kvs:List (Key × V)} (e:H a = some (.dK kvs)):TyOf K H (.ref a) (.type "dict")
  | dT {a:Addr} {kvs:List (List Key × V)} (e:H a = some (.dT kvs)):TyOf K H (.ref a) (.type "dict")
  | ins {a C dx:Addr} {fs:List (Str × V)} (e:H a = some (.ins C dx fs)) (cl:Cls K C) (ha:PySem.W.findIn K (.ref C) "__class__" = some (some (.builtin "object.__class__")))
      (hn:PySem.W.specialIn K (.builtin "object.__class__") "__get__" = some (some (.builtin "getset_descriptor.__get__"))) (htk:PySem.W.takesIn K (.builtin "object.__class__") = some true)
      (hm:PySem.W.mroIn K C (.type "object") = some true):TyOf K H (.ref a) (.ref C)
theorem isinst_ok {x:V} {u t:Value} (I:Inv X pins σ H s) (rx:RelV x u) (ty:TyOf X.K H x t) (e:PySem.W.kitOne X.K t c = some b) (h:∀ tk,Q (.bool b) { s with toks:=tk }) :
    wpAny (model X.prog X.w) A (call (.builtin "isinstance") [u,c]) Q E s:=by
  cases ty with
  | non => cases (show u = Value.none from rx); exact PySem.W.kia_one PySem.W.kitx_none I.kIn True.intro e (fun z => nomatch z) h
  | bl y => cases (show u = Value.bool y from rx); exact PySem.W.kia_one PySem.W.kitx_bool I.kIn True.intro e (fun z => nomatch z) h
  | int i => obtain ⟨t,q⟩:=(show ∃ t,u = Value.int i t from rx); cases q; exact PySem.W.kia_one PySem.W.kitx_int I.kIn True.intro e (fun z => nomatch z) h
  | str y => obtain ⟨t,q⟩:=(show ∃ t,u = Value.str y t from rx); cases q; exact PySem.W.kia_one PySem.W.kitx_str I.kIn True.intro e (fun z => nomatch z) h
  | flt y => obtain ⟨t,q⟩:=(show ∃ t,u = Value.float y t from rx); cases q; exact PySem.W.kia_one PySem.W.kitx_float I.kIn True.intro e (fun z => nomatch z) h
  | @lst a xs ea =>
    cases (show u = Value.ref a from rx)
    obtain ⟨_,_,n,_,h1⟩:=(show ObjOk X.prog X.w H s.heap a (.lst xs) from I.hok a _ ea)
    exact PySem.W.kia_one PySem.W.kitx_list I.kIn ⟨_,h1,rfl⟩ e (fun z => nomatch z) h
  | @frz a ob xs ea =>
    cases (show u = Value.ref a from rx)
    obtain ⟨_,_,_,n,_,h1⟩:=(show ObjOk X.prog X.w H s.heap a (.frz ob (.lst xs)) from I.hok a _ ea)
    exact PySem.W.kia_one PySem.W.kitx_list I.kIn ⟨_,h1,rfl⟩ e (fun z => nomatch z) h
  | @tup a xs ea =>
    cases (show u = Value.ref a from rx)
    obtain ⟨_,_,_,p⟩:=(show ObjOk X.prog X.w H s.heap a (.tup xs) from I.hok a _ ea)
    obtain ⟨o,h1,h2,_⟩:=p
    exact PySem.W.kia_one PySem.W.kitx_tuple I.kIn ⟨o,h1,h2⟩ e (fun z => nomatch z) h
  | @dK a kvs ea =>
    cases (show u = Value.ref a from rx)
    obtain ⟨_,_,vs,_,p⟩:=(show ObjOk X.prog X.w H s.heap a (.dK kvs) from I.hok a _ ea)
    obtain ⟨o,es,ep,h1,h2,_⟩:=p
    exact PySem.W.kia_one PySem.W.kitx_dict I.kIn ⟨o,h1,h2.1⟩ e (fun z => nomatch z) h
  | @dT a kvs ea =>
    cases (show u = Value.ref a from rx)
    obtain ⟨_,_,xs,_,o,es,ep,h1,h2,_⟩:=(show ObjOk X.prog X.w H s.heap a (.dT kvs) from I.hok a _ ea)
    exact PySem.W.kia_one PySem.W.kitx_dict I.kIn ⟨o,h1,h2.1⟩ e (fun z => nomatch z) h
  | @ins a C dx fs ea cl ha hn htk hm =>
    cases (show u = Value.ref a from rx)
    obtain ⟨mA,O,_⟩:=ins_get I.hok ea
    obtain ⟨od,J,_⟩:=O.look
    exact PySem.W.kia_one (PySem.W.kitx_own (cl.get _) cl.hd ha hn htk hm) I.kIn J e (fun z => nomatch z) h
end
end L2
namespace L2
open PySem PySem.Spec PyProof.Rows
structure Room (k:Nat) (A:Around):Prop where
  hd:A.handled = none
  dp:A.depth + 3 * k + 5 < recursionLimit
  un:A.units + 16 * k + 200 < cLine
  gd:A.guards = some []
theorem Room.mono {j k:Nat} {A:Around} (r:Room k A) (h:j ≤ k):Room j A:=⟨r.hd,by have:=r.dp; omega,by have:=r.un; omega,r.gd⟩
theorem Room.deeper {k:Nat} {A:Around} (r:Room (k + 1) A) (env:Env):Room k (A.deeper env) :=
  ⟨r.hd,by have:=r.dp; show A.depth + 1 + 3 * k + 5 < _; omega,by have:=r.un; show A.units + 3 + 16 * k + 200 < _; omega,r.gd⟩
theorem Room.depth {k:Nat} {A:Around} (r:Room k A):A.depth < recursionLimit:=by have:=r.dp; omega
theorem Room.units {k:Nat} {A:Around} (r:Room k A):A.units + 64 < cLine:=by have:=r.un; omega
noncomputable def tNil:TA:=fun _ H Q => Q [] H
noncomputable def tCons (ta:TE) (tr:TA):TA:=fun σ H Q => ta σ H fun x H1 => tr σ H1 fun xs H2 => Q (x :: xs) H2
section
variable {X:Cx} {e:Expr} {es:List Expr} {te:TE} {t:TA} {pos:Pos}
theorem pa_nil:PA X [] tNil:=fun _ _ _ _ H Q I h => Calls.spliced_nil ⟨[],H,I,.nil,h⟩
theorem pa_cons (ha:PE X e te) (hr:PA X es t) (hs:starEach (e :: es) X.env = (false,eval e X.env) :: starEach es X.env:=by rfl):PA X (e :: es) (tCons te t):=by
  intro pos pins s σ H Q I h
  rw [hs]
  show wpAny _ _ (spliced ((false,eval e X.env) :: backTo pos (starEach es X.env))) _ _ s
  refine Calls.spliced_cons (thn (ha pins s σ H _ I h) fun u s1 ⟨x,H1,I1,r1,q1⟩ => ?_)
  exact thn (hr pos pins s1 σ H1 _ I1 q1) fun us s2 ⟨xs,H2,I2,r2,q2⟩ => ⟨x :: xs,H2,I2,.cons r1 r2,q2⟩
noncomputable def tTup (t:TA):TE:=fun σ H Q => t σ H fun xs H1 => xs.length ≤ sizeLine ∧ ∀ p,H1 p = none → Q (.ref p) (upd H1 p (.tup xs))
noncomputable def tLst (t:TA):TE:=fun σ H Q => t σ H fun xs H1 => xs.length ≤ sizeLine ∧ ∀ p,H1 p = none → Q (.ref p) (upd H1 p (.lst xs))
theorem pe_tup {x1} (h:PA X es t):PE X (.Tuple es x1 pos) (tTup t):=by
  intro pins s σ H Q I hq
  refine wpAny_Tuple_spliced (thn (h pos pins s σ H _ I hq) fun us s1 ⟨xs,H1,I1,r,z,q⟩ => ⟨by rw [← r.length]; exact z,?_⟩)
  have hf:H1 s1.heap.objs.size = none:=I1.hok.fresh (Nat.le_refl _)
  refine ⟨.ref s1.heap.objs.size,upd H1 s1.heap.objs.size (.tup xs),I1.laid (t':=s1.toks) (fun b u e => Heap.get?_push_of_some _ e) (Nat.le_refl _) ?_,rfl,q _ hf⟩
  exact ⟨z,us,r,⟨_,Heap.get?_push_size _ rfl,rfl,_,rfl⟩⟩
theorem pe_lst (h:PA X es t):PE X (.List es pos) (tLst t):=by
  intro pins s σ H Q I hq
  refine wpAny_List_spliced (thn (h pos pins s σ H _ I hq) fun us s1 ⟨xs,H1,I1,r,z,q⟩ => ⟨by rw [← r.length]; exact z,?_⟩)
  have hf:H1 s1.heap.objs.size = none:=I1.hok.fresh (Nat.le_refl _)
  refine ⟨.ref s1.heap.objs.size,upd H1 s1.heap.objs.size (.lst xs),I1.laid (t':=s1.toks) (fun b u e => Heap.get?_push_of_some _ e) (Nat.le_refl _) ?_,rfl,q _ hf⟩
  exact ⟨z,us,0,r,Heap.get?_push_size _ rfl⟩
end
noncomputable abbrev Sp:=List V → Hp → VK → XK → Prop
noncomputable abbrev CXT:=List Env → Hp → Shared → XK → Value → Shared → Prop
structure Env0 (P:Program) (w:World) (K:PySem.W.Frag) (mg:Str → Option Value) (base:Heap) (A:Around) (outer:List Env) (s:Shared) (H:Hp):Prop where
  frames:A.frames = some outer
  mod:Mod K mg base
  bs:∀ b o,base.get? b = some o → s.heap.get? b = some o ∧ H b = none
  bsz:base.objs.size ≤ s.heap.objs.size
  funs:s.heap.FunFrames base outer
  frf:∀ b ∈ frs outer,H b = none
  hok:HOk P w H s.heap
  bare:AllBare s.gens
noncomputable def CE (outer:List Env) (P:Program) (w:World) (H:Hp) (s:Shared) (Q:VK) (u:Value) (s':Shared):Prop :=
  ∃ v H',s'.os = s.os ∧ AllBare s'.gens ∧ Un (frs outer) [] H H' s.heap s'.heap ∧ HOk P w H' s'.heap ∧ RelV v u ∧ Q v H'
noncomputable def CR (CX:CXT) (outer:List Env) (P:Program) (w:World) (H:Hp) (s:Shared) (Q:VK) (E:XK) (r:Result) (s':Shared):Prop :=
  match r with
  | .ok (.ret u) => CE outer P w H s Q u s'
  | .ok _ => False
  | .error e => CX outer H s E e s'
structure FnOk (P:Program) (w:World) (K:PySem.W.Frag) (mg:Str → Option Value) (base:Heap) (CX:CXT) (k:Nat) (f:Addr) (fd:FuncData) (ps:List Str) (sp:Sp):Prop where
  len:∀ vs H Q E,sp vs H Q E → vs.length = ps.length
  run:∀ (A:Around) (outer:List Env) (s:Shared) (H:Hp) (args:Args) (us:List Value) (vs:List V) (Q:VK) (E:XK),Room k A → Env0 P w K mg base A outer s H → BindsTo s fd args (ps.zip us) → Vals vs us → sp vs H Q E →
    codeAny (model P w) A (.call (.ref f) args) (CR CX outer P w H s Q E) s
theorem FnOk.imp {P:Program} {w:World} {K:PySem.W.Frag} {mg:Str → Option Value} {base:Heap} {CX:CXT} {k:Nat} {f:Addr} {fd:FuncData} {ps:List Str} {sp sp':Sp} (F:FnOk P w K mg base CX k f fd ps sp)
    (h:∀ vs H Q E,sp' vs H Q E → sp vs H Q E):FnOk P w K mg base CX k f fd ps sp' :=
  ⟨fun vs H Q E q => F.len vs H Q E (h _ _ _ _ q),fun A outer s H args us vs Q E hr he hb hv hs => F.run A outer s H args us vs Q E hr he hb hv (h _ _ _ _ hs)⟩
section
variable {X:Cx} {pins:List (Addr × Obj)} {σ:St} {H:Hp} {s s':Shared}
theorem Inv.env0 (I:Inv X pins σ H s):Env0 X.prog X.w X.K X.mg X.base X.A X.stack s H :=
  ⟨I.ok.frames,I.ok.mod,I.bs,Nat.le_trans I.ok.bsz I.sz,I.stack,I.stkFree,I.hok,I.bare⟩
theorem Inv.after {Q:VK} {u:Value} (I:Inv X pins σ H s) (h:CE X.stack X.prog X.w H s Q u s'):EP X pins σ Q u s':=by
  obtain ⟨v,H',os,bare,un,hok,r,q⟩:=h
  obtain ⟨hh,g,d,t,os'⟩:=s'
  obtain rfl:os' = s.os:=os
  exact ⟨v,H',I.call (h':=hh) (g':=g) (d':=d) (t':=t) (ch:=[]) un hok bare (fun b z => absurd z (by simp)),r,q⟩
end
noncomputable def tCall (sp:Sp) (dvs:List V) (E:XK) (t:TA):TE:=fun σ H Q => t σ H fun vs H1 => sp (vs ++ dvs) H1 Q E
noncomputable def Binds (K:PySem.W.Frag) (fd:FuncData) (ps:List Str) (ds:List Value):Prop :=
  ∀ (s:Shared) (us:List Value),K.In s.heap → (us ++ ds).length = ps.length → BindsTo s fd ⟨us,[]⟩ (ps.zip (us ++ ds))
theorem Binds.all {K:PySem.W.Frag} {fd:FuncData} {ps:List Str} (h:∀ us:List Value,us.length = ps.length → bindArgs fd ⟨us,[]⟩ = pure (ps.zip us)):Binds K fd ps []:=fun s us _ hl => by
  rw [List.append_nil] at hl ⊢
  exact .of_eq (h us hl)
noncomputable def Passes (CX:CXT) (X:Cx) (E:XK):Prop:=∀ (pins:List (Addr × Obj)) (σ:St) (H:Hp) (s:Shared) (e:Value) (s':Shared),Inv X pins σ H s → CX X.stack H s E e s' → X.xe e s'
section
variable {X:Cx} {CX:CXT} {k:Nat} {f C:Addr} {fd:FuncData} {ps:List Str} {sp:Sp} {dvs:List V} {ds:List Value} {E:XK} {x m:Str} {p pos apos:Pos} {e o:Expr} {es:List Expr} {ta:TE} {t:TA}
theorem run_fn {pins:List (Addr × Obj)} {σ:St} {H:Hp} {s:Shared} {Q:VK} {us:List Value} {vs:List V} (F:FnOk X.prog X.w X.K X.mg X.base CX k f fd ps sp) (hr:Room k X.A) (hb:Binds X.K fd ps ds) (hd:Vals dvs ds) (hx:Passes CX X E)
    (I:Inv X pins σ H s) (r:Vals vs us) (h:sp (vs ++ dvs) H Q E):wpAny (model X.prog X.w) X.A (call (.ref f) us) (EP X pins σ Q) X.xe s:=by
  have r2:Vals (vs ++ dvs) (us ++ ds):=r.append hd
  have hl:(us ++ ds).length = ps.length:=by rw [← r2.length]; exact F.len _ _ _ _ h
  refine wpAny_call (codeAny_mono (F.run X.A X.stack s H ⟨us,[]⟩ (us ++ ds) (vs ++ dvs) Q E hr I.env0 (hb s us I.kIn hl) r2 h) fun r s' hq => ?_)
  cases r with
  | error e => exact hx pins σ H s e s' I hq
  | ok fl =>
    cases fl with
    | ret u => exact I.after hq
    | next => exact False.elim hq
    | brk => exact False.elim hq
    | cont => exact False.elim hq
theorem pe_call (F:FnOk X.prog X.w X.K X.mg X.base CX k f fd ps sp) (hr:Room k X.A) (hg:Gl X x) (hm:X.mg x = some (.ref f)) (hk:PySem.W.keepIn X.K (.ref f) = true) (hb:Binds X.K fd ps ds) (hd:Vals dvs ds) (hx:Passes CX X E)
    (ha:PA X (e :: es) t) (hdb:(x == ("__debug__":Str)) = false:=by decide) (he:starEach (e :: es) X.env = (false,eval e X.env) :: starEach es X.env:=by rfl) (hpl:(backTo pos (starEach es X.env)).any (·.1) = false:=by rfl) :
    PE X (.Call (.Name x p) (e :: es) [] pos) (tCall sp dvs E t):=by
  intro pins s σ H Q I h
  refine wpAny_Call_Name_kw (ld_glob I hg hm ?_ hdb)
  refine PySem.W.callWith_K (h₀:=X.base) I.ok.mod.kin hk (thn (ha pos pins s σ H _ I h) fun us s1 ⟨vs,H1,I1,r,q⟩ => ⟨I1.kIn,?_⟩) he hpl
  exact run_fn F hr hb hd hx I1 r q
structure Mk (K:PySem.W.Frag) (C f:Addr):Prop where
  makes:PySem.W.makesIn K C = true
  init:PySem.W.findIn K (.ref C) "__init__" = some (some (.ref f))
  fn:PySem.W.isFn K (.ref f) = true
  kp:PySem.W.keepIn K (.ref C) = true
end
section
variable {X:Cx} {CX:CXT} {k:Nat} {f C:Addr} {fd:FuncData} {ps ks:List Str} {sp:Sp} {E:XK} {x m:Str} {p pos apos kpos:Pos} {e o:Expr} {es:List Expr} {kws:List Keyword} {te ta:TE} {t tk:TA} {nm:Option Str}
structure KBinds (K:PySem.W.Frag) (fd:FuncData) (ps ks:List Str) (g:List Value → List Value → List Value) (gV:List V → List V → List V):Prop where
  to:∀ (s:Shared) (us ws:List Value),K.In s.heap → (g us ws).length = ps.length → BindsTo s fd ⟨us,ks.zip ws⟩ (ps.zip (g us ws))
  rel:∀ {vs:List V} {us:List Value} {zs:List V} {ws:List Value},Vals vs us → Vals zs ws → Vals (gV vs zs) (g us ws)
variable {g:List Value → List Value → List Value} {gV:List V → List V → List V}
end
structure FnScope (N P:List Str) (sc:Scope):Prop where
  kind:sc.kind = .function
  co:sc.isCoroutine = false
  gen:sc.isGenerator = false
  nd:N.Nodup
  pre:N.take P.length = P
  par:∀ x ∈ P,sc.names.lookup x = some .local ∨ sc.names.lookup x = some .cell
  nofree:∀ y ∈ sc.names,y.2 ≠ .free
theorem bindL_out {kindOf:Str → Option NameKind} {x:Str}:∀ {binds:List (Str × Value)} {m:Str → Option Value},(∀ v,(x,v) ∉ binds) → bindL kindOf binds m x = m x
  | [],_,_ => rfl
  | (n,v) :: r,m,h => by
    unfold bindL
    rw [bindL_out fun w hw => h w (List.mem_cons_of_mem _ hw)]
    split
    · have:x ≠ n:=by rintro rfl; exact h v List.mem_cons_self
      simp [this]
    · rfl
theorem bindC_out {kindOf:Str → Option NameKind} {x:Str}:∀ {binds:List (Str × Value)} {m:Str → Option Value},(∀ v,(x,v) ∉ binds) → bindC kindOf binds m x = m x
  | [],_,_ => rfl
  | (n,v) :: r,m,h => by
    unfold bindC
    rw [bindC_out fun w hw => h w (List.mem_cons_of_mem _ hw)]
    split
    · rfl
    · have:x ≠ n:=by rintro rfl; exact h v List.mem_cons_self
      simp [this]
theorem bindL_get {kindOf:Str → Option NameKind} {x:Str} {v:Value}:∀ {P:List Str} {vs:List Value} {i:Nat} {m:Str → Option Value},P.Nodup → P[i]? = some x → vs[i]? = some v → kindOf x = some .local →
    bindL kindOf (P.zip vs) m x = some v
  | [],_,_,_,_,h,_,_ => by simp at h
  | _ :: _,[],_,_,_,_,h,_ => by simp at h
  | p :: P,w :: vs,0,m,nd,h1,h2,hk => by
    simp at h1 h2; subst h1; subst h2
    show bindL kindOf ((p,w) :: P.zip vs) m p = _
    unfold bindL
    rw [bindL_out fun v hv => (List.nodup_cons.mp nd).1 (List.of_mem_zip hv).1,if_pos hk]
    simp
  | p :: P,w :: vs,i + 1,m,nd,h1,h2,hk => by
    show bindL kindOf ((p,w) :: P.zip vs) m x = _
    unfold bindL
    exact bindL_get (i:=i) (List.nodup_cons.mp nd).2 (by simpa using h1) (by simpa using h2) hk
theorem bindC_get {kindOf:Str → Option NameKind} {x:Str} {v:Value}:∀ {P:List Str} {vs:List Value} {i:Nat} {m:Str → Option Value},P.Nodup → P[i]? = some x → vs[i]? = some v → kindOf x ≠ some .local →
    bindC kindOf (P.zip vs) m x = some v
  | [],_,_,_,_,h,_,_ => by simp at h
  | _ :: _,[],_,_,_,_,h,_ => by simp at h
  | p :: P,w :: vs,0,m,nd,h1,h2,hk => by
    simp at h1 h2; subst h1; subst h2
    show bindC kindOf ((p,w) :: P.zip vs) m p = _
    unfold bindC
    rw [bindC_out fun v hv => (List.nodup_cons.mp nd).1 (List.of_mem_zip hv).1,if_neg hk]
    simp
  | p :: P,w :: vs,i + 1,m,nd,h1,h2,hk => by
    show bindC kindOf ((p,w) :: P.zip vs) m x = _
    unfold bindC
    exact bindC_get (i:=i) (List.nodup_cons.mp nd).2 (by simpa using h1) (by simpa using h2) hk
noncomputable def start (N:List Str) (vs:List V):St:=vs.map some ++ List.replicate (N.length - vs.length) none
noncomputable def cxOf (CX:CXT) (P:Program) (w:World) (K:PySem.W.Frag) (mg:Str → Option Value) (base:Heap) (N:List Str) (qual:Str) (scope:Scope) (f:Addr) (cd:Value) (A:Around) (outer:List Env) (s:Shared) (H:Hp) (E:XK):Cx where
  prog:=P
  w:=w
  K:=K
  mg:=mg
  base:=base
  A:=A.deeper (envOfC qual scope s.heap.objs.size f cd)
  N:=N
  s₀:=s
  H₀:=H
  env:=envOfC qual scope s.heap.objs.size f cd
  outer:=outer
  stack:=envOfC qual scope s.heap.objs.size f cd :: outer
  ex:=[]
  calm:=true
  fn:=fun _ => true
  pn:=[]
  xe:=fun e s' => wpAny (model P w) (A.deeper (envOfC qual scope s.heap.objs.size f cd)) (leaving (envOfC qual scope s.heap.objs.size f cd) e) (fun _ s'' => CX outer H s E e s'') (fun e' s'' => CX outer H s E e' s'') s'
theorem cell_has {sc:Scope} {n:Nat} {x:Str} (h:sc.names.lookup x = some .cell):∃ c,(cellsFrom n sc.names []).lookup x = some c:=by
  have q:=PySem.W.cellsFrom_some sc.names n [] (.inl h)
  exact Option.isSome_iff_exists.mp q
theorem inv_start {CX:CXT} {P:Program} {w:World} {K:PySem.W.Frag} {mg:Str → Option Value} {base:Heap} {N ps:List Str} {qual:Str} {scope:Scope} {f:Addr} {cd:Value} {A:Around} {outer:List Env} {s s1:Shared} {H:Hp} {E:XK} {us:List Value} {vs:List V}
    (S:FnScope N ps scope) (hd:A.handled = none) (e0:Env0 P w K mg base A outer s H) (hl:vs.length = ps.length) (r:Vals vs us)
    (x:InCallC s s.heap.objs.size (bindL (envOfC qual scope s.heap.objs.size f cd).kindOf (ps.zip us) fun _ => none) (cellsFrom (s.heap.objs.size + 1) scope.names []) (bindC (envOfC qual scope s.heap.objs.size f cd).kindOf (ps.zip us) fun _ => none) s1) :
    Inv (cxOf CX P w K mg base N qual scope f cd A outer s H E) [] (start N vs) H s1:=by
  have hpl:ps.length ≤ N.length:=by have:=congrArg List.length S.pre; rw [List.length_take] at this; omega
  obtain ⟨h1,tk,rfl,hk⟩:=x.done
  have noA:∀ b:Addr,b ∉ (cxOf CX P w K mg base N qual scope f cd A outer s H E).ex:=fun b z => absurd (show b ∈ ([]:List Addr) from z) (by simp)
  refine ⟨⟨e0.mod,S.kind,rfl,rfl,Nat.le_refl _,fun y z c h1 h2 => ?_,fun y hy => ?_,fun y c _ h => ?_,fun _ => hd,Around.frames_deeper e0.frames,.inr ⟨rfl,rfl⟩,fun b z => absurd z (noA b),e0.bs,e0.bsz,fun b _ _ => noA b,fun b z => absurd z (noA b),e0.funs,e0.frf⟩,
    rfl,e0.bare,Un.kept hk,⟨_,x.toInCall.ns,fun i y v h1 h2 h3 => ?_⟩,fun y c h => ⟨_,x.cell y c h⟩,e0.hok.fresh (Nat.le_refl _),fun y c h => ?_,fun p hp => absurd (show p ∈ ([]:List (Addr × Obj)) from hp) (by simp),e0.hok.kept hk,?_⟩
  · exact name_of_addr x.apart (PySem.mem_of_lookup h1) (PySem.mem_of_lookup h2)
  · have hy:scope.names.lookup y = some .cell ∨ scope.names.lookup y = some .free:=hy
    rcases hy with hy | hy
    · exact cell_has hy
    · exact absurd rfl (S.nofree _ (PySem.mem_of_lookup hy))
  · exact Nat.le_of_lt (x.above y c (PySem.mem_of_lookup h))
  · have hi:i < vs.length:=by
      unfold start at h2
      by_cases hi:i < vs.length
      · exact hi
      · rw [List.getElem?_append_right (by simpa using hi)] at h2
        rw [List.getElem?_replicate] at h2
        split at h2 <;> cases h2
    have ha:vs[i]? = some v:=by
      unfold start at h2
      rw [List.getElem?_append_left (by simpa using hi),List.getElem?_map] at h2
      cases e:vs[i]? with
      | none => rw [e] at h2; cases h2
      | some a => rw [e] at h2; cases h2; rfl
    obtain ⟨u,hu,rv⟩:=r.get ha
    have hp:ps[i]? = some y:=by
      rw [← S.pre,List.getElem?_take_of_lt (by omega)]; exact h1
    have ndP:ps.Nodup:=by rw [← S.pre]; exact S.nd.sublist (List.take_sublist _ _)
    refine ⟨u,rv,?_⟩
    rcases S.par y (List.mem_of_getElem? hp) with k | k
    · exact .inl ⟨k,bindL_get ndP hp hu k⟩
    · obtain ⟨c,e⟩:=cell_has (n:=s.heap.objs.size + 1) k
      refine .inr ⟨.inl k,c,e,?_⟩
      have q:=x.cell y c e
      rw [bindC_get ndP hp hu (by show scope.names.lookup y ≠ _; rw [k]; decide)] at q
      exact q
  · exact e0.hok.fresh (Nat.le_of_lt (x.above y c (PySem.mem_of_lookup h)))
  · unfold start
    show _ = N.length
    rw [List.length_append,List.length_map,List.length_replicate]
    omega
theorem fn_of {CX:CXT} {P:Program} {w:World} {K:PySem.W.Frag} {mg:Str → Option Value} {base:Heap} {k:Nat} {f:Addr} {name qual:Str} {params:Arguments} {body:List Stmt} {scope:Scope} {dV kV doc pm cdv ct oc:Value} {an od:Option Addr}
    {osl:Array (Option Value)} {N ps:List Str} {sp:Sp} (lk:K.lookup f = some ⟨oc,od,.func (PySem.W.fnOf name qual params body scope dV kV doc pm an cdv ct),osl⟩) (hcd:PySem.W.codeIn K cdv qual = true) (S:FnScope N ps scope)
    (len:∀ vs H Q E,sp vs H Q E → vs.length = ps.length)
    (hbody:∀ (A:Around) (outer:List Env) (s:Shared) (H:Hp) (vs:List V) (Q:VK) (E:XK),Room k (A.deeper (envOfC qual scope s.heap.objs.size f cdv)) → sp vs H Q E →
      ∃ t,PSs (cxOf CX P w K mg base N qual scope f cdv A outer s H E) body t ∧ t { nx:=fun _ H' => Q .non H',rt:=Q } (start N vs) H) :
    FnOk P w K mg base CX (k + 1) f (PySem.W.fnOf name qual params body scope dV kV doc pm an cdv ct) ps sp:=by
  refine ⟨len,fun A outer s H args us vs Q E hr e0 hb r hsp => ?_⟩
  have hl:=len _ _ _ _ hsp
  have KX:K.In s.heap:=e0.mod.kin.keeps fun b o e => (e0.bs b o e).1
  have lim:s.heap.NoLimit:=e0.mod.nolimit.keeps fun b o e => (e0.bs b o e).1
  have hkind:∀ y ∈ ps.zip us,scope.names.lookup y.1 = some .local ∨ (scope.names.lookup y.1 = some .cell ∧ ((cellsFrom (s.heap.objs.size + 1) scope.names []).lookup y.1).isSome = true):=fun ⟨n,v⟩ hy => by
    rcases S.par n (List.of_mem_zip hy).1 with q | q
    · exact .inl q
    · exact .inr ⟨q,PySem.W.cellsFrom_some _ _ _ (.inl q)⟩
  refine codeAny_call_function hr.depth (KX _ _ lk) rfl S.co S.gen rfl (PySem.W.codeRec_of KX hcd) (hb _ _ _ _ ?_)
  refine wpAny_newFunctionEnv_cells S.kind hkind fun env he s1 x => ?_
  subst he
  refine ⟨lim.keeps x.toInCall.keep,codeAny_func ?_⟩
  obtain ⟨t,ht,hq⟩:=hbody A outer s H vs Q E (hr.deeper _) hsp
  have I:Inv (cxOf CX P w K mg base N qual scope f cdv A outer s H E) [] (start N vs) H s1:=inv_start S hr.hd e0 hl r x
  refine wpAny_mono (ht [] s1 (start N vs) H _ I hq) (fun fl s' hs => ?_) fun e s' hs => hs
  have fin:∀ {σ':St} {H':Hp} {v:V} {u:Value},Inv (cxOf CX P w K mg base N qual scope f cdv A outer s H E) [] σ' H' s' → RelV v u → Q v H' → CE outer P w H s Q u s' :=
    fun {σ' H' v u} J rv q => ⟨v,H',J.os,J.bare,J.base,J.hok,rv,q⟩
  cases fl with
  | ret u =>
    obtain ⟨v,σ',H',J,rv,q⟩:=hs
    exact fin J rv q
  | next =>
    obtain ⟨σ',H',J,q⟩:=hs
    exact fin (v:=V.non) (u:=Value.none) J rfl q
  | brk =>
    obtain ⟨_,_,_,q⟩:=hs
    exact False.elim q
  | cont =>
    obtain ⟨_,_,_,q⟩:=hs
    exact False.elim q
end L2
namespace L2
open PySem PySem.Spec PyProof.Rows
section
variable {X:Cx} {x:Str} {p pos:Pos} {e:Expr} {es:List Expr} {t:TA} {id T:String} {r:List V → Hp → VK → Prop}
noncomputable def tCB (r:List V → Hp → VK → Prop) (t:TA):TE:=fun σ H Q => t σ H fun vs H1 => r vs H1 Q
theorem pe_callB (hc:CallR X (.builtin id) r) (hg:Gl X x) (hm:X.mg x = none) (hv:bootBuiltins x = some (.builtin id)) (ha:PA X (e :: es) t) (hn:x ≠ "__name__":=by decide) (hdb:(x == ("__debug__":Str)) = false:=by decide)
    (he:starEach (e :: es) X.env = (false,eval e X.env) :: starEach es X.env:=by rfl) (hpl:(backTo pos (starEach es X.env)).any (·.1) = false:=by rfl):PE X (.Call (.Name x p) (e :: es) [] pos) (tCB r t):=by
  intro pins s σ H Q I h
  refine wpAny_Call_Name_kw (ld_blt I hg hm hv ?_ hn hdb)
  exact PyProof.Rows.callWith_builtin1 (thn (ha pos pins s σ H _ I h) fun us s1 ⟨vs,H1,I1,r1,q1⟩ => hc pins s1 σ H1 vs us Q I1 r1 q1) he hpl
theorem pe_callTy (hc:CallR X (.type T) r) (hg:Gl X x) (hm:X.mg x = none) (hv:bootBuiltins x = some (.type T)) (ha:PA X (e :: es) t) (hn:x ≠ "__name__":=by decide) (hdb:(x == ("__debug__":Str)) = false:=by decide)
    (he:starEach (e :: es) X.env = (false,eval e X.env) :: starEach es X.env:=by rfl) (hpl:(backTo pos (starEach es X.env)).any (·.1) = false:=by rfl):PE X (.Call (.Name x p) (e :: es) [] pos) (tCB r t):=by
  intro pins s σ H Q I h
  refine wpAny_Call_Name_kw (ld_blt I hg hm hv ?_ hn hdb)
  exact PyProof.Rows.callWith_type1 (thn (ha pos pins s σ H _ I h) fun us s1 ⟨vs,H1,I1,r1,q1⟩ => hc pins s1 σ H1 vs us Q I1 r1 q1) he hpl
end
end L2
namespace HT
open PySem PyProof.Rows
section
open PySem.SeqAt
open PySem.AutoSeq1 (wpAny_loadPart')
open PySem.MeetsSeq PySem.MeetsSeq2 PySem.MeetsSeq3
end
section
variable {prog:Program} {w:World} {A:Around} {E:Value → Shared → Prop} {s:Shared}
theorem cat_tup {t b:Addr} {vs ws:List Value} {Q:Value → Shared → Prop} (ht:IsTup s.heap t vs.toArray) (hb:IsTup s.heap b ws.toArray) (hv:vs ≠ [])
    (h1:ws = [] → Q (.ref t) s) (h2:ws ≠ [] → Q (.ref s.heap.objs.size) { s with heap:=s.heap.push { cls:=.type "tuple",data:=.seq (vs ++ ws).toArray } })
    (hsz:vs.length + ws.length ≤ sizeLine):wpAny (model prog w) A (binaryOp .Add (.ref t) (.ref b)) Q E s:=by
  obtain ⟨⟨cls,dd,data,sl⟩,ho,hc,n,hd⟩:=id ht
  obtain ⟨⟨cls2,dd2,data2,sl2⟩,ho2,hc2,n2,hd2⟩:=id hb
  simp only at hc hd hc2 hd2
  subst hc hd hc2 hd2
  have e:vs.toArray ++ ws.toArray = (vs ++ ws).toArray:=by simp
  by_cases hw:ws = []
  · exact concat_meets ⟨_,ho,rfl⟩ ⟨_,ho2,rfl⟩ noFill_tuple_add seq_tuple_add PySem.F.slot_tuple_add PySem.F.entry_tuple_add (PySem.F.args_tuple_add_2 _ _)
      (tuple_addW1 t b vs.toArray ws.toArray n n2 dd dd2 sl sl2 (by simpa using hv) (by simp [hw])) ⟨ho,ho2,h1 hw⟩
  · refine concat_meets ⟨_,ho,rfl⟩ ⟨_,ho2,rfl⟩ noFill_tuple_add seq_tuple_add PySem.F.slot_tuple_add PySem.F.entry_tuple_add (PySem.F.args_tuple_add_2 _ _)
      (tuple_addW2 t b vs.toArray ws.toArray n n2 dd dd2 sl sl2 (by simpa using hv) (by simpa using hw) (by rw [List.size_toArray,List.size_toArray]; exact hsz)) ⟨ho,ho2,?_⟩
    rw [e]
    exact h2 hw
noncomputable def sIx (n d:Nat):Option Int → Nat
  | none => d
  | some v => if v < 0 then (v + (n:Int)).toNat else min v.toNat n
theorem sIx_none (n d:Nat):sIx n d none = d:=rfl
theorem sIx_nat (n d k:Nat):sIx n d (some (k:Int)) = min k n:=by
  show (if (k:Int) < 0 then ((k:Int) + (n:Int)).toNat else min (k:Int).toNat n) = min k n
  rw [if_neg (by omega),Int.toNat_natCast]
theorem sIx_le (n d:Nat) (hd:d ≤ n) (o:Option Int):sIx n d o ≤ n:=by
  cases o with
  | none => exact hd
  | some v =>
    show (if v < 0 then (v + (n:Int)).toNat else min v.toNat n) ≤ n
    by_cases hv:v < 0
    · rw [if_pos hv]; omega
    · rw [if_neg hv]; exact Nat.min_le_right _ _
theorem clip_eq (v:Int) (n d:Nat):(if v < 0 then max (v + (n:Int)) 0 else min v (n:Int)) = ((sIx n d (some v):Nat):Int):=by
  show (if v < 0 then max (v + (n:Int)) 0 else min v (n:Int)) = (((if v < 0 then (v + (n:Int)).toNat else min v.toNat n):Nat):Int)
  by_cases hv:v < 0
  · simp only [if_pos hv]; omega
  · simp only [if_neg hv]; omega
theorem adjust_gen (lo hi:Option Int) (n:Nat):Builtin.Slice.sliceAdjust lo hi 1 (n:Int) = (((sIx n 0 lo:Nat):Int),((sIx n n hi:Nat):Int)):=by
  have h1:¬ ((1:Int) < 0):=by omega
  unfold Builtin.Slice.sliceAdjust
  simp only [h1,if_false]
  refine Prod.ext ?_ ?_
  · cases lo with
    | none => rfl
    | some v => exact clip_eq v n 0
  · cases hi with
    | none => rfl
    | some v => exact clip_eq v n n
theorem places_gen (i j:Nat):Builtin.Slice.slicePlaces (i:Int) (j:Int) 1 = j - i:=by
  unfold Builtin.Slice.slicePlaces
  have h1:(1:Int) > 0:=by omega
  simp only [h1,if_true,Int.ediv_one]
  split <;> omega
theorem slicePart_ {v:Value} {o:Option Int} {Q:Option Int → Shared → Prop} (p:IsPart v o) (h:Q o s):wpAny (model prog w) A (Builtin.Slice.slicePartIndex v) Q E s:=by
  cases p with
  | none => exact slicePart_none h
  | int i t => exact slicePart_int h
theorem sliceApplied_gen {sl:Addr} {vl vu:Value} {lo hi:Option Int} {n:Nat} {Q:Int × Int × Nat → Shared → Prop} (hs:s.heap.IsSliceOf sl vl vu .none) (pl:IsPart vl lo) (pu:IsPart vu hi)
    (h:Q (((sIx n 0 lo:Nat):Int),1,sIx n n hi - sIx n 0 lo) s):wpAny (model prog w) A (Builtin.Slice.sliceApplied (.ref sl) (pure (n:Int))) Q E s:=by
  obtain ⟨os,hos,hcs,hds⟩:=id hs
  unfold Builtin.Slice.sliceApplied Builtin.Slice.sliceFields
  refine wpAny_bind (wpAny_bind (wpAny_field hos hds (x:=vl) rfl (wpAny_bind (wpAny_field hos hds (x:=vu) rfl (wpAny_bind (wpAny_field hos hds (x:=.none) rfl (wpAny_pure ?_)))))))
  refine wpAny_bind (slicePart_none ?_)
  show wpAny _ _ (if ((1:Int) == 0) = true then _ else _) _ _ s
  rw [if_neg (by decide)]
  refine wpAny_bind (slicePart_ pl (wpAny_bind (slicePart_ pu (wpAny_bind (wpAny_pure ?_)))))
  show wpAny _ _ (match Builtin.Slice.sliceAdjust lo hi 1 (n:Int) with | (lo,hi) => pure (lo,(1:Int),Builtin.Slice.slicePlaces lo hi 1)) _ _ s
  rw [adjust_gen lo hi n]
  show wpAny _ _ (pure (((sIx n 0 lo:Nat):Int),(1:Int),Builtin.Slice.slicePlaces ((sIx n 0 lo:Nat):Int) ((sIx n n hi:Nat):Int) 1)) _ _ s
  rw [places_gen]
  exact wpAny_pure h
theorem pick_gen (xs:Array Value) (i k:Nat):((List.range k).filterMap fun (m:Nat) => xs[((i:Int) + (m:Int) * 1).toNat]?).toArray = ((xs.toList.drop i).take k).toArray:=by
  have e:(fun (m:Nat) => xs[((i:Int) + (m:Int) * 1).toNat]?) = fun m => xs[i + m]?:=by
    funext m
    have:((i:Int) + (m:Int) * 1).toNat = i + m:=by omega
    rw [this]
  rw [e]
  have:=pick_run xs i k
  rw [List.filterMap_map] at this
  have e2:((fun x => xs[x]?) ∘ fun x => i + x) = fun m => xs[i + m]?:=rfl
  rw [e2] at this
  rw [this]
theorem getItem_tuple_cut {t sl:Addr} {items:Array Value} {vl vu:Value} {lo hi:Option Int} {Q:Value → Shared → Prop} (ht:IsTup s.heap t items) (hs:s.heap.IsSliceOf sl vl vu .none) (pl:IsPart vl lo) (pu:IsPart vu hi)
    (hw:¬ (sIx items.size 0 lo = 0 ∧ sIx items.size items.size hi = items.size))
    (h:Q (.ref s.heap.objs.size) { s with heap:=s.heap.push { cls:=.type "tuple",data:=.seq ((items.toList.drop (sIx items.size 0 lo)).take (sIx items.size items.size hi - sIx items.size 0 lo)).toArray } })
    (hsz:items.size ≤ sizeLine):wpAny (model prog w) A (getItem (.ref t) (.ref sl)) Q E s:=by
  have htake:sizeOk (.seq ((items.toList.drop (sIx items.size 0 lo)).take (sIx items.size items.size hi - sIx items.size 0 lo)).toArray):=by
    show ((items.toList.drop (sIx items.size 0 lo)).take (sIx items.size items.size hi - sIx items.size 0 lo)).toArray.size ≤ sizeLine
    rw [List.size_toArray,List.length_take,List.length_drop,Array.length_toList]
    omega
  have hj:sIx items.size items.size hi ≤ items.size:=sIx_le _ _ (Nat.le_refl _) hi
  obtain ⟨os,hos,hcs,hds⟩:=id hs
  have hTs:s.TypeIs (.ref sl) "slice":=⟨os,hos,hcs⟩
  unfold getItem
  try with_reducible refine wpAny_holding ?_
  first | refine wpAny_bind (wpAny_pure ?_) | skip
  refine wpAny_bind (wpAny_sequenceKey ht.typeIs (by decide) ?_)
  refine wpAny_bind (wpAny_callSpecial?_slot (name:=Str.ofString "__getitem__") ht.typeIs PyProof.Rows.slot_tuple_getitem
    (wpAny_call_entry PyProof.Rows.slot_tuple_getitem ht.typeIs entry_tuple_getitem ?_ (args_tuple_getitem _ _)))
  show wpAny _ _ (Builtin.Tuple.tupleItemsOf (.ref t) >>= _) _ _ s
  refine wpAny_bind (tupleItemsOf_ ht ?_)
  refine wpAny_bind (wpAny_typeOf hTs ?_)
  rw [if_pos (by decide)]
  refine wpAny_bind (sliceApplied_gen hs pl pu ?_)
  have hno:¬ ((((sIx items.size 0 lo:Nat):Int) == 0 && (1:Int) == 1 && (sIx items.size items.size hi - sIx items.size 0 lo) == items.size) = true):=by
    intro q
    rw [Bool.and_eq_true,Bool.and_eq_true] at q
    have q1:((sIx items.size 0 lo:Nat):Int) = 0:=eq_of_beq q.1.1
    have q2:sIx items.size items.size hi - sIx items.size 0 lo = items.size:=eq_of_beq q.2
    exact hw ⟨by omega,by omega⟩
  show wpAny _ _ (if (((sIx items.size 0 lo:Nat):Int) == 0 && (1:Int) == 1 && (sIx items.size items.size hi - sIx items.size 0 lo) == items.size) = true then _ else _) _ _ s
  rw [if_neg hno,pick_gen]
  first
    | exact wpAny_bind (m:=Builtin.Tuple.tupleExact _) (wpAny_newObj_type (wpAny_pure ⟨_,rfl,wpAny_pure h⟩) htake)
    | exact wpAny_bind (m:=Builtin.Tuple.tupleExact _) (wpAny_newObj_type (wpAny_bind (wpAny_pure (wpAny_pure ⟨_,rfl,wpAny_pure h⟩))) htake)
    | exact wpAny_bind (wpAny_bind (m:=Builtin.Tuple.tupleExact _) (wpAny_newObj_type (wpAny_pure (wpAny_pure ⟨_,rfl,wpAny_pure h⟩)) htake))
    | exact wpAny_bind (wpAny_bind (m:=Builtin.Tuple.tupleExact _) (wpAny_newObj_type (wpAny_pure ⟨_,rfl,wpAny_pure h⟩) htake))
end
end HT
namespace L2
open PySem PySem.Spec PyProof.Rows
noncomputable abbrev TO:=St → Hp → (Option Int → Hp → Prop) → Prop
noncomputable def PO (X:Cx) (e:Option Expr) (t:TO):Prop :=
  ∀ (pins:List (Addr × Obj)) (s:Shared) (σ:St) (H:Hp) (Q:Option Int → Hp → Prop),Inv X pins σ H s → t σ H Q →
    wpAny (model X.prog X.w) X.A (evalPart e X.env) (fun u s' => ∃ o H',Inv X pins σ H' s' ∧ IsPart u o ∧ Q o H') X.xe s
noncomputable def tNoPart:TO:=fun _ H Q => Q none H
noncomputable def tPart (t:TE):TO:=fun σ H Q => t σ H fun x H1 => ∃ i,x = .int i ∧ Q (some i) H1
section
variable {X:Cx} {e:Expr} {te:TE} {lo hi:Option Expr} {tl th:TO} {pos p2:Pos}
theorem po_none:PO X none tNoPart:=by
  intro pins s σ H Q I h
  rw [evalPart_none]
  exact wpAny_pure ⟨none,H,I,.none,h⟩
theorem po_some (h:PE X e te):PO X (some e) (tPart te):=by
  intro pins s σ H Q I hw
  rw [evalPart_some]
  refine thn (h pins s σ H _ I hw) fun u s1 ⟨x,H1,I1,r1,q1⟩ => ?_
  obtain ⟨i,rfl,q⟩:=q1
  obtain ⟨t,rfl⟩:=r1
  exact ⟨some i,H1,I1,.int i t,q⟩
noncomputable def SlR (X:Cx) (r:V → Option Int → Option Int → Hp → VK → Prop):Prop :=
  ∀ (pins:List (Addr × Obj)) (s:Shared) (σ:St) (H:Hp) (x:V) (v vl vu:Value) (lo hi:Option Int) (sl:Addr) (Q:VK),Inv X pins σ H s → RelV x v → s.heap.IsSliceOf sl vl vu .none → IsPart vl lo → IsPart vu hi → r x lo hi H Q →
    ∃ T id,typeLookup (.type T) "__getitem__" = pure (some (.builtin id)) ∧ s.TypeIs v T ∧ wpAny (model X.prog X.w) X.A (getItem v (.ref sl)) (EP X pins σ Q) X.xe s
noncomputable def tSl (r:V → Option Int → Option Int → Hp → VK → Prop) (te:TE) (tl th:TO):TE:=fun σ H Q => te σ H fun x H1 => tl σ H1 fun l H2 => th σ H2 fun u H3 => r x l u H3 Q
theorem pe_slice {r:V → Option Int → Option Int → Hp → VK → Prop} (hr:SlR X r) (he:PE X e te) (hl:PO X lo tl) (hu:PO X hi th):PE X (.Subscript e (.Slice lo hi none p2) pos) (tSl r te tl th):=by
  intro pins s σ H Q I h
  refine Subscript_ (thn (he pins s σ H _ I h) fun v s1 ⟨x,H1,I1,r1,q1⟩ => ?_)
  refine wpAny_Slice (thn (hl pins s1 σ H1 _ I1 q1) fun vl s2 ⟨l,H2,I2,pl,q2⟩ => thn (hu pins s2 σ H2 _ I2 q2) fun vu s3 ⟨u,H3,I3,pu,q3⟩ => ?_)
  rw [evalPart_none]
  refine wpAny_pure ?_
  have I4:Inv X pins σ H3 { s3 with heap:=s3.heap.push { cls:=.type "slice",data:=.fields #[vl,vu,.none] } }:=I3.kept (t':=s3.toks) fun b ob q => Heap.get?_push_of_some _ q
  obtain ⟨T,id,hT,ht,hg⟩:=hr pins { s3 with heap:=s3.heap.push { cls:=.type "slice",data:=.fields #[vl,vu,.none] } } σ H3 x v vl vu l u s3.heap.objs.size Q I4 r1 (Heap.IsSliceOf.new ..) pl pu q3
  show wpAny (model X.prog X.w) X.A (subscriptTail e (.Slice lo hi none p2) v (.ref s3.heap.objs.size)) (EP X pins σ Q) X.xe { s3 with heap:=s3.heap.push { cls:=.type "slice",data:=.fields #[vl,vu,.none] } }
  exact tail_any (ops:=[.ref s3.heap.objs.size,v]) ht hT hg (by with_unfolding_all rfl)
noncomputable def cutV (xs:List V) (lo hi:Option Int):List V:=(xs.drop (HT.sIx xs.length 0 lo)).take (HT.sIx xs.length xs.length hi - HT.sIx xs.length 0 lo)
theorem cutV_length (xs:List V) (lo hi:Option Int):(cutV xs lo hi).length ≤ xs.length:=by
  unfold cutV
  rw [List.length_take,List.length_drop]
  omega
noncomputable def rSlT (K:PySem.W.Frag):V → Option Int → Option Int → Hp → VK → Prop:=fun x lo hi H Q => ∃ a xs,x = .ref a ∧ SqT K H a xs ∧
  ¬ (HT.sIx xs.length 0 lo = 0 ∧ HT.sIx xs.length xs.length hi = xs.length) ∧ ∀ p,H p = none → Q (.ref p) (upd H p (.tup (cutV xs lo hi)))
theorem sl_tup:SlR X (rSlT X.K):=by
  intro pins s σ H x v vl vu lo hi sl Q I rx hs pl pu h
  obtain ⟨a,xs,rfl,hx,hw,q⟩:=h
  cases rx
  obtain ⟨its,r,ht,hz⟩:=I.tuple hx
  have hlen:its.toArray.size = xs.length:=by rw [List.size_toArray]; exact r.length.symm
  refine ⟨"tuple",_,PyProof.Rows.slot_tuple_getitem.lookup,ht.typeIs,?_⟩
  refine HT.getItem_tuple_cut ht hs pl pu (by rw [hlen]; exact hw) ?_ (by rw [hlen]; exact hz)
  rw [hlen]
  refine ⟨.ref s.heap.objs.size,_,I.laid (t':=s.toks) (o:=.tup (cutV xs lo hi)) (fun b ob q => Heap.get?_push_of_some _ q) (Nat.le_refl _) ?_,rfl,q _ (I.hok.fresh (Nat.le_refl _))⟩
  exact ⟨Nat.le_trans (cutV_length xs lo hi) hz,_,(r.drop (HT.sIx xs.length 0 lo)).take (HT.sIx xs.length xs.length hi - HT.sIx xs.length 0 lo),IsTup.new _ _⟩
noncomputable def rCatT (K:PySem.W.Frag):R2:=fun x y H Q => ∃ a b xs ys,x = .ref a ∧ y = .ref b ∧ SqT K H a xs ∧ SqT K H b ys ∧ xs ≠ [] ∧ xs.length + ys.length ≤ sizeLine ∧
  (ys = [] → Q (.ref a) H) ∧ (ys ≠ [] → ∀ p,H p = none → Q (.ref p) (upd H p (.tup (xs ++ ys))))
theorem Vals.nil_iff {xs:List V} {us:List Value} (r:Vals xs us):us = [] ↔ xs = []:=by
  cases r with
  | nil => simp
  | cons _ _ => simp
theorem op_catT:OpR X (binaryOp .Add) (rCatT X.K):=by
  intro pins s σ H x y v u Q I rx ry h
  obtain ⟨a,b,xs,ys,rfl,rfl,ha,hb,hx,hz,q1,q2⟩:=h
  cases rx
  cases ry
  obtain ⟨its,r1,p1,_⟩:=I.tuple ha
  obtain ⟨its2,r2,p2,_⟩:=I.tuple hb
  refine HT.cat_tup p1 p2 (fun z => hx (r1.nil_iff.mp z)) (fun z => ⟨.ref a,H,I,rfl,q1 (r2.nil_iff.mp z)⟩) (fun z => ?_) (by rw [← r1.length,← r2.length]; exact hz)
  refine ⟨.ref s.heap.objs.size,_,I.laid (t':=s.toks) (o:=.tup (xs ++ ys)) (fun b ob q => Heap.get?_push_of_some _ q) (Nat.le_refl _) ?_,rfl,q2 (fun w => z (r2.nil_iff.mpr w)) _ (I.hok.fresh (Nat.le_refl _))⟩
  exact ⟨by rw [List.length_append]; exact hz,_,r1.append r2,IsTup.new _ _⟩
end
end L2
namespace L2
open PySem PySem.Spec PyProof.Rows
noncomputable def ixN (n:Nat) (i:Int):Option Nat:=if 0 ≤ i then (if i < n then some i.toNat else none) else if -(n:Int) ≤ i then some (i + n).toNat else none
noncomputable def atI {α:Type} (xs:List α) (i:Int):Option α:=(ixN xs.length i).bind fun j => xs[j]?
theorem ixN_seq {n:Nat} {i:Int} {j:Nat} (h:ixN n i = some j):seqIndex? i n = some j ∧ j < n ∧ -(n:Int) ≤ i ∧ i < n:=by
  unfold ixN at h
  by_cases h0:0 ≤ i
  · rw [if_pos h0] at h
    by_cases h1:i < n
    · rw [if_pos h1] at h
      have e:i.toNat = j:=Option.some.inj h
      exact ⟨by rw [seqIndex_of h0 h1,e],by omega,by omega,h1⟩
    · rw [if_neg h1] at h; cases h
  · rw [if_neg h0] at h
    by_cases h1:-(n:Int) ≤ i
    · rw [if_pos h1] at h
      have e:(i + n).toNat = j:=Option.some.inj h
      exact ⟨by rw [seqIndex_neg (by omega) h1,e],by omega,h1,by omega⟩
    · rw [if_neg h1] at h; cases h
theorem atI_get {α:Type} {xs:List α} {i:Int} {v:α} (h:atI xs i = some v):∃ j,seqIndex? i xs.length = some j ∧ xs[j]? = some v ∧ j < xs.length ∧ -(xs.length:Int) ≤ i ∧ i < xs.length:=by
  unfold atI at h
  cases e:ixN xs.length i with
  | none => rw [e] at h; cases h
  | some j =>
    rw [e] at h
    obtain ⟨h1,h2,h3,h4⟩:=ixN_seq e
    exact ⟨j,h1,h,h2,h3,h4⟩
theorem atI_nat {α:Type} {xs:List α} {j:Nat} {v:α} (h:xs[j]? = some v):atI xs (j:Int) = some v:=by
  have hj:j < xs.length:=(List.getElem?_eq_some_iff.mp h).1
  have e:ixN xs.length (j:Int) = some j:=by
    unfold ixN
    rw [if_pos (by omega),if_pos (by omega)]; simp
  unfold atI; rw [e]; exact h
theorem atI_last {α:Type} (xs:List α) (v:α):atI (xs ++ [v]) (-1) = some v:=by
  have hl:(xs ++ [v]).length = xs.length + 1:=by simp
  have e:ixN (xs ++ [v]).length (-1) = some xs.length:=by
    unfold ixN
    rw [hl,if_neg (by decide),if_pos (by omega)]
    congr 1
    omega
  unfold atI
  rw [e]
  show (xs ++ [v])[xs.length]? = some v
  simp
noncomputable def PlainIx (b:Expr):Prop:=∀ o i,subscripted b false o i = operate [o,i] (getItem o i)
noncomputable def IxR (X:Cx) (r:R2):Prop :=
  ∀ (value slice:Expr) (pins:List (Addr × Obj)) (s:Shared) (σ:St) (H:Hp) (x y:V) (v u:Value) (Q:VK),Inv X pins σ H s → RelV x v → RelV y u → r x y H Q →
    subscripted slice false v u = operate [v,u] (getItem v u) → wpAny (model X.prog X.w) X.A (subscriptTail value slice v u) (EP X pins σ Q) X.xe s
noncomputable def MtR (X:Cx) (id:String) (r:V → List V → Hp → VK → Prop):Prop :=
  ∀ (pins:List (Addr × Obj)) (s:Shared) (σ:St) (H:Hp) (x:V) (xs:List V) (v:Value) (us:List Value) (Q:VK),Inv X pins σ H s → RelV x v → Vals xs us → r x xs H Q →
    wpAny (model X.prog X.w) X.A (call (.builtin id) (v :: us)) (EP X pins σ Q) X.xe s
section
variable {X:Cx} {a b:Expr} {ta tb:TE} {pos:Pos}
theorem pe_ix {r:R2} (hr:IxR X r) (ha:PE X a ta) (hb:PE X b tb) (hs:PlainIx b):PE X (.Subscript a b pos) (tOp r ta tb):=by
  intro pins s σ H Q I h
  exact Subscript_ (binT ha hb I h fun v u s2 x y H2 I2 rx ry q => hr a b pins s2 σ H2 x y v u Q I2 rx ry q (hs _ _))
noncomputable def rIxL (K:PySem.W.Frag):R2:=fun x y H Q => ∃ p xs i v,x = .ref p ∧ y = .int i ∧ SqL K H p xs ∧ atI xs i = some v ∧ Q v H
noncomputable def rIxT (K:PySem.W.Frag):R2:=fun x y H Q => ∃ p xs i v,x = .ref p ∧ y = .int i ∧ SqT K H p xs ∧ atI xs i = some v ∧ Q v H
noncomputable def rIxS:R2:=fun x y H Q => ∃ z i c,x = .str z ∧ y = .int i ∧ z.length ≤ sizeLine ∧ atI z.cps.toList i = some c ∧ Q (.str ⟨#[c]⟩) H
theorem ix_list:IxR X (rIxL X.K):=by
  intro value slice pins s σ H x y v u Q I rx ry h hs
  obtain ⟨p,xs,i,z,rfl,rfl,hq,he,q⟩:=h
  cases rx
  obtain ⟨t,rfl⟩:=ry
  obtain ⟨its,r,pl,hz⟩:=I.list hq
  obtain ⟨j,h1,h2,h3,h4,h5⟩:=atI_get he
  obtain ⟨w,ew,rw'⟩:=r.get h2
  have hl:=r.length
  have hn:=line63
  have fin:EP X pins σ Q w s:=⟨z,H,I,rw',q⟩
  by_cases h0:0 ≤ i
  · have hj:i.toNat = j:=by
      rw [seqIndex_of h0 h5] at h1
      exact Option.some.inj h1
    exact item_listR pl.isList h0 (by omega) (by rw [hj]; simpa using ew) fin hs
  · have hj:(i + (its.toArray.size:Int)).toNat = j:=by
      rw [seqIndex_neg (by omega) h4] at h1
      rw [List.size_toArray,← hl]
      exact Option.some.inj h1
    exact subscriptTail_builtinR (x:=w) pl.isList.typeIs slot_list_getitem.lookup
      (wpAny_getItem_list_neg (Q:=fun r s' => r = w ∧ EP X pins σ Q r s') pl.isList (by omega) (by rw [List.size_toArray] <;> omega) (by omega) (by rw [hj]; simpa using ew) ⟨rfl,fin⟩) hs
theorem ix_tup:IxR X (rIxT X.K):=by
  intro value slice pins s σ H x y v u Q I rx ry h hs
  obtain ⟨p,xs,i,z,rfl,rfl,hq,he,q⟩:=h
  cases rx
  obtain ⟨t,rfl⟩:=ry
  obtain ⟨its,r,pl,hz⟩:=I.tuple hq
  obtain ⟨j,h1,h2,h3,h4,h5⟩:=atI_get he
  obtain ⟨w,ew,rw'⟩:=r.get h2
  have hl:=r.length
  have hn:=line63
  have fin:EP X pins σ Q w s:=⟨z,H,I,rw',q⟩
  exact subscriptTail_builtinR (x:=w) pl.typeIs slot_tuple_getitem.lookup
    (getItem_tuple (j:=j) (Q:=fun r s' => r = w ∧ EP X pins σ Q r s') pl (by omega) (by omega) (by rw [List.size_toArray,← hl]; exact h1) (by simpa using ew) ⟨rfl,fin⟩) hs
theorem ix_str:IxR X rIxS:=by
  intro value slice pins s σ H x y v u Q I rx ry h hs
  obtain ⟨z,i,c,rfl,rfl,hz,he,q⟩:=h
  obtain ⟨t,rfl⟩:=rx
  obtain ⟨t',rfl⟩:=ry
  obtain ⟨j,h1,h2,h3,h4,h5⟩:=atI_get he
  have hl:z.cps.toList.length = z.length:=by simp [Str.length]
  rw [hl] at h1 h4 h5
  have hn:=line63
  exact tail_any (typeIs_str s z t) slot_str_getitem.lookup (getItem_str (c:=c) (by
    have e1:decide (i < -(2 ^ 63:Int)) = false:=decide_eq_false (by omega)
    have e2:decide (i ≥ 2 ^ 63) = false:=decide_eq_false (by omega)
    rw [e1,e2,Bool.or_false]) (by rw [h1]; simpa using h2) ⟨.str ⟨#[c]⟩,H,I.tok _,⟨_,rfl⟩,q⟩) hs
theorem slice_bounds (lo hi:Option Int) (n:Nat):(sliceBounds lo hi none n).1 = ((HT.sIx n 0 lo:Nat):Int) ∧ (sliceBounds lo hi none n).2.1 = ((HT.sIx n n hi:Nat):Int) ∧ (sliceBounds lo hi none n).2.2 = 1:=by
  refine ⟨?_,?_,rfl⟩
  · cases lo with
    | none => simp [sliceBounds,HT.sIx]
    | some i =>
      simp only [sliceBounds,HT.sIx,Option.getD_none,show (1:Int) > 0 by decide,if_true]
      by_cases h:i < 0
      · simp only [h,if_true] <;> omega
      · simp only [h,if_false] <;> omega
  · cases hi with
    | none => simp [sliceBounds,HT.sIx]
    | some i =>
      simp only [sliceBounds,HT.sIx,Option.getD_none,show (1:Int) > 0 by decide,if_true]
      by_cases h:i < 0
      · simp only [h,if_true] <;> omega
      · simp only [h,if_false] <;> omega
theorem slicePick_cut (its:List Value) (lo hi:Option Int):slicePick its.toArray lo hi none = ((its.drop (HT.sIx its.length 0 lo)).take (HT.sIx its.length its.length hi - HT.sIx its.length 0 lo)).toArray:=by
  obtain ⟨h1,h2,h3⟩:=slice_bounds lo hi its.toArray.size
  unfold slicePick
  rw [h1,h2,h3]
  simp only [sliceRange_one,pick_run,List.size_toArray] <;> rfl
noncomputable def rSlL (K:PySem.W.Frag):V → Option Int → Option Int → Hp → VK → Prop:=fun x lo hi H Q => ∃ a xs,x = .ref a ∧ SqL K H a xs ∧ ∀ p,H p = none → Q (.ref p) (upd H p (.lst (cutV xs lo hi)))
theorem sl_list:SlR X (rSlL X.K):=by
  intro pins s σ H x v vl vu lo hi sl Q I rx hs pl pu h
  obtain ⟨a,xs,rfl,hx,q⟩:=h
  cases rx
  obtain ⟨its,r,ht,hz⟩:=I.list hx
  have hlen:=r.length
  refine ⟨"list",_,slot_list_getitem.lookup,ht.isList.typeIs,?_⟩
  refine wpAny_getItem_list_slice ht.isList hs pl pu .none (by simp) ?_ (by rw [List.size_toArray] <;> omega)
  rw [slicePick_cut,← hlen]
  refine ⟨.ref s.heap.objs.size,_,I.laid (t':=s.toks) (o:=.lst (cutV xs lo hi)) (fun b ob q => Heap.get?_push_of_some _ q) (Nat.le_refl _) ?_,rfl,q _ (I.hok.fresh (Nat.le_refl _))⟩
  exact ⟨Nat.le_trans (cutV_length xs lo hi) hz,_,0,(r.drop (HT.sIx xs.length 0 lo)).take (HT.sIx xs.length xs.length hi - HT.sIx xs.length 0 lo),Heap.get?_push_size _ rfl⟩
noncomputable def flatV:V → Bool
  | .non => true
  | .bl _ => true
  | .int _ => true
  | .str _ => true
  | _ => false
noncomputable def eqV:V → V → Bool
  | .non,.non => true
  | .bl a,.bl b => a == b
  | .bl a,.int b => (if a then 1 else 0) == b
  | .int a,.bl b => a == (if b then 1 else 0)
  | .int a,.int b => a == b
  | .str a,.str b => a == b
  | _,_ => false
theorem eqAt_V {A:Around} {s:Shared} {y x:V} {u v:Value} (ry:RelV y u) (rx:RelV x v) (fy:flatV y = true) (fx:flatV x = true):SeqAt.EqAt A s u v (eqV y x):=by
  cases y with
  | non =>
    cases ry
    cases x with
    | non => cases rx; exact SeqAt.EqAt.same _
    | bl b => cases rx; exact SeqAt.EqAt.none_bool b
    | int b => obtain ⟨t,rfl⟩:=rx; exact SeqAt.EqAt.none_int b t
    | str b => obtain ⟨t,rfl⟩:=rx; exact SeqAt.EqAt.none_str b t
    | _ => exact absurd (show false = true from fx) Bool.false_ne_true
  | bl a =>
    cases ry
    cases x with
    | non => cases rx; exact SeqAt.EqAt.bool_none a
    | bl b => cases rx; exact SeqAt.EqAt.bool_bool a b
    | int b => obtain ⟨t,rfl⟩:=rx; exact SeqAt.EqAt.bool_int a b t
    | str b => obtain ⟨t,rfl⟩:=rx; exact SeqAt.EqAt.bool_str a b t
    | _ => exact absurd (show false = true from fx) Bool.false_ne_true
  | int a =>
    obtain ⟨t',rfl⟩:=ry
    cases x with
    | non => cases rx; exact SeqAt.EqAt.int_none a t'
    | bl b => cases rx; exact SeqAt.EqAt.int_bool a t' b
    | int b => obtain ⟨t,rfl⟩:=rx; exact SeqAt.EqAt.int_int a t' b t
    | str b => obtain ⟨t,rfl⟩:=rx; exact SeqAt.EqAt.int_str a t' b t
    | _ => exact absurd (show false = true from fx) Bool.false_ne_true
  | str a =>
    obtain ⟨t',rfl⟩:=ry
    cases x with
    | non => cases rx; exact SeqAt.EqAt.str_none a t'
    | bl b => cases rx; exact SeqAt.EqAt.str_bool a t' b
    | int b => obtain ⟨t,rfl⟩:=rx; exact SeqAt.EqAt.str_int a t' b t
    | str b => obtain ⟨t,rfl⟩:=rx; exact SeqAt.EqAt.str_str a t' b t
    | _ => exact absurd (show false = true from fx) Bool.false_ne_true
  | _ => exact absurd (show false = true from fy) Bool.false_ne_true
noncomputable def eqU (x:V) (u:Value):Bool:=match u with
  | .none => eqV .non x
  | .bool b => eqV (.bl b) x
  | .int i _ => eqV (.int i) x
  | .str z _ => eqV (.str z) x
  | _ => false
theorem eqU_of {x y:V} {u:Value} (r:RelV y u) (f:flatV y = true):eqU x u = eqV y x:=by
  cases y with
  | non => cases r; rfl
  | bl b => cases r; rfl
  | int i => obtain ⟨t,rfl⟩:=r; rfl
  | str z => obtain ⟨t,rfl⟩:=r; rfl
  | _ => exact absurd (show false = true from f) Bool.false_ne_true
theorem any_eqU {x:V}:∀ {xs:List V} {us:List Value},Vals xs us → xs.all flatV = true → us.any (eqU x) = xs.any fun y => eqV y x
  | _,_,.nil,_ => rfl
  | y :: xs,u :: us,.cons r t,f => by
    rw [List.all_cons,Bool.and_eq_true] at f
    rw [List.any_cons,List.any_cons,eqU_of r f.1,any_eqU t f.2]
theorem mem_eqAt {A:Around} {s:Shared} {x:V} {v:Value} (rx:RelV x v) (fx:flatV x = true):∀ {xs:List V} {us:List Value},Vals xs us → xs.all flatV = true → ∀ u ∈ us,SeqAt.EqAt A s u v (eqU x u)
  | _,_,.nil,_ => fun u hu => by cases hu
  | y :: xs,u :: us,.cons r t,f => fun u' hu => by
    rw [List.all_cons,Bool.and_eq_true] at f
    rcases List.mem_cons.mp hu with rfl | hu
    · rw [eqU_of r f.1]; exact eqAt_V r rx f.1 fx
    · exact mem_eqAt rx fx t f.2 u' hu
noncomputable def inV (x:V) (xs:List V):Bool:=xs.any fun y => eqV y x
noncomputable def rIn (K:PySem.W.Frag) (neg:Bool):R2:=fun x y H Q => ∃ p xs,y = .ref p ∧ (SqL K H p xs ∨ SqT K H p xs) ∧ flatV x = true ∧ xs.all flatV = true ∧ Q (.bl (if neg then !inV x xs else inV x xs)) H
theorem op_in_seq:OpR X (compareOp .In) (rIn X.K false):=by
  intro pins s σ H x y v u Q I rx ry h
  obtain ⟨p,xs,rfl,hq,fx,fs,q⟩:=h
  cases ry
  rcases hq with hq | hq
  · obtain ⟨its,r,pl,hz⟩:=I.list hq
    refine SeqAt.in_listAt (eqU x) pl.isList (fun w hw => mem_eqAt rx fx r fs w (by simpa using hw)) ⟨.bl _,H,I,rfl,?_⟩
    rw [show its.toArray.any (eqU x) = its.any (eqU x) by simp,any_eqU r fs]
    exact q
  · obtain ⟨its,r,pl,hz⟩:=I.tuple hq
    refine SeqAt.in_tupleAt (eqU x) pl (fun w hw => mem_eqAt rx fx r fs w (by simpa using hw)) ⟨.bl _,H,I,rfl,?_⟩
    rw [show its.toArray.any (eqU x) = its.any (eqU x) by simp,any_eqU r fs]
    exact q
theorem op_notIn_seq:OpR X (compareOp .NotIn) (rIn X.K true):=by
  intro pins s σ H x y v u Q I rx ry h
  obtain ⟨p,xs,rfl,hq,fx,fs,q⟩:=h
  cases ry
  rcases hq with hq | hq
  · obtain ⟨its,r,pl,hz⟩:=I.list hq
    refine SeqAt.notIn_listAt (eqU x) pl.isList (fun w hw => mem_eqAt rx fx r fs w (by simpa using hw)) ⟨.bl _,H,I,rfl,?_⟩
    rw [show its.toArray.any (eqU x) = its.any (eqU x) by simp,any_eqU r fs]
    exact q
  · obtain ⟨its,r,pl,hz⟩:=I.tuple hq
    refine SeqAt.notIn_tupleAt (eqU x) pl (fun w hw => mem_eqAt rx fx r fs w (by simpa using hw)) ⟨.bl _,H,I,rfl,?_⟩
    rw [show its.toArray.any (eqU x) = its.any (eqU x) by simp,any_eqU r fs]
    exact q
theorem op_notIn_str:OpR X (compareOp .NotIn) (fun x y H Q => ∃ i j,x = .str i ∧ y = .str j ∧ Q (.bl (!(!(Builtin.Str.occurrences j i 0 j.length 1).isEmpty))) H):=by
  intro pins s σ H x y v u Q I rx ry h
  obtain ⟨i,j,rfl,rfl,q⟩:=h
  obtain ⟨t,rfl⟩:=rx
  obtain ⟨t',rfl⟩:=ry
  exact notIn_str ⟨.bl _,H,I,rfl,q⟩
theorem call_len_seq:CallR X (.builtin "len") (fun xs H Q => ∃ p ys,xs = [.ref p] ∧ (SqL X.K H p ys ∨ SqT X.K H p ys) ∧ Q (.int ys.length) H):=by
  intro pins s σ H xs us Q I r h
  obtain ⟨p,ys,rfl,hq,q⟩:=h
  obtain ⟨u,rfl,rx⟩:=vals1 r
  cases rx
  have hn:=line63
  rcases hq with hq | hq
  · obtain ⟨its,r',pl,hz⟩:=I.list hq
    have hlen:=r'.length
    exact Calls.call_len_list pl.isList (by simp only [List.size_toArray] <;> omega) ⟨.int ys.length,H,I.tok _,⟨s.toks + 1,by rw [List.size_toArray,hlen]⟩,q⟩
  · obtain ⟨its,r',pl,hz⟩:=I.tuple hq
    have hlen:=r'.length
    exact len_tuple pl (by simp only [List.size_toArray] <;> omega) ⟨.int ys.length,H,I.tok _,⟨s.toks + 1,by rw [List.size_toArray,hlen]⟩,q⟩
theorem call_len_str:CallR X (.builtin "len") (fun xs H Q => ∃ z,xs = [.str z] ∧ z.length ≤ sizeLine ∧ Q (.int z.length) H):=by
  intro pins s σ H xs us Q I r h
  obtain ⟨z,rfl,hz,q⟩:=h
  obtain ⟨u,rfl,t,rfl⟩:=vals1 r
  have hn:=line63
  exact len_str (by omega) ⟨.int z.length,H,I.tok _,⟨_,rfl⟩,q⟩
theorem call_list_of:CallR X (.type "list") (fun xs H Q => ∃ p ys,xs = [.ref p] ∧ (SqL X.K H p ys ∨ SqT X.K H p ys) ∧ ∀ l,H l = none → Q (.ref l) (upd H l (.lst ys))):=by
  intro pins s σ H xs us Q I r h
  obtain ⟨p,ys,rfl,hq,q⟩:=h
  obtain ⟨u,rfl,rx⟩:=vals1 r
  cases rx
  have fin:∀ (its:List Value),Vals ys its → ys.length ≤ sizeLine → ∀ (h':Heap) (c':Nat),(∀ b o',s.heap.get? b = some o' → h'.get? b = some o') →
      h'.get? s.heap.objs.size = some { cls:=.type "list",dict:=none,data:=.seq its.toArray c',slots:=#[] } → EP X pins σ Q (.ref s.heap.objs.size) { s with heap:=h' }:=fun its r' hz h' c' kp e =>
    ⟨.ref s.heap.objs.size,_,I.laid (t':=s.toks) kp (Nat.le_refl _) (show ObjOk X.prog X.w _ h' _ (.lst ys) from ⟨hz,its,c',r',e⟩),rfl,q _ (I.hok.fresh (Nat.le_refl _))⟩
  rcases hq with hq | hq
  · obtain ⟨its,r',pl,hz⟩:=I.list hq
    have hlen:=r'.length
    obtain ⟨o,ho,hc,n,hd⟩:=pl.isList
    exact call_list_seq p (.inl rfl) ho hc hd (fun h' c' kp e => fin its r' hz h' c' kp e) (by simp only [List.size_toArray] <;> omega)
  · obtain ⟨its,r',pl,hz⟩:=I.tuple hq
    have hlen:=r'.length
    obtain ⟨o,ho,hc,n,hd⟩:=pl
    exact call_list_seq p (.inr rfl) ho hc hd (fun h' c' kp e => fin its r' hz h' c' kp e) (by simp only [List.size_toArray] <;> omega)
theorem call_tuple_of:CallR X (.type "tuple") (fun xs H Q => ∃ p ys,xs = [.ref p] ∧ ((SqL X.K H p ys ∧ ∀ l,H l = none → Q (.ref l) (upd H l (.tup ys))) ∨ (SqT X.K H p ys ∧ Q (.ref p) H))):=by
  intro pins s σ H xs us Q I r h
  obtain ⟨p,ys,rfl,h⟩:=h
  obtain ⟨u,rfl,rx⟩:=vals1 r
  cases rx
  rcases h with ⟨hq,q⟩ | ⟨hq,q⟩
  · obtain ⟨its,r',pl,hz⟩:=I.list hq
    have hlen:=r'.length
    refine call_tuple_list pl.isList (fun h' kp => ?_) (by simp only [List.size_toArray] <;> omega)
    have I1:Inv X pins σ H { s with heap:=h' }:=I.kept (t':=s.toks) kp
    have I2:Inv X pins σ (upd H h'.objs.size (.tup ys)) { s with heap:=h'.push { cls:=.type "tuple",data:=.seq its.toArray } } :=
      I1.laid (t':=s.toks) (fun b o e => Heap.get?_push_of_some _ e) (Nat.le_refl _) (show ObjOk X.prog X.w _ _ _ (.tup ys) from ⟨hz,its,r',IsTup.new _ _⟩)
    exact ⟨.ref h'.objs.size,_,I2,rfl,q _ (I1.hok.fresh (Nat.le_refl _))⟩
  · obtain ⟨its,r',pl,hz⟩:=I.tuple hq
    exact call_tuple_same pl ⟨.ref p,H,I,rfl,q⟩
noncomputable def tyV (K:PySem.W.Frag) (T:String) (x:V) (H:Hp):Prop:=match x with
  | .str _ => T = "str"
  | .int _ => T = "int"
  | .ref p => (T = "list" ∧ ∃ xs,SqL K H p xs) ∨ (T = "tuple" ∧ ∃ o,K.lookup p = some o ∧ o.cls = .type "tuple" ∧ o.dict = none) ∨
      (T = "dict" ∧ ((∃ kvs,H p = some (.dK kvs)) ∨ ∃ kvs,H p = some (.dT kvs))) ∨ (T = "set" ∧ ∃ S n,H p = some (.set S n))
  | _ => False
theorem tyV_is {pins:List (Addr × Obj)} {σ:St} {H:Hp} {s:Shared} {T:String} {x:V} {v:Value} (I:Inv X pins σ H s) (r:RelV x v) (ty:tyV X.K T x H) :
    s.TypeIs v T ∧ ∀ a,v = .ref a → ∃ ob,s.heap.get? a = some ob ∧ ob.dict = none:=by
  cases x with
  | str z =>
    obtain ⟨t,rfl⟩:=r
    cases (show T = "str" from ty)
    exact ⟨typeIs_str s z t,fun _ e => nomatch e⟩
  | int i =>
    obtain ⟨t,rfl⟩:=r
    cases (show T = "int" from ty)
    exact ⟨typeIs_int s i t,fun _ e => nomatch e⟩
  | ref p =>
    cases r
    rcases ty with ⟨rfl,xs,hq⟩ | ⟨rfl,o,hk,hc,hd⟩ | ⟨rfl,hk⟩ | ⟨rfl,S,n,hk⟩
    · obtain ⟨its,_,pl,_⟩:=I.list hq
      refine ⟨pl.isList.typeIs,fun a e => ?_⟩
      cases e
      obtain ⟨o,n,e,c,hd,_⟩:=pl
      exact ⟨o,e,hd⟩
    · refine ⟨⟨o,I.kIn p o hk,hc⟩,fun a e => ?_⟩
      cases e
      exact ⟨o,I.kIn _ o hk,hd⟩
    · have z:∃ o,s.heap.get? p = some o ∧ o.ExactDict:=by
        rcases hk with ⟨kvs,hk⟩ | ⟨kvs,hk⟩
        · obtain ⟨_,_,_,_,o,_,_,e,ex,_⟩:=I.hok p _ hk
          exact ⟨o,e,ex⟩
        · obtain ⟨_,_,_,_,o,_,_,e,ex,_⟩:=I.hok p _ hk
          exact ⟨o,e,ex⟩
      obtain ⟨o,e,ex⟩:=z
      refine ⟨⟨o,e,ex.1⟩,fun a e2 => ?_⟩
      cases e2
      exact ⟨o,e,ex.2.1⟩
    · obtain ⟨o,_,_,_,e,ex,_⟩:=I.hok p _ hk
      refine ⟨⟨o,e,ex.1⟩,fun a e2 => ?_⟩
      cases e2
      exact ⟨o,e,ex.2.1⟩
  | _ => exact False.elim ty
noncomputable def tBM0 (K:PySem.W.Frag) (T:String) (r:V → List V → Hp → VK → Prop) (to:TE):TE:=fun σ H Q => to σ H fun x H1 => tyV K T x H1 ∧ r x [] H1 Q
noncomputable def tBM (K:PySem.W.Frag) (T:String) (r:V → List V → Hp → VK → Prop) (to:TE) (t:TA):TE:=fun σ H Q => to σ H fun x H1 => tyV K T x H1 ∧ t σ H1 fun xs H2 => r x xs H2 Q
variable {o e:Expr} {es:List Expr} {to:TE} {t:TA} {name:Str} {apos cpos:Pos} {T id:String} {r:V → List V → Hp → VK → Prop}
theorem pe_bm0 (pa:PlainAttrs T) (slot:Slot T name id) (hty:typeOf (.builtin id) = pure (.type "method_descriptor")) (hm:MtR X id r) (ho:PE X o to)
    (hbase:attributeBase o name X.env (eval o X.env) = eval o X.env:=by rfl) (hline:(apos.endLine == cpos.line) = true:=by rfl):PE X (.Call (.Attribute o name apos) [] [] cpos) (tBM0 X.K T r to):=by
  intro pins s σ H Q I h
  refine wpAny_Call_method0_late hbase hline (thn (ho pins s σ H _ I h) fun v s1 ⟨x,H1,I1,r1,ty,q1⟩ => ?_)
  obtain ⟨h1,h2⟩:=tyV_is I1 r1 ty
  exact ⟨T,id,pa,slot,hty,h1,h2,Calls.callWith_builtin rfl (PySem.evalArgs_none (hm pins s1 σ H1 x [] v [] Q I1 r1 .nil q1))⟩
theorem pe_bm (pa:PlainAttrs T) (slot:Slot T name id) (hty:typeOf (.builtin id) = pure (.type "method_descriptor")) (hm:MtR X id r) (ho:PE X o to) (ha:PA X (e :: es) t)
    (hbase:attributeBase o name X.env (eval o X.env) = eval o X.env:=by rfl)
    (hfew:((backTo cpos (starEach (e :: es) X.env)).all (fun x => !x.1) && (backToKw cpos (keywordEach [] X.env)).all (fun x => x.1.isSome)
      && decide ((e :: es).length + ([]:List Keyword).length + (if ([]:List Keyword).isEmpty then 0 else 1) < 30)) = true:=by rfl)
    (hline:(apos.endLine == cpos.line) = true:=by rfl) (hs:starEach (e :: es) X.env = (false,eval e X.env) :: starEach es X.env:=by rfl) (hplain:(backTo cpos (starEach es X.env)).any (·.1) = false:=by rfl) :
    PE X (.Call (.Attribute o name apos) (e :: es) [] cpos) (tBM X.K T r to t):=by
  intro pins s σ H Q I h
  refine wpAny_Call_method_late hbase hfew hline rfl (thn (ho pins s σ H _ I h) fun v s1 ⟨x,H1,I1,r1,ty,q1⟩ => ?_)
  obtain ⟨h1,h2⟩:=tyV_is I1 r1 ty
  refine ⟨T,id,pa,slot,hty,h1,h2,?_⟩
  have hA:=ha cpos pins s1 σ H1 _ I1 q1
  rw [hs] at hA ⊢
  refine Calls.callWith_builtin (by show (false || (backTo cpos (starEach es X.env)).any (·.1)) = false; rw [hplain] <;> rfl) (Calls.evalArgs_plain ?_)
  exact thn hA fun us s2 ⟨vs,H2,I2,r2,q2⟩ => hm pins s2 σ H2 x vs v us Q I2 r1 r2 q2
/- xs.append(e),list.index on a module's tuple .. are MtR facts of 06m -/
end
end L2
namespace L2
open PySem PySem.Spec PyProof.Rows
noncomputable def MtM (X:Cx) (id:String) (r:V → List V → Hp → VK → Prop):Prop :=
  ∀ (pins:List (Addr × Obj)) (s:Shared) (σ:St) (H:Hp) (x:V) (xs:List V) (v:Value) (us:List Value) (Q:VK),Inv X pins σ H s → RelV x v → Vals xs us → r x xs H Q →
    wpAny (model X.prog X.w) X.A (call (.builtin id) (v :: us)) (EP X pins σ Q) X.xe s
theorem Vals.one:∀ {x:V} {us:List Value},Vals [x] us → ∃ u,us = [u] ∧ RelV x u
  | _,_,.cons r .nil => ⟨_,rfl,r⟩
theorem Vals.two:∀ {x y:V} {us:List Value},Vals [x,y] us → ∃ u v,us = [u,v] ∧ RelV x u ∧ RelV y v
  | _,_,_,.cons r (.cons q .nil) => ⟨_,_,rfl,r,q⟩
theorem Vals.zero:∀ {us:List Value},Vals [] us → us = []
  | _,.nil => rfl
theorem Vals.dropLast {xs:List V} {us:List Value} (h:Vals xs us):Vals xs.dropLast us.dropLast:=by
  induction h with
  | nil => exact .nil
  | cons r t ih =>
    cases t with
    | nil => exact .nil
    | cons q t' => exact .cons r ih
theorem erase_last {α:Type} (l:List α):l.eraseIdx (l.length - 1) = l.dropLast:=by
  induction l with
  | nil => rfl
  | cons a r ih =>
    cases r with
    | nil => rfl
    | cons b r =>
      have e:(a :: b :: r).length - 1 = ((b :: r).length - 1) + 1:=by
        have h1:(a :: b :: r).length = r.length + 2:=rfl
        have h2:(b :: r).length = r.length + 1:=rfl
        omega
      rw [e,List.eraseIdx_cons_succ,ih]
      all_goals rfl
section
variable {X:Cx} {pins:List (Addr × Obj)} {σ:St} {H:Hp} {s:Shared} {l b:Addr} {xs ys zs:List V}
theorem Inv.lset {its its':List Value} {n:Nat} {f:Array Value → Array Value} {t':Nat} (I:Inv X pins σ H s) (hH:H l = some (.lst xs))
    (e:s.heap.get? l = some { cls:=.type "list",data:=.seq its.toArray n }) (hf:f its.toArray = its'.toArray) (hv:Vals ys its') (hz:ys.length ≤ sizeLine) :
    Inv X pins σ (upd H l (.lst ys)) { s with heap:=s.heap.update l (Obj.mapSeq f),toks:=t' }:=by
  have q:=PySem.IsL.update e f
  rw [hf] at q
  refine I.write (x:=l) (e:=l) (by rw [hH]; exact trivial) (.inl rfl) (fun b' u hb hu => (Heap.get?_update_other s.heap (Obj.mapSeq f) (Ne.symm hb)).trans hu) ⟨_,q⟩ ?_
  exact ⟨hz,its',_,hv,q⟩
theorem Inv.lnew {its:List Value} {t':Nat} (I:Inv X pins σ H s) (hv:Vals ys its) (hz:ys.length ≤ sizeLine) :
    Inv X pins σ (upd H s.heap.objs.size (.lst ys)) { s with heap:=s.heap.push { cls:=.type "list",data:=.seq its.toArray },toks:=t' } :=
  I.laid (fun _ _ q => Heap.get?_push_of_some _ q) (Nat.le_refl _) ⟨hz,its,0,hv,Heap.get?_push_size _ rfl⟩
theorem Inv.fresh (I:Inv X pins σ H s):H s.heap.objs.size = none:=I.hok.fresh (Nat.le_refl _)
theorem Inv.lstM (I:Inv X pins σ H s) (hH:H l = some (.lst xs)):xs.length ≤ sizeLine ∧ ∃ (its:List Value) (n:Nat),Vals xs its ∧ xs.length = its.length ∧ s.heap.get? l = some { cls:=.type "list",data:=.seq its.toArray n }:=by
  obtain ⟨z,its,n,r,e⟩:=I.hok l _ hH
  exact ⟨z,its,n,r,r.length,e⟩
theorem notLongL {n:Nat} (h:n ≤ sizeLine):Builtin.List.listTooLong n = false:=by
  unfold Builtin.List.listTooLong
  exact decide_eq_false (by omega)
end
section
variable {X:Cx}
noncomputable def rAppend:V → List V → Hp → VK → Prop:=fun x vs H Q => ∃ l xs y,x = .ref l ∧ vs = [y] ∧ H l = some (.lst xs) ∧ xs.length < sizeLine ∧ Q .non (upd H l (.lst (xs ++ [y])))
theorem mt_append:MtM X "list.append" rAppend:=by
  intro pins s σ H x vs v us Q I rx rv h
  obtain ⟨l,xs,y,rfl,rfl,hH,hz,q⟩:=h
  cases rx
  obtain ⟨u,rfl,ru⟩:=rv.one
  obtain ⟨z,its,n,r,hl,e⟩:=I.lstM hH
  refine call_meets F.slot_list_append ⟨_,e,rfl⟩ F.entry_list_append (F.args_list_append_2 _ _) (PySem.list_append l its.toArray n u (by rw [List.size_toArray]; omega)) ⟨e,?_⟩
  refine ⟨.non,_,I.lset (its':=its ++ [u]) hH e (by simp) (r.append (.cons ru .nil)) ?_,rfl,q⟩
  rw [List.length_append,List.length_singleton]
  omega
noncomputable def rExtend:V → List V → Hp → VK → Prop:=fun x vs H Q => ∃ l b xs zs,x = .ref l ∧ vs = [.ref b] ∧ H l = some (.lst xs) ∧ H b = some (.lst zs) ∧ xs.length + zs.length ≤ sizeLine ∧ Q .non (upd H l (.lst (xs ++ zs)))
theorem mt_extend:MtM X "list.extend" rExtend:=by
  intro pins s σ H x vs v us Q I rx rv h
  obtain ⟨l,b,xs,zs,rfl,rfl,hH,hB,hz,q⟩:=h
  cases rx
  obtain ⟨u,rfl,ru⟩:=rv.one
  cases ru
  obtain ⟨z,its,n,r,hl,e⟩:=I.lstM hH
  obtain ⟨z2,its2,n2,r2,hl2,e2⟩:=I.lstM hB
  have hsz:its.toArray.size + its2.toArray.size ≤ sizeLine:=by rw [List.size_toArray,List.size_toArray]; omega
  have hlong:¬ (!its.toArray.isEmpty && Builtin.List.listTooLong (its.toArray.size + its2.toArray.size)) = true:=by
    rw [notLongL hsz,Bool.and_false]
    exact Bool.false_ne_true
  refine call_meets F.slot_list_extend ⟨_,e,rfl⟩ F.entry_list_extend (F.args_list_extend_2 _ _)
    (AutoSeq1.list_extend_list_list_0 l its.toArray n b its2.toArray n2 hlong (by rw [List.size_toArray]; omega) (by omega)) ⟨e,e2,?_⟩
  refine ⟨.non,_,I.lset (its':=its ++ its2) hH e (by simp) (r.append r2) ?_,rfl,q⟩
  rw [List.length_append]
  omega
noncomputable def rPop:V → List V → Hp → VK → Prop:=fun x vs H Q => ∃ l xs y,x = .ref l ∧ vs = [] ∧ H l = some (.lst xs) ∧ xs[xs.length - 1]? = some y ∧ Q y (upd H l (.lst xs.dropLast))
theorem mt_pop:MtM X "list.pop" rPop:=by
  intro pins s σ H x vs v us Q I rx rv h
  obtain ⟨l,xs,y,rfl,rfl,hH,hy,q⟩:=h
  cases rx
  have hus:=rv.zero
  subst hus
  obtain ⟨z,its,n,r,hl,e⟩:=I.lstM hH
  obtain ⟨u,hu,ru⟩:=r.get hy
  have hy':its.toArray[its.toArray.size - 1]? = some u:=by
    show its.toArray[its.length - 1]? = some u
    rw [← Array.getElem?_toList,← hl]
    exact hu
  refine call_meets F.slot_list_pop ⟨_,e,rfl⟩ F.entry_list_pop (F.args_list_pop_1 _) (MeetsSeq.list_pop_last l its.toArray n u hy' (by rw [List.size_toArray]; omega)) ⟨e,?_⟩
  refine ⟨y,_,I.lset (its':=its.dropLast) hH e ?_ r.dropLast ?_,ru,q⟩
  · show its.toArray.eraseIdxIfInBounds (its.toArray.size - 1) = its.dropLast.toArray
    rw [List.size_toArray,List.eraseIdxIfInBounds_toArray,erase_last]
  · rw [List.length_dropLast]
    omega
noncomputable def rCat:R2:=fun x y H Q => ∃ l b xs zs,x = .ref l ∧ y = .ref b ∧ H l = some (.lst xs) ∧ H b = some (.lst zs) ∧ xs.length + zs.length ≤ sizeLine ∧ ∀ p,H p = none → Q (.ref p) (upd H p (.lst (xs ++ zs)))
theorem op_cat:OpR X (binaryOp .Add) rCat:=by
  intro pins s σ H x y v u Q I rx ry h
  obtain ⟨l,b,xs,zs,rfl,rfl,hH,hB,hz,q⟩:=h
  cases rx
  cases ry
  obtain ⟨z,its,n,r,hl,e⟩:=I.lstM hH
  obtain ⟨z2,its2,n2,r2,hl2,e2⟩:=I.lstM hB
  refine PySem.P.add_list e e2 ?_ (by rw [List.size_toArray,List.size_toArray]; omega)
  have ea:its.toArray ++ its2.toArray = (its ++ its2).toArray:=by simp
  rw [ea]
  exact ⟨.ref _,_,I.lnew (t':=s.toks) (r.append r2) (by rw [List.length_append]; omega),rfl,q _ I.fresh⟩
end
section
variable {prog:Program} {w:World} {A:Around} {E:Value → Shared → Prop} {s:Shared}
end
section
variable {X:Cx}
end
end L2
namespace L2
open PySem PySem.Spec PyProof.Rows
section
variable {κ:Type} [DecidableEq κ]
noncomputable def valV (kvs:List (κ × V)) (k:κ):Option V:=(kvs.find? fun kv => decide (kv.1 = k)).map (·.2)
theorem valV_pos {p:κ × V} {r:List (κ × V)} {k:κ} (e:p.1 = k):valV (p :: r) k = some p.2:=by simp [valV,List.find?_cons,e]
theorem valV_neg {p:κ × V} {r:List (κ × V)} {k:κ} (e:¬ p.1 = k):valV (p :: r) k = valV r k:=by simp [valV,List.find?_cons,e]
theorem RelO.isSome_eq {o:Option V} {u:Option Value} (r:RelO o u):o.isSome = u.isSome:=by
  cases o with
  | none => cases u with
    | none => rfl
    | some _ => exact (show False from r).elim
  | some _ => cases u with
    | none => exact (show False from r).elim
    | some _ => rfl
theorem KV.val {kvs:List (κ × V)} {vs:List (κ × Value)} (r:KV kvs vs) (k:κ):RelO (valV kvs k) (valueAt vs k):=by
  unfold KV at r
  induction r with
  | nil => exact True.intro
  | @cons p q ps qs h t ih =>
    obtain ⟨h1,h2⟩:=h
    by_cases e:p.1 = k
    · have e':q.1 = k:=h1.symm.trans e
      have b:valueAt (q :: qs) k = some q.2:=by simp [valueAt,List.find?_cons,e']
      rw [valV_pos e,b]; exact h2
    · have e':¬ q.1 = k:=fun z => e (h1.trans z)
      have b:valueAt (q :: qs) k = valueAt qs k:=by simp [valueAt,List.find?_cons,e']
      rw [valV_neg e,b]; exact ih
end
theorem kV_is {P:Program} {w:World} {k:Key} {u:Value} (r:RelV (kV k) u):(mixKind P w).is k u = true:=by
  cases k with
  | inl i => obtain ⟨t,e⟩:=(show ∃ t,u = Value.int i t from r); subst e; exact mixKind_int P w i t
  | inr x => obtain ⟨t,e⟩:=(show ∃ t,u = Value.str x t from r); subst e; exact mixKind_str P w x t
section
variable {P:Program} {w:World} {H:Hp} {h:Heap} {a:Addr}
end
section
variable {X:Cx} {pins:List (Addr × Obj)} {σ:St} {H:Hp} {s:Shared} {a:Addr} {y v:V} {u r:Value} {o:Option V} {A:Around} {E:Value → Shared → Prop}
end
section
variable {X:Cx} {pins:List (Addr × Obj)} {σ:St} {H:Hp} {s:Shared} {a:Addr} {kvs:List (Key × V)} {k:Key} {u:Value} {A:Around} {E:Value → Shared → Prop}
end
noncomputable def NoSl (i:Expr):Prop:=∀ ov iv,subscripted i false ov iv = operate [ov,iv] (getItem ov iv)
theorem subD_of {prog:Program} {w:World} {A:Around} {E:Value → Shared → Prop} {s:Shared} {env:Env} {value slice:Expr} {pos:Pos} {T id:String} {Q:Value → Shared → Prop}
    (hl:typeLookup (.type T) "__getitem__" = pure (some (.builtin id))) (hs:NoSl slice)
    (h:wpAny (model prog w) A (eval value env) (fun o s₁ => wpAny (model prog w) A (eval slice env) (fun i s₂ => s₂.TypeIs o T ∧ wpAny (model prog w) A (getItem o i) Q E s₂) E s₁) E s) :
    wpAny (model prog w) A (eval (.Subscript value slice pos) env) Q E s:=by
  refine Subscript_ (wpAny_mono h (fun o s₁ h₁ => wpAny_mono h₁ (fun i s₂ h₂ => ?_) fun _ _ x => x) fun _ _ x => x)
  obtain ⟨hT,h₂⟩:=h₂
  unfold subscriptTail
  refine wpAny_bind ?_
  rw [getitemInPython_of_ne hT.not_modules]
  refine wpAny_bind (wpAny_specialOf hT hl ?_)
  have fin:wpAny (model prog w) A (subscripted slice false o i) (fun r s₃ => wpAny (model prog w) A (letTemporaryGo value o r >>= fun _ => pure r) Q E s₃) E s₂:=by
    rw [hs o i]
    exact wpAny_operating (wpAny_mono h₂ (fun r s₃ h₃ => wpAny_bind (wpAny_letTemporaryGo (wpAny_pure h₃))) fun _ _ x => x)
  first
    | exact wpAny_pure (wpAny_bind fin)
    | exact wpAny_bind (wpAny_pure (wpAny_bind fin))
    | exact wpAny_bind fin
section
variable {X:Cx} {o i e value:Expr} {pos pos' tpos:Pos} {td ty tv:TE}
end
section
variable {X:Cx} {pos:Pos}
end
structure M1 (X:Cx) (o:Expr) (m:Str) (apos:Pos) (e:Expr) (cpos:Pos):Prop where
  base:attributeBase o m X.env (eval o X.env) = eval o X.env
  few:((backTo cpos (starEach [e] X.env)).all (fun x => !x.1) && (backToKw cpos (keywordEach [] X.env)).all (fun x => x.1.isSome)
    && decide (([e]:List Expr).length + ([]:List Keyword).length + (if ([]:List Keyword).isEmpty then 0 else 1) < 30)) = true
  line:(apos.endLine == cpos.line) = true
  trees:backTo cpos (starEach [e] X.env) = [(false,eval e X.env)]
structure M2 (X:Cx) (o:Expr) (m:Str) (apos:Pos) (e f:Expr) (cpos:Pos):Prop where
  base:attributeBase o m X.env (eval o X.env) = eval o X.env
  few:((backTo cpos (starEach [e,f] X.env)).all (fun x => !x.1) && (backToKw cpos (keywordEach [] X.env)).all (fun x => x.1.isSome)
    && decide (([e,f]:List Expr).length + ([]:List Keyword).length + (if ([]:List Keyword).isEmpty then 0 else 1) < 30)) = true
  line:(apos.endLine == cpos.line) = true
  trees:backTo cpos (starEach [e,f] X.env) = [(false,eval e X.env),(false,eval f X.env)]
section
variable {X:Cx} {pins:List (Addr × Obj)} {σ:St} {H:Hp} {s:Shared} {a:Addr} {y d:V} {u r:Value} {o:Option V} {A:Around} {E:Value → Shared → Prop}
end
section
variable {X:Cx} {o e f:Expr} {apos cpos:Pos} {td ty tx:TE}
end
section
variable {X:Cx} {pins:List (Addr × Obj)} {σ:St} {H:Hp} {s:Shared} {a:Addr} {kvs:List (Key × V)} {A:Around} {E:Value → Shared → Prop}
end
section
variable {X:Cx} {pins:List (Addr × Obj)} {σ:St} {H:Hp} {s:Shared} {a:Addr} {y:V} {u:Value} {A:Around} {E:Value → Shared → Prop}
end
end L2
namespace Att
open PySem PySem.W PySem.Calls PyProof.Rows
theorem ints_of_wellAll {P:Params} {h:Heap}:∀ (ns:List Int) (vs:List Value),WellAll P h vs (ns.map WData.int) → IntsAre vs ns:=by
  intro ns
  induction ns with
  | nil =>
    intro vs w
    rw [List.map_nil] at w
    cases w
    exact .nil
  | cons n ns ih =>
    intro vs w
    rw [List.map_cons] at w
    cases w with
    | cons a b =>
      cases a
      exact .cons _ _ (ih _ b)
theorem script_of {l:OpenLaw} {n:Nat} (hn:l.most = some n) {P:Params} {h:Heap} {args:List WData} {vals:List Value}
    (hpre:l.row.toRowW.claim.pre args = true) (hwl:WellAll P h vals args) :
    ∃ a vs ns,vals = [Value.ref a] ∧ args = [WData.list (ns.map WData.int)] ∧ h.get? a = some { cls:=.type "list",data:=.seq vs.toArray } ∧ IntsAre vs ns ∧ ns.length ≤ n:=by
  have hsh:WShape.hasAll [] args [.list .int] = true:=(pre_splitW hpre).1
  have hc:l.pre.holds [] { args:=args } = true:=(pre_splitW hpre).2
  obtain ⟨d,r,rfl,h1,h2⟩:=hasAllW_cons hsh
  obtain rfl:=hasAllW_nil h2
  obtain ⟨xs,rfl,h3⟩:=hasW_list h1
  obtain ⟨ns,rfl⟩:=items_int h3
  have hlen:ns.length ≤ n:=by
    unfold OpenLaw.pre at hc
    have h4:(WTm.not (.lt (.lit (.int (n:Int))) (.len (.arg 0)))).holds [] { args:=[.list (ns.map .int)] } = true:=by
      have h4:=(holds_andW hc).1
      rw [hn] at h4
      exact h4
    have h5:=condW_of h4 (w_not (w_lt w_lit (w_len_list (w_arg rfl))))
    rw [List.length_map] at h5
    refine Nat.le_of_not_lt fun q => ?_
    have q':(n:Int) < ((ns.length:Nat):Int):=by omega
    first
      | (rw [decide_eq_true q'] at h5; exact absurd h5 (by decide))
      | (simp at h5; omega)
  cases hwl with
  | cons w1 w2 =>
    cases w2
    cases w1 with
    | list ho hall => exact ⟨_,_,ns,rfl,rfl,ho,ints_of_wellAll ns _ hall,hlen⟩
theorem post_true (l:OpenLaw) (args:List WData):l.row.toRowW.claim.post args (.bool true) args = true :=
  postW_of (r:=l.row.toRowW) (X:=(true == true))
    (show WShape.has [] (.bool true) .bool = true by first | rfl | decide | simp [WShape.has,WShape.arms,WShape.armsAll])
    (show (WTm.eq .res (.lit (.bool true))).value [] { args:=args,res:=some (.bool true),after:=args } = some (.bool (true == true)) from w_eq_bool (w_res rfl) w_lit) rfl
theorem attach_call {l:OpenLaw} {n:Nat} {q:Program} {loose:List Str} {XP:(Str → Option Value) → Heap → Prop} {YP:World → Heap → Prop} {d:DefRec}
    (hn:l.most = some n) (hdf:d.params.defaults = [])
    (call:∀ (w:World) (s₀ s₁:Shared) (mg mb:Str → Option Value) (fa:Addr) (o:Obj) (pm cd doc:Value) (a:Addr) (vs:List Value) (ns:List Int),
      Ground q loose [] XP w s₀ mg mb s₁.heap → YP w s₁.heap →
      s₁.heap.get? fa = some o → o.data = .func (docDef d.name d.params d.body d.scope pm cd doc) → s₁.heap.CodeRec cd d.name → mg d.name = some (.ref fa) →
      s₁.heap.get? a = some { cls:=.type "list",data:=.seq vs.toArray } → IntsAre vs ns → ns.length ≤ n → s₁.gens = #[] →
      codeAny (model l.prog w) callerA (.call (.ref fa) ⟨[.ref a],[]⟩) (fun r s' => r = .ok (.ret (.bool true)) ∧ OldK s₁.heap s'.heap ∧ s'.os = s₁.os ∧ AllBare s'.gens) s₁) :
    WalkO q loose XP YP l.row.toRowW d [] (fun f vs => PySem.call f vs):=by
  intro w s₀ s₁ mg mb G Y fa o pm cd doc dV kV ho hd hcd hD hmg hg args vals as hpre hlay hrd hwl hlo
  obtain rfl:dV = .none:=Dflts.none hD hdf
  obtain rfl:kV = .none:=Dflts.noKw hD
  obtain ⟨a,vs,ns,rfl,rfl,hobj,hints,hlen⟩:=script_of hn hpre hwl
  refine enter_call (codeAny_mono (call w s₀ s₁ mg mb fa o pm cd doc a vs ns G Y ho (fd_plain hd) hcd hmg hobj hints hlen hg) fun r s' hq => ?_)
  obtain ⟨rfl,h2,h3,h4⟩:=hq
  exact ⟨.inl ⟨.bool true,.bool true,[],rfl,fun _ => rfl,.bool true,post_true l _,fun _ => ⟨List.Pairwise.nil,fun _ hm => (nomatch hm)⟩⟩,h2,h3,h4⟩
section
variable {prog:Program} {w:World} {A:Around} {E:Value → Shared → Prop} {s:Shared} {K:Frag}
noncomputable def ledger (h:Heap) (L d:Addr):List (Addr × Obj):=(List.range h.objs.size).filterMap fun a => if a = L ∨ a = d then none else (h.get? a).map fun o => (a,o)
end
end Att
namespace L2
open PySem PySem.Spec PyProof.Rows
theorem vals_ints:∀ {vs:List Value} {ns:List Int},IntsAre vs ns → Vals (ns.map V.int) vs
  | _,_,.nil => .nil
  | _,_,.cons n t h => .cons ⟨t,rfl⟩ (vals_ints h)
noncomputable def Only (H:Hp):Prop:=∀ b,H b = none ∨ ∃ o xs,H b = some (.frz o (.lst xs))
theorem law_call {P:Program} {w:World} {K:PySem.W.Frag} {mg mb:Str → Option Value} {CX:CXT} {k:Nat} {fa a:Addr} {fd:FuncData} {x:Str} {sp:Sp} {s₁:Shared} {vs:List Value} {ns:List Int}
    (KX:K.In s₁.heap) (hns:s₁.heap.Ns mainGlobals mg) (hb:s₁.heap.Ns builtinsNs mb) (hbb:∀ x:Str,x ≠ "__name__" → mb x = bootBuiltins x) (hlim:s₁.heap.NoLimit) (hg:s₁.gens = #[])
    (ha:s₁.heap.get? a = some { cls:=.type "list",data:=.seq vs.toArray }) (hi:IntsAre vs ns) (hl:ns.length ≤ sizeLine) (hr:Room k callerA)
    (F:∀ base:Heap,K.In base → base.Ns mainGlobals mg → FnOk P w K mg base CX k fa fd [x] sp) (hbind:∀ (s:Shared) (u:Value),BindsTo s fd ⟨[u],[]⟩ [(x,u)])
    (hsp:∀ H:Hp,Only H → SqL K H a (ns.map V.int) → sp [.ref a] H (fun v _ => v = .bl true) fun _ _ _ => False)
    (hCX:∀ H e s',CX [] H s₁ (fun _ _ _ => False) e s' → False) :
    codeAny (model P w) callerA (.call (.ref fa) ⟨[.ref a],[]⟩) (fun r s' => r = .ok (.ret (.bool true)) ∧ OldK s₁.heap s'.heap ∧ s'.os = s₁.os ∧ AllBare s'.gens) s₁:=by
  have rv:=vals_ints hi
  have lenV:=hi.length
  have core:∀ H:Hp,Only H → SqL K H a (ns.map V.int) → HOk P w H s₁.heap → (∀ b,H b ≠ none → b = a) → (H a ≠ none → K.lookup a = none) →
      codeAny (model P w) callerA (.call (.ref fa) ⟨[.ref a],[]⟩) (fun r s' => r = .ok (.ret (.bool true)) ∧ OldK s₁.heap s'.heap ∧ s'.os = s₁.os ∧ AllBare s'.gens) s₁:=by
    intro H hO hS hok hA hK
    have base_of:∀ {b:Addr} {o:Obj},s₁.heap.get? b = some o → H b = none → (hidT s₁.heap H).get? b = some o:=fun e n => hidT_get e n
    have noA:∀ {b:Addr} {o:Obj} {es:Array DictEntry} {ep:Nat},s₁.heap.get? b = some o → o.data = .dict es ep → H b = none:=fun {b o es ep} e d => by
      cases q:H b with
      | none => rfl
      | some u =>
        have e':b = a:=hA b (by rw [q]; simp)
        subst e'
        rw [ha] at e; cases e
        have d':Data.seq vs.toArray _ = Data.dict es ep:=d
        cases d'
    have nsK:∀ {b:Addr} {m:Str → Option Value},s₁.heap.Ns b m → (hidT s₁.heap H).Ns b m:=fun {b m} ⟨o,es,ep,e,d,r⟩ => ⟨o,es,ep,base_of e (noA e d),d,r⟩
    have hKb:K.In (hidT s₁.heap H):=fun b o e => base_of (KX b o e) (by
      cases q:H b with
      | none => rfl
      | some u =>
        have e':b = a:=hA b (by rw [q]; simp)
        subst e'
        rw [hK (by rw [q]; simp)] at e; cases e)
    have hM:Mod K mg (hidT s₁.heap H):=⟨hKb,nsK hns,⟨mb,nsK hb,hbb⟩,let ⟨mc,h1,h2⟩:=hlim; ⟨mc,nsK h1,h2⟩⟩
    have e0:Env0 P w K mg (hidT s₁.heap H) callerA [] s₁ H:=⟨rfl,hM,fun b o e => of_hidT e,Nat.le_of_eq (hidT_size _ _),trivial,fun b hb => absurd (show b ∈ ([]:List Addr) from hb) (by simp),hok,.of_eq hg⟩
    refine codeAny_mono ((F _ hKb (nsK hns)).run callerA [] s₁ H ⟨[.ref a],[]⟩ [.ref a] [.ref a] _ _ hr e0 (hbind s₁ (.ref a)) (.cons rfl .nil) (hsp H hO hS)) fun r s' h => ?_
    cases r with
    | error e => exact (hCX H e s' h).elim
    | ok fl =>
      cases fl with
      | next => exact False.elim h
      | brk => exact False.elim h
      | cont => exact False.elim h
      | ret u =>
        obtain ⟨v,H',os,bare,un,hok',r',q⟩:=h
        have q':v = .bl true:=q
        subst q'
        obtain rfl:u = Value.bool true:=r'
        refine ⟨rfl,OldK.of_keep fun b o e => ?_,os,bare⟩
        cases q:H b with
        | none => exact un.keep b o e q (by intro z; exact absurd (show b ∈ ([]:List Addr) from z) (by simp)) (by simp)
        | some u =>
          rcases hO b with z | ⟨ob,xs,z⟩
          · rw [q] at z; cases z
          · have z2:=un.frzs b ob _ z
            obtain ⟨e1,_⟩:=hok b _ z
            obtain ⟨e2,_⟩:=hok' b _ z2
            rw [e] at e1; cases e1
            exact e2
  cases hk:K.lookup a with
  | some o =>
    have e:=KX a o hk
    rw [ha] at e
    cases e
    refine core (fun _ => none) (fun _ => .inl rfl) (.inr ⟨_,vs.toArray,_,hk,rfl,rfl,rfl,by rw [List.size_toArray,lenV]; exact hl,by simpa using rv⟩) (fun b u z => by have z':(none:Option HO) = some u:=z; cases z') (fun b z => absurd rfl z) fun z => absurd rfl z
  | none =>
    refine core (fun b => if b = a then some (.frz { cls:=.type "list",data:=.seq vs.toArray } (.lst (ns.map V.int))) else none) (fun b => ?_) (.inl (.inr ⟨{ cls:=.type "list",data:=.seq vs.toArray },if_pos rfl⟩)) (fun b u z => ?_) (fun b z => ?_) fun _ => hk
    · by_cases hb:b = a
      · exact .inr ⟨_,_,if_pos hb⟩
      · exact .inl (if_neg hb)
    · by_cases hb:b = a
      · have z':=(if_pos hb).symm.trans z
        cases z'
        subst hb
        exact ⟨ha,by rw [List.length_map]; exact hl,vs,_,rv,ha⟩
      · have z':=(if_neg hb).symm.trans z
        cases z'
    · by_cases hb:b = a
      · exact hb
      · exact absurd (if_neg hb) z
end L2
namespace L2
open PySem PySem.Spec PyProof.Rows
noncomputable abbrev KOf {K:PySem.W.Frag} {h:Heap} (_:K.In h):PySem.W.Frag:=K
theorem walk_of {l:PySem.W.OpenLaw} {n k:Nat} {q:Program} {loose:List Str} {XP:(Str → Option Value) → Heap → Prop} {YP:World → Heap → Prop} {d:DefRec} {K:Params → PySem.W.Frag} {CX:World → CXT} {sp:World → Sp} {x:Str}
    (hn:l.most = some n) (hn2:n ≤ sizeLine) (hdf:d.params.defaults = []) (hr:Room k callerA)
    (hY:∀ (w:World) (h:Heap),YP w h → (K w.params).In h)
    (F:∀ (w:World) (mg:Str → Option Value) (fa:Addr) (h:Heap),(K w.params).In h → h.Ns mainGlobals mg → mg d.name = some (.ref fa) →
      ∃ fd:FuncData,(∀ (s:Shared) (u:Value),BindsTo s fd ⟨[u],[]⟩ [(x,u)]) ∧
        ∀ base:Heap,(K w.params).In base → base.Ns mainGlobals mg → FnOk l.prog w (K w.params) mg base (CX w) k fa fd [x] (sp w))
    (hsp:∀ (w:World) (H:Hp) (a:Addr) (ns:List Int),ns.length ≤ n → Only H → SqL (K w.params) H a (ns.map V.int) → sp w [.ref a] H (fun v _ => v = .bl true) fun _ _ _ => False)
    (hCX:∀ (w:World) (H:Hp) (s:Shared) (e:Value) (s':Shared),CX w [] H s (fun _ _ _ => False) e s' → False) :
    PySem.W.WalkO q loose XP YP l.row.toRowW d [] (fun f vs => PySem.call f vs):=by
  refine Att.attach_call hn hdf fun w s₀ s₁ mg mb fa o pm cd doc a vs ns G Y ho hd hcd hmg hobj hints hlen hg => ?_
  have KX:=hY w _ Y
  obtain ⟨fd,hb,hF⟩:=F w mg fa _ KX G.T.g hmg
  exact law_call KX G.T.g G.T.b G.T.builtins G.T.nolimit hg hobj hints (Nat.le_trans hlen hn2) hr hF hb (fun H hO hS => hsp w H a ns hlen hO hS) fun H e s' => hCX w H s₁ e s'
end L2
/- THE LAST THEOREM (shape; LID,My.* are yours):
   My.Adr: a structure of the addresses that your layer names (classes,functions); My.Txt K t: a structure (Prop) of the equations over K;
   My.txt_mk:{K} {implicit addresses ..} (e1:nsIn K mainGlobals "law" = some (some (.ref f))) (e2:K.lookup f = some ⟨oc,od,.func (fnOf "law" "law" params body scope dV kV doc pm an cdv ct),sl⟩) (e3:codeIn K cdv "law" = true) ..:∃ t,My.Txt K t
set_option maxRecDepth 100000 in
set_option maxHeartbeats 0 in
theorem PySem.Challenge.cw_LID_holds : PySem.Challenge.rw_LID.Holds := by
  w_on; o_law; k_head; (case hw => w_witness2)
  k_fill
  refine L2.walk_of (l:=PySem.Challenge.rw_LID) (n:=63) (k:=40) (x:="script") (CX:=fun w => ..) (sp:=fun _ => My.sp_law) rfl (by decide) rfl ⟨rfl,by decide,by decide⟩ (fun w h Y => PySem.W.kIn_of Y) ?F ?S ?C
  case F =>
    intro w mg fa h KX G hmg
    have T:∃ t,My.Txt (L2.KOf KX) t:=by
      dsimp only [L2.KOf]                          -- K must stand as «<heap const> w.params» for k_is
      refine' My.txt_mk ?e1 ?e2 ?e3 ..
      (case e1 => PySem.W.k_is)                    -- in the order: a name -> its address -> its object -> its parts
      (case e2 => PySem.W.k_is)
      ..
    obtain ⟨t,T⟩:=T
    have e0:=hmg.symm.trans (PySem.W.mg_of KX G T.law)
    cases e0                                       -- fa is the law's own address
    exact ⟨_,fun s u => .of_eq rfl,fun base kb nb => My.law_fn T kb nb⟩     -- if «.of_eq rfl» comes too early: refine' ⟨_,?b,fun base kb nb => My.law_fn T kb nb⟩; exact fun s u => .of_eq rfl
  case S => exact fun w H a ns hl hO hS => ..
  case C => exact ..
(the tactic k_is has no namespace: write k_is) -/
namespace L2
open PySem PySem.Spec PyProof.Rows
noncomputable def defArgs (s:Stmt):Arguments:=match s with
  | .FunctionDef _ a _ _ _ _ _ _ _ _ => a
  | _ => { posonlyargs:=[],args:=[],vararg:=none,kwonlyargs:=[],kw_defaults:=[],kwarg:=none,defaults:=[] }
noncomputable def defBody (s:Stmt):List Stmt:=match s with
  | .FunctionDef _ _ b _ _ _ _ _ _ _ => b
  | _ => []
noncomputable def defScope (s:Stmt):Scope:=match s with
  | .FunctionDef _ _ _ _ _ _ sc _ _ _ => sc
  | _ => { kind:=.function,names:=[],isGenerator:=false,isCoroutine:=false }
noncomputable abbrev CX0:CXT:=fun _ _ _ _ _ _ => False
noncomputable abbrev E0:XK:=fun _ _ _ => False
theorem pass0 {X:Cx}:Passes CX0 X E0:=fun _ _ _ _ _ _ _ h => h.elim
structure Fun (K:PySem.W.Frag) (x qual:Str) (st:Stmt) (f:Addr) (fd:FuncData):Prop where
  ex:∃ (oc:Value) (od:Option Addr) (kV doc pm:Value) (an:Option Addr) (cdv ct:Value) (osl:Array (Option Value)),
    fd = PySem.W.fnOf x qual (defArgs st) (defBody st) (defScope st) .none kV doc pm an cdv ct ∧ K.lookup f = some ⟨oc,od,.func fd,osl⟩ ∧ PySem.W.codeIn K cdv qual = true
  kp:PySem.W.keepIn K (.ref f) = true
section
variable {P:Program} {w:World} {K:PySem.W.Frag} {mg:Str → Option Value} {base:Heap}
theorem Fun.ok {x qual:Str} {st:Stmt} {f:Addr} {fd:FuncData} {N ps:List Str} {k:Nat} {sp:Sp} (F:Fun K x qual st f fd) (S:FnScope N ps (defScope st)) (len:∀ vs H Q E,sp vs H Q E → vs.length = ps.length)
    (hbody:∀ (cdv:Value) (A:Around) (outer:List Env) (s:Shared) (H:Hp) (vs:List V) (Q:VK) (E:XK),Room k (A.deeper (envOfC qual (defScope st) s.heap.objs.size f cdv)) → sp vs H Q E →
      ∃ t,PSs (cxOf CX0 P w K mg base N qual (defScope st) f cdv A outer s H E).nox (defBody st) t ∧ t { nx:=fun _ H' => Q .non H',rt:=Q } (start N vs) H):FnOk P w K mg base CX0 (k + 1) f fd ps sp:=by
  obtain ⟨oc,od,kV,doc,pm,an,cdv,ct,osl,rfl,lk,hcd⟩:=F.ex
  refine fn_of lk hcd S len fun A outer s H vs Q E hr hsp => ?_
  obtain ⟨t,h,q⟩:=hbody cdv A outer s H vs Q E hr hsp
  exact ⟨t,h.nox,q⟩
theorem Fun.binds {x qual:Str} {st:Stmt} {f:Addr} {fd:FuncData} {ps:List Str} (F:Fun K x qual st f fd)
    (h:∀ (kV doc pm:Value) (an:Option Addr) (cdv ct:Value) (us:List Value),us.length = ps.length → bindArgs (PySem.W.fnOf x qual (defArgs st) (defBody st) (defScope st) .none kV doc pm an cdv ct) ⟨us,[]⟩ = pure (ps.zip us)):Binds K fd ps []:=by
  obtain ⟨oc,od,kV,doc,pm,an,cdv,ct,osl,rfl,lk,hcd⟩:=F.ex
  exact .all (h kV doc pm an cdv ct)
theorem fun_mk {x qual:Str} {st:Stmt} {f:Addr} {oc:Value} {od an:Option Addr} {osl:Array (Option Value)} {kV doc pm cdv ct:Value} (l:K.lookup f = some ⟨oc,od,.func (PySem.W.fnOf x qual (defArgs st) (defBody st) (defScope st) .none kV doc pm an cdv ct),osl⟩)
    (c:PySem.W.codeIn K cdv qual = true) (k:PySem.W.keepIn K (.ref f) = true):Fun K x qual st f (PySem.W.fnOf x qual (defArgs st) (defBody st) (defScope st) .none kV doc pm an cdv ct):=⟨⟨oc,od,kV,doc,pm,an,cdv,ct,osl,rfl,l,c⟩,k⟩
end
theorem small1000 {n:Nat} (h:n ≤ 1000):n < sizeLine:=Nat.lt_of_le_of_lt h (by decide)
section
variable {X:Cx}
theorem pv (i:Nat) {x:Str} {pos:Pos} (hN:X.N[i]? = some x:=by rfl) (hv:Vis X.env.scope x:=by first | exact Or.inl rfl | exact Or.inr (Or.inl rfl) | exact Or.inr (Or.inr rfl)) (hd:(x == ("__debug__":Str)) = false:=by decide)
    (hcd:(x == ("__classdict__":Str)) = false:=by decide):PE X (.Name x pos) (tVar i):=pe_var hN hv hd hcd
end
theorem iteF {A B:Prop} (h:B):if false = true then A else B:=by
  rw [if_neg Bool.false_ne_true]
  exact h
theorem iteT {A B:Prop} (h:A):if true = true then A else B:=by
  rw [if_pos rfl]
  exact h
theorem ite2 {c A B:Prop} [Decidable c] (h1:c → A) (h2:¬ c → B):if c then A else B:=by
  by_cases h:c
  · rw [if_pos h]
    exact h1 h
  · rw [if_neg h]
    exact h2 h
noncomputable def Same (H H':Hp):Prop:=∀ b o,H b = some o → H' b = some o
theorem Same.refl (H:Hp):Same H H:=fun _ _ h => h
theorem Same.trans {H H1 H2:Hp} (a:Same H H1) (b:Same H1 H2):Same H H2:=fun c o h => b c o (a c o h)
theorem Same.seq {K:PySem.W.Frag} {H H':Hp} {a:Addr} {xs:List V} (e:Same H H') (h:SqL K H a xs):SqL K H' a xs:=by
  rcases h with (h | ⟨o,h⟩) | h
  · exact .inl (.inl (e _ _ h))
  · exact .inl (.inr ⟨o,e _ _ h⟩)
  · exact .inr h
end L2
namespace L2
open PySem PySem.Spec PyProof.Rows
section
variable {X:Cx}
end
end L2
namespace L2
open PySem PySem.Spec PyProof.Rows
section
variable {κ:Type} [DecidableEq κ]
end
end L2
namespace L2
open PySem PySem.Spec PyProof.Rows
noncomputable def Its (z:Str):It:=⟨fun i _ => i < z.cps.size,fun i H x H' => H' = H ∧ ∃ c,z.cps[i]? = some c ∧ x = .str ⟨#[c]⟩,fun i _ => z.cps.size ≤ i⟩
theorem turn_sign {P:Program} {w:World} {K:PySem.W.Frag} {tg:Expr} (it:Addr) (z:Str) (t:Tok) (wide:Bool) :
    Turn P w K tg (Its z) [it] it (fun i h => h.IsStrIter it (if wide then "str_iterator" else "str_ascii_iterator") z t i) where
  mem:=List.mem_singleton.mpr rfl
  obj:=fun i h st b hb => by
    obtain rfl:b = it:=List.mem_singleton.mp hb
    obtain ⟨o,e,_,d⟩:=st
    exact ⟨o,e,fun v q => by rw [d] at q; cases q⟩
  keep:=fun i h h' st k => by
    obtain ⟨o,e,r⟩:=st
    exact ⟨o,k it (List.mem_singleton.mpr rfl) o e,r⟩
  item:=by
    intro X hP hw hK hc i pins s σ H E I hf st hg
    subst hP hw hK
    obtain ⟨f0,f1,_,f3,f4,f5⟩:=hf it (List.mem_singleton.mpr rfl)
    have hi:i < z.cps.size:=hg
    have hz:z.cps[i]? = some z.cps[i]:=by simp [hi]
    have fin:∀ h',h'.IsStrIter it (if wide then "str_iterator" else "str_ascii_iterator") z t (i + 1) → Heap.SameBut it s.heap h' →
        ∃ u,(some (Value.str ⟨#[z.cps[i]]⟩ s.toks)) = some u ∧ wpAny (model X.prog X.w) X.A (letOwnedTupleGo tg (.ref it) u)
          (fun _ s2 => ∃ x H',Inv X pins σ H' s2 ∧ RelV x u ∧ (Its z).yld i H x H' ∧ s2.heap.IsStrIter it (if wide then "str_iterator" else "str_ascii_iterator") z t (i + 1) ∧ ∀ b ∈ [it],H' b = none) E { s with heap:=h',toks:=s.toks + 1 }:=by
      intro h' st' sb
      have I1:Inv X pins σ H { s with heap:=h',toks:=s.toks + 1 }:=I.turned (fun b o hb e => (sb.2 b hb).trans e) f0 f1 f3 f4 f5
      obtain ⟨o,e,c,d⟩:=id st'
      refine ⟨_,rfl,go_of (s:={ s with heap:=h',toks:=s.toks + 1 }) e c d (by cases wide <;> decide) ⟨.str ⟨#[z.cps[i]]⟩,H,I1,⟨_,rfl⟩,⟨rfl,_,hz,rfl⟩,st',fun b hb => (hf b hb).1⟩⟩
    cases wide with
    | true => exact wpAny_pyNext_wide_item st hz fun h' st' sb => fin h' st' sb
    | false => exact wpAny_pyNext_ascii_item st hz fun h' st' sb => fin h' st' sb
  done:=by
    intro X hP hw hK hc i pins s σ H E I hf st hg
    subst hP hw hK
    obtain ⟨f0,f1,_,f3,f4,f5⟩:=hf it (List.mem_singleton.mpr rfl)
    have hi:z.cps.size ≤ i:=hg
    have hz:z.cps[i]? = none:=by simp [hi]
    cases wide with
    | true => exact wpAny_pyNext_wide_end (I.ok.hd hc) st hz fun h' eb => ⟨rfl,I.turned (t':=s.toks) (fun b o hb e => eb b o hb e) f0 f1 f3 f4 f5⟩
    | false => exact wpAny_pyNext_ascii_end (I.ok.hd hc) st hz fun h' eb => ⟨rfl,I.turned (t':=s.toks) (fun b o hb e => eb b o hb e) f0 f1 f3 f4 f5⟩
  self:=fun _ _ _ _ _ st h => by
    cases wide with
    | true => exact wpAny_pyIter_striter_wide st h
    | false => exact wpAny_pyIter_striter_ascii st h
section
variable {X:Cx} {tg:Expr}
noncomputable def iStr (tl:TE):TI:=fun σ H R => tl σ H fun x H1 => ∃ z,x = .str z ∧ R (Its z) H1
theorem pi_str {l:Expr} {tl:TE} (hl:PE X l tl):PI X tg l (iStr tl):=by
  intro pins s σ H R I h
  refine thn (hl pins s σ H _ I h) fun v s1 ⟨x,H1,I1,r1,q1⟩ => ?_
  obtain ⟨z,e,q⟩:=q1
  subst e
  obtain ⟨t,rfl⟩:=r1
  have fin:∀ (wide:Bool),PIE X pins σ tg R (.ref s1.heap.objs.size) { s1 with heap:=s1.heap.push { cls:=.type (if wide then "str_iterator" else "str_ascii_iterator"),data:=.fields #[.str z t,.int 0 0] } }:=by
    intro wide
    refine ⟨s1.heap.objs.size,[s1.heap.objs.size],_,_,H1,rfl,I1.kept (t':=s1.toks) fun b o e => Heap.get?_push_of_some _ e,turn_sign _ z t wide,⟨_,Heap.get?_push_size _ rfl,rfl,rfl⟩,fun b hb => ?_,q⟩
    obtain rfl:b = s1.heap.objs.size:=List.mem_singleton.mp hb
    exact I1.fpOk (Nat.le_refl _) (I1.hok.fresh (Nat.le_refl _))
  cases ha:z.cps.all (· < 128) with
  | false => exact wpAny_pyIter_wide ha (fin true)
  | true => exact wpAny_pyIter_ascii ha (fin false)
end
theorem for_str {z:Str} {g:TG} {tb:TS} {D:Ends} {σ:St} {H:Hp} (Pv:Nat → St → Hp → Prop) (h0:Pv 0 σ H)
    (hs:∀ i c σ H,z.cps[i]? = some c → Pv i σ H → g (.str ⟨#[c]⟩) σ H fun σ2 H2 => tb { D with nx:=Pv (i + 1),ct:=Pv (i + 1),bk:=D.nx } σ2 H2) (hd:∀ σ H,Pv z.cps.size σ H → D.nx σ H) :
    ∃ W:Nat → Nat → St → Hp → Prop,(∃ m,W 0 m σ H) ∧ ∀ i m σ H,W i m σ H →
      ((Its z).stop i H ∧ D.nx σ H) ∨ ((Its z).go i H ∧ ∃ N:St → Hp → Prop,(∀ σ' H',N σ' H' → ∃ m',m' < m ∧ W (i + 1) m' σ' H') ∧ ∀ x H',(Its z).yld i H x H' → g x σ H' fun σ2 H2 => tb { D with nx:=N,ct:=N,bk:=D.nx } σ2 H2):=by
  refine ⟨fun i m σ H => m = z.cps.size - i ∧ i ≤ z.cps.size ∧ Pv i σ H,⟨z.cps.size,Nat.sub_zero _ |>.symm,Nat.zero_le _,h0⟩,?_⟩
  rintro i m σ H ⟨rfl,hi,p⟩
  by_cases hlt:i < z.cps.size
  · refine .inr ⟨hlt,Pv (i + 1),fun σ' H' p' => ⟨z.cps.size - (i + 1),by omega,rfl,hlt,p'⟩,fun x H' y => ?_⟩
    obtain ⟨e,c,hc,ex⟩:=y
    subst e ex
    exact hs i c σ _ hc p
  · obtain rfl:i = z.cps.size:=by omega
    exact .inl ⟨Nat.le_refl _,hd σ H p⟩
noncomputable abbrev blk (X:Cx) (N':List Str) (sc:Scope) (cl:List (Str × Addr)) (s₀:Shared) (H₀:Hp) (C:Addr) (ex:List Addr):Cx :=
  { X with N:=N',s₀:=s₀,H₀:=H₀,env:=compEnvC sc cl C X.env,outer:=X.stack,ex:=ex,fn:=fun _ => false,xe:=fun _ _ => False }
structure BlkSc (X:Cx) (caps:List Str) (sc:Scope) (cl:List (Str × Addr)):Prop where
  kind:sc.kind = .function
  nocell:∀ y ∈ sc.names,y.2 ≠ .cell
  names:∀ y ∈ sc.names,y.2 = .local → sc.names.lookup y.1 = some .local
  clos:closureFor sc X.env = pure cl
  has:(sc.names.all fun y => y.2 != .free || (cl.lookup y.1).isSome) = true
  sub:∀ y ∈ cl,X.env.cells.lookup y.1 = some y.2
  caps:∀ x ∈ caps,(X.env.kindOf x = some .cell ∨ X.env.kindOf x = some .free) ∧ (cl.lookup x).isSome = true ∧ ((relabel sc X.env).names.lookup x = some .cell ∨ (relabel sc X.env).names.lookup x = some .free)
theorem relabel_inv {env:Env}:∀ {names:List (Str × NameKind)} {x:Str} {k:NameKind},(names.map fun (n,k) => if (k == NameKind.free && env.scope.kind == .function && env.kindOf n == some .cell) then (n,NameKind.cell) else (n,k)).lookup x = some k →
    ∃ k',(x,k') ∈ names ∧ (k' = k ∨ k' = .free)
  | [],_,_,h => by simp at h
  | (n,k0) :: r,x,k,h => by
    have h':List.lookup x ((if (k0 == NameKind.free && env.scope.kind == .function && env.kindOf n == some .cell) = true then (n,NameKind.cell) else (n,k0)) :: (r.map fun (n,k) => if (k == NameKind.free && env.scope.kind == .function && env.kindOf n == some .cell) then (n,NameKind.cell) else (n,k))) = some k:=h
    by_cases hx:x = n
    · subst hx
      refine ⟨k0,List.mem_cons_self,?_⟩
      by_cases hc:(k0 == NameKind.free && env.scope.kind == .function && env.kindOf x == some .cell) = true
      · have hf:(k0 == NameKind.free) = true:=by
          rw [Bool.and_eq_true,Bool.and_eq_true] at hc
          exact hc.1.1
        exact .inr (by cases k0 <;> first | rfl | exact absurd hf (by decide))
      · rw [if_neg hc,List.lookup_cons_self] at h'
        exact .inl (Option.some.inj h')
    · have hb:(x == n) = false:=beq_eq_false_iff_ne.mpr hx
      have h2:(r.map fun (n,k) => if (k == NameKind.free && env.scope.kind == .function && env.kindOf n == some .cell) then (n,NameKind.cell) else (n,k)).lookup x = some k:=by
        split at h' <;> simpa [List.lookup_cons,hb] using h'
      obtain ⟨k',hm,hk⟩:=relabel_inv h2
      exact ⟨k',List.mem_cons_of_mem _ hm,hk⟩
theorem BlkSc.hasc {X:Cx} {caps:List Str} {sc:Scope} {cl:List (Str × Addr)} (S:BlkSc X caps sc cl) {x:Str} (h:(relabel sc X.env).names.lookup x = some .cell ∨ (relabel sc X.env).names.lookup x = some .free):∃ c,cl.lookup x = some c:=by
  have key:(x,NameKind.free) ∈ sc.names:=by
    rcases h with h | h
    · obtain ⟨k',hm,hk⟩:=relabel_inv h
      rcases hk with rfl | rfl
      · exact absurd rfl (S.nocell _ hm)
      · exact hm
    · obtain ⟨k',hm,hk⟩:=relabel_inv h
      rcases hk with rfl | rfl <;> exact hm
  have q:=List.all_eq_true.mp S.has _ key
  have q2:(cl.lookup x).isSome = true:=by simpa using q
  exact Option.isSome_iff_exists.mp q2
theorem BlkSc.subc {X:Cx} {caps:List Str} {sc:Scope} {cl:List (Str × Addr)} (S:BlkSc X caps sc cl) {x:Str} {c:Addr} (h:cl.lookup x = some c):X.env.cells.lookup x = some c:=S.sub _ (PySem.mem_of_lookup h)
noncomputable def blkSt (n:Nat) (κ:List Nat) (σ:St):St:=List.replicate n none ++ κ.map fun k => (σ[k]?).join
noncomputable def CompRun (n:Nat) (κ:List Nat) (g:TG) (tc:TT) (te:TE) (σ:St) (J:It) (H1:Hp) (Q:VK):Prop :=
  ∃ W:Nat → Nat → List V → Hp → Prop,(∃ m,W 0 m [] H1) ∧ ∀ i m ys H2,W i m ys H2 →
    (J.stop i H2 ∧ ∀ D,H2 D = none → Q (.ref D) (upd H2 D (.lst ys))) ∨
    (J.go i H2 ∧ ys.length < sizeLine ∧ ∀ x H3,J.yld i H2 x H3 → g x (blkSt n κ σ) H3 fun σ4 H4 => σ4.drop n = (blkSt n κ σ).drop n ∧
      tc σ4 H4 fun b H5 => if b = true then te σ4 H5 fun v H6 => ∃ m',m' < m ∧ W (i + 1) m' (ys ++ [v]) H6 else ∃ m',m' < m ∧ W (i + 1) m' ys H5)
noncomputable def tComp (n:Nat) (κ:List Nat) (wi:TI) (g:TG) (tc:TT) (te:TE):TE:=fun σ H Q => wi σ H fun J H1 => CompRun n κ g tc te σ J H1 Q
noncomputable def tYes:TT:=fun _ H Q => Q true H
theorem tYes_go {σ:St} {H:Hp} {A B:Hp → Prop} (h:A H):tYes σ H fun b H5 => if b = true then A H5 else B H5:=by
  show (if true = true then A H else B H)
  rw [if_pos rfl]
  exact h
section
variable {X:Cx} {pins:List (Addr × Obj)} {σ:St} {H:Hp} {s:Shared}
theorem Inv.block {caps:List Str} {own:List Str} {κ:List Nat} {sc:Scope} {cl:List (Str × Addr)} {fp:List Addr} {h₁:Heap} {tk:Nat} (S:BlkSc X caps sc cl) (hκ:κ.map (fun k => X.N[k]?) = caps.map some) (I:Inv X pins σ H s)
    (f2:∀ b ∈ fp,FpOk X pins H b) (hfp:∀ b ∈ fp,b < s.heap.objs.size)
    {hp:Heap} {ol:Obj} (ehp:hp = s.heap.push ol) (hns:h₁.Ns hp.objs.size fun _ => none) (old:∀ b o,hp.get? b = some o → h₁.get? b = some o) :
    Inv (blk X (own ++ caps) sc cl { s with heap:=hp } H hp.objs.size (s.heap.objs.size :: fp)) pins (blkSt own.length κ σ) H { s with heap:=h₁,toks:=tk }:=by
  have hsz:hp.objs.size = s.heap.objs.size + 1:=by rw [ehp,Heap.size_push]
  have up:∀ b o,s.heap.get? b = some o → hp.get? b = some o:=fun b o e => by rw [ehp]; exact Heap.get?_push_of_some _ e
  have I3:Inv X pins σ H { s with heap:=hp }:=I.kept (t':=s.toks) up
  have stk:∀ b,b ≠ X.env.locals → b ∉ X.fs → b ∉ frs X.stack:=fun b h1 h2 z => (List.mem_cons.mp (I.stkSub b z)).elim h1 h2
  have dD:s.heap.objs.size ≠ X.env.locals:=Nat.ne_of_gt I.lt
  have cellLt:∀ x c,X.env.cells.lookup x = some c → c < s.heap.objs.size:=fun x c e => by
    obtain ⟨v,q⟩:=I.cell x c e
    exact q.lt
  have ltC:∀ b,b < s.heap.objs.size → b ≠ hp.objs.size:=fun b hb => by rw [hsz]; exact Nat.ne_of_lt (Nat.lt_succ_of_lt hb)
  have cellK:∀ c v,s.heap.IsCell c v → h₁.IsCell c v:=fun c v ⟨o,ho,hd⟩ => ⟨o,old _ _ (up _ _ ho),hd⟩
  refine ⟨⟨I.ok.mod,?_,I.ok.glob,I.ok.blt,Nat.le_refl _,fun x y c h1 h2 => I.ok.inj x y c (S.subc h1) (S.subc h2),fun x h => S.hasc h,fun _ _ z => absurd z Bool.false_ne_true,I.ok.hd,I.ok.frames,.inl rfl,fun b hb => ?_,fun b o e => ⟨up _ _ (I.bs b o e).1,(I.bs b o e).2⟩,
      Nat.le_trans (Nat.le_trans I.ok.bsz I.sz) (by show s.heap.objs.size ≤ hp.objs.size; rw [hsz]; exact Nat.le_succ _),fun b o e hb => ?_,fun b hb => ?_,I3.stack,I.stkFree⟩,
    rfl,I.bare,Un.kept old,⟨_,hns,fun i x v e1 e2 e3 => ?_⟩,fun x c h => ?_,I.hok.fresh (by rw [hsz]; exact Nat.le_succ _),fun x c h => I.freeC x c (S.subc h),fun p hp' => ?_,I.hok.kept fun b u e => old _ _ (up _ _ e),?_⟩
  · show (relabel sc X.env).kind = .function
    exact S.kind
  · show b ≠ hp.objs.size ∧ ∀ x c,cl.lookup x = some c → c ≠ b
    rcases List.mem_cons.mp hb with rfl | hb
    · exact ⟨by rw [hsz]; exact Nat.ne_of_lt (Nat.lt_succ_self _),fun x c h => Nat.ne_of_lt (cellLt x c (S.subc h))⟩
    · exact ⟨ltC b (hfp b hb),fun x c h => (f2 b hb).2.2.2.2.1 x c (S.subc h)⟩
  · have hlt:b < X.s₀.heap.objs.size:=Nat.lt_of_lt_of_le (Heap.lt_size e) I.ok.bsz
    rcases List.mem_cons.mp hb with rfl | hb
    · exact absurd (Nat.lt_of_lt_of_le hlt I.sz) (Nat.lt_irrefl _)
    · rcases (f2 b hb).2.2.2.1 with z | z
      · exact I.ok.noex b o e z
      · exact absurd (Nat.lt_of_lt_of_le hlt z) (Nat.lt_irrefl _)
  · rcases List.mem_cons.mp hb with rfl | hb
    · exact stk _ dD (I.nofs (Nat.le_refl _))
    · exact stk _ (f2 b hb).2.1 (f2 b hb).2.2.1
  · have e1':(own ++ caps)[i]? = some x:=e1
    have hlen:(List.replicate own.length (none:Option V)).length = own.length:=List.length_replicate
    have hge:own.length ≤ i:=by
      refine Nat.le_of_not_lt fun hlt => ?_
      unfold blkSt at e2
      rw [List.getElem?_append_left (by rw [hlen]; exact hlt),List.getElem?_replicate,if_pos hlt] at e2
      cases e2
    unfold blkSt at e2
    rw [List.getElem?_append_right (by rw [hlen]; exact hge),hlen,List.getElem?_map] at e2
    rw [List.getElem?_append_right hge] at e1'
    cases ek:κ[i - own.length]? with
    | none => rw [ek] at e2; cases e2
    | some k =>
      rw [ek] at e2
      have e2':(σ[k]?).join = some v:=Option.some.inj e2
      have e4:σ[k]? = some (some v):=by
        cases eσ:σ[k]? with
        | none => rw [eσ] at e2'; cases e2'
        | some w => rw [eσ] at e2'; exact congrArg some e2'
      have e5:X.N[k]? = some x:=by
        have z:=congrArg (fun l => l[i - own.length]?) hκ
        simp only [List.getElem?_map,ek,e1',Option.map_some] at z
        exact Option.some.inj z
      obtain ⟨c1,c2,c3⟩:=S.caps x (List.mem_of_getElem? e1')
      obtain ⟨m,hn,hl⟩:=I.loc
      obtain ⟨u,r,l⟩:=hl k x v e5 e4 (c1.elim (fun z => .inr (.inl z)) fun z => .inr (.inr z))
      refine ⟨u,r,?_⟩
      rcases l with ⟨hk,_⟩ | ⟨_,c,hc,hcell⟩
      · rcases c1 with z | z <;> (rw [hk] at z; cases z)
      · obtain ⟨c',hc'⟩:=Option.isSome_iff_exists.mp c2
        have ecc:c' = c:=Option.some.inj ((S.subc hc').symm.trans hc)
        subst ecc
        exact .inr ⟨c3,c',hc',cellK _ _ hcell⟩
  · obtain ⟨v,q⟩:=I.cell x c (S.subc h)
    exact ⟨v,cellK c v q⟩
  · obtain ⟨e,n,ne,nf,d⟩:=I.pin p hp'
    exact ⟨old _ _ (up _ _ e),n,ltC _ (Heap.lt_size e),stk _ ne nf,d⟩
  · show (blkSt own.length κ σ).length = (own ++ caps).length
    have z:=congrArg List.length hκ
    rw [List.length_map,List.length_map] at z
    unfold blkSt
    rw [List.length_append,List.length_append,List.length_replicate,List.length_map,z]
theorem Inv.unblock {own caps:List Str} {sc:Scope} {cl:List (Str × Addr)} {fp:List Addr} {H':Hp} {s4:Shared} {σ':St} {pins':List (Addr × Obj)} {hp h':Heap} {ol:Obj} {ys:List V} {its:List Value} {cap:Nat} (I:Inv X pins σ H s)
    (f2:∀ b ∈ fp,FpOk X pins H b) (ehp:hp = s.heap.push ol)
    (J:Inv (blk X (own ++ caps) sc cl { s with heap:=hp } H hp.objs.size (s.heap.objs.size :: fp)) pins' σ' H' s4)
    (hD:s4.heap.get? s.heap.objs.size = some { cls:=.type "list",data:=.seq its.toArray cap }) (nD:H' s.heap.objs.size = none) (r:Vals ys its) (hz:ys.length ≤ sizeLine) (sb:Heap.SameBut hp.objs.size s4.heap h') :
    Inv X pins σ (upd H' s.heap.objs.size (.lst ys)) { s4 with heap:=h' }:=by
  have hsz:hp.objs.size = s.heap.objs.size + 1:=by rw [ehp,Heap.size_push]
  have up:∀ b o,s.heap.get? b = some o → hp.get? b = some o:=fun b o e => by rw [ehp]; exact Heap.get?_push_of_some _ e
  have nDs:H s.heap.objs.size = none:=I.hok.fresh (Nat.le_refl _)
  have neD:∀ b o,s.heap.get? b = some o → b ≠ s.heap.objs.size:=fun b o e => Nat.ne_of_lt (Heap.lt_size e)
  have neC:∀ b o,s.heap.get? b = some o → b ≠ hp.objs.size:=fun b o e => by rw [hsz]; exact Nat.ne_of_lt (Nat.lt_succ_of_lt (Heap.lt_size e))
  have nex:∀ b o,s.heap.get? b = some o → b ∉ fp → b ∉ s.heap.objs.size :: fp:=fun b o e hb z => (List.mem_cons.mp z).elim (neD b o e) hb
  have u:=J.base
  have hDC:s.heap.objs.size ≠ hp.objs.size:=by rw [hsz]; exact Nat.ne_of_lt (Nat.lt_succ_self _)
  have eD:h'.get? s.heap.objs.size = some { cls:=.type "list",data:=.seq its.toArray cap }:=(sb.2 _ hDC).trans hD
  refine I.call' (ch:=fp) J.os ⟨fun b o e n hb hx => ?_,fun b o e n hb hx => ?_,fun b o e n hx => ?_,fun b o e hx => ?_,fun b xs e => ?_,fun b o x e => ?_,fun b ps e => ?_⟩ (fun b o e => ?_) J.bare fun b hb => ?_
  · exact (sb.2 b (neC b o e)).trans (u.keep b o (up _ _ e) n hb (nex b o e hx))
  · obtain ⟨sl,q⟩:=u.slot b o (up _ _ e) n hb (nex b o e hx)
    exact ⟨sl,(sb.2 b (neC b o e)).trans q⟩
  · rw [upd_ne (neD b o e)]
    exact u.free b o (up _ _ e) n (nex b o e hx)
  · obtain ⟨o',q⟩:=u.there b o (up _ _ e) (nex b o e hx)
    exact ⟨o',(sb.2 b (neC b o e)).trans q⟩
  · rw [upd_ne (ne_of_none e nDs)]
    exact u.tups b xs e
  · rw [upd_ne (ne_of_none e nDs)]
    exact u.frzs b o x e
  · rw [upd_ne (ne_of_none e nDs)]
    exact u.tbls b ps e
  · by_cases hb:b = s.heap.objs.size
    · subst hb
      rw [upd_same] at e
      cases e
      exact ⟨hz,its,cap,r,eD⟩
    · rw [upd_ne hb] at e
      have nC:∀ c w,H' c = some w → c ≠ hp.objs.size:=fun c w q => ne_of_none q J.free
      refine (J.hok b o e).stay (fun c v hc q => (sb.2 c ?_).trans q) (fun c q => by rw [upd_ne (ne_of_none q nD)]; exact q) fun c xs q => by rw [upd_ne (ne_of_none q nD)]; exact q
      rcases hc with rfl | hc
      · exact nC c o e
      · exact nC c _ hc
  · obtain ⟨_,f1,_,f3,f4,f5⟩:=f2 b hb
    exact ⟨f3,f1,f4,f5⟩
end
section
variable {X:Cx}
theorem pe_compG {tg elt iter:Expr} {ifs:List Expr} {own caps:List Str} {κ:List Nat} {sc:Scope} {cl:List (Str × Addr)} {pos:Pos} {wi:TI} {g:TG} {tc:TT} {te:TE} (hcalm:X.calm = true) (S:BlkSc X caps sc cl) (hκ:κ.map (fun k => X.N[k]?) = caps.map some)
    (hi:PI X tg iter wi) (hg:∀ s₀ H₀ C ex,PG (blk X (own ++ caps) sc cl s₀ H₀ C ex) tg g)
    (hc:∀ s₀ H₀ C ex (pins:List (Addr × Obj)) (s:Shared) (σ:St) (H:Hp) (Q:Bool → Hp → Prop),Inv (blk X (own ++ caps) sc cl s₀ H₀ C ex) pins σ H s → tc σ H Q →
      wpAny (model X.prog X.w) X.A (forIn ifs true fun c r => if r = true then do let ok ← isTrue c (compEnvC sc cl C X.env) (eval c (compEnvC sc cl C X.env)); pure (ForInStep.yield ok) else pure (ForInStep.yield r)) (TP (blk X (own ++ caps) sc cl s₀ H₀ C ex) pins σ Q) (fun _ _ => False) s)
    (he:∀ s₀ H₀ C ex,PE (blk X (own ++ caps) sc cl s₀ H₀ C ex) elt te)
    (hs:∀ x,foldedSetIterable iter X.env x = pure x:=by intro _; rfl):PE X (.ListComp elt [⟨tg,iter,ifs,0⟩] sc pos) (tComp own.length κ wi g tc te):=by
  intro pins s σ H Q I h
  rw [eval_ListComp]
  refine wpAny_comprehension_free (use:=none) rfl hs S.clos S.kind S.names (thn (hi pins s σ H _ I h) fun v s1 h1 => thn h1 fun itv s2 h2 => ?_)
  obtain ⟨it,fp,tn,J,H2,e,I2,T,st2,f2,W,⟨m0,w0⟩,turn⟩:=h2
  subst e
  have hfp:∀ b ∈ fp,b < s2.heap.objs.size:=fun b hb => by
    obtain ⟨o,e,_⟩:=T.obj _ _ st2 b hb
    exact Heap.lt_size e
  refine wpAny_newObj_type (wpAny_newFunctionEnv S.nocell (fun y hy => nomatch hy) (fun h₁ hns hsb => ?_) S.kind)
  generalize ehp:s2.heap.push { cls:=.type "list",dict:=none,data:=.seq ([]:List Value).toArray } = hp at hns hsb ⊢
  have hsz:hp.objs.size = s2.heap.objs.size + 1:=by rw [← ehp,Heap.size_push]
  have hDC:s2.heap.objs.size ≠ hp.objs.size:=by rw [hsz]; exact Nat.ne_of_lt (Nat.lt_succ_self _)
  have old:∀ b o,hp.get? b = some o → h₁.get? b = some o:=fun b o e => (hsb.2 b (Nat.ne_of_lt (Heap.lt_size e))).trans (Heap.get?_push_of_some _ e)
  have eD:h₁.get? s2.heap.objs.size = some { cls:=.type "list",data:=.seq ([]:List Value).toArray }:=old _ _ (by rw [← ehp]; exact Heap.get?_push_size _ rfl)
  have I0:=Inv.block (own:=own) (h₁:=h₁) (tk:=s2.toks + ([]:List (Str × Value)).length) S hκ I2 f2 hfp ehp.symm hns old
  have stkD:s2.heap.objs.size ∉ frs X.stack:=fun z => (List.mem_cons.mp (I2.stkSub _ z)).elim (Nat.ne_of_gt I2.lt) (I2.nofs (Nat.le_refl _))
  have cellD:∀ x c,cl.lookup x = some c → c ≠ s2.heap.objs.size:=fun x c q => by
    obtain ⟨v,z⟩:=I2.cell x c (S.subc q)
    exact Nat.ne_of_lt z.lt
  have pinD:∀ p ∈ X.pn ++ pins,p.1 ≠ s2.heap.objs.size:=fun p hp => Nat.ne_of_lt (Heap.lt_size (I2.pin p hp).1)
  have stkF:∀ b ∈ fp,b ∉ frs X.stack:=fun b hb z => (List.mem_cons.mp (I2.stkSub _ z)).elim (f2 b hb).2.1 (f2 b hb).2.2.1
  have loop:codeAny (model X.prog X.w) X.A (.compLoop (.ListComp elt [⟨tg,iter,ifs,0⟩] sc pos) 0 (.ref it) (.ref s2.heap.objs.size) (compEnvC sc cl hp.objs.size X.env))
      (compPost (model X.prog X.w) X.A X.xe none (EP X pins σ Q) (.ref s2.heap.objs.size) hp.objs.size) { s2 with heap:=h₁,toks:=s2.toks + ([]:List (Str × Value)).length }:=by
    refine codeAny_loop rfl (fun n s' => ∃ (i:Nat) (ys:List V) (its:List Value) (cap:Nat) (H':Hp),Inv (blk X (own ++ caps) sc cl { s2 with heap:=hp } H2 hp.objs.size (s2.heap.objs.size :: fp)) pins (blkSt own.length κ σ) H' s' ∧ tn i s'.heap ∧ (∀ b ∈ fp,H' b = none) ∧
      s'.heap.get? s2.heap.objs.size = some { cls:=.type "list",data:=.seq its.toArray cap } ∧ H' s2.heap.objs.size = none ∧ Vals ys its ∧ ys.length ≤ sizeLine ∧ W i n ys H') (fun n s3 hI => ?_) m0
      ⟨0,[],[],0,H2,I0,T.keep _ _ _ st2 fun b hb o e => old _ _ (by rw [← ehp]; exact Heap.get?_push_of_some _ e),fun b hb => (f2 b hb).1,eD,I2.hok.fresh (Nat.le_refl _),.nil,Nat.zero_le _,w0⟩
    obtain ⟨i,ys,its,cap,H3,I3,st3,fr3,eD3,nD3,rv,hz,w3⟩:=hI
    show wpAny _ X.A ((compTurn (.ListComp elt [⟨tg,iter,ifs,0⟩] sc pos) 0 (.ref it) (.ref s2.heap.objs.size) (compEnvC sc cl hp.objs.size X.env)).onRaise fun x => do noteFrame x (compEnvC sc cl hp.objs.size X.env); theTreesLotGoes x) _ _ s3
    refine wpAny_noted ?_
    rw [compTurn_list]
    have I3':Inv (blk X (own ++ caps) sc cl { s2 with heap:=hp } H2 hp.objs.size (s2.heap.objs.size :: fp)) (pins ++ [(s2.heap.objs.size,{ cls:=.type "list",data:=.seq its.toArray cap })]) (blkSt own.length κ σ) H3 s3:=by
      refine I3.pins_of fun p hp => (List.mem_append.mp hp).elim (fun z => I3.pin p (List.mem_append_right _ z)) fun z => ?_
      obtain rfl:=List.mem_singleton.mp z
      exact ⟨eD3,nD3,hDC,stkD,fun v q => by cases q⟩
    have fpk:∀ {H':Hp},(∀ b ∈ fp,H' b = none) → ∀ b ∈ fp,FpOk (blk X (own ++ caps) sc cl { s2 with heap:=hp } H2 hp.objs.size (s2.heap.objs.size :: fp)) (pins ++ [(s2.heap.objs.size,{ cls:=.type "list",data:=.seq its.toArray cap })]) H' b:=fun {H'} hn b hb =>
      ⟨hn b hb,by show b ≠ hp.objs.size; rw [hsz]; exact Nat.ne_of_lt (Nat.lt_succ_of_lt (hfp b hb)),stkF b hb,.inl (List.mem_cons_of_mem _ hb),fun x c q => (f2 b hb).2.2.2.2.1 x c (S.subc q),fun p hp => by
        rw [← List.append_assoc] at hp
        rcases List.mem_append.mp hp with z | z
        · exact (f2 b hb).2.2.2.2.2 p z
        · obtain rfl:=List.mem_singleton.mp z
          exact Nat.ne_of_gt (hfp b hb)⟩
    rcases turn i n ys H3 w3 with ⟨stop,fin⟩ | ⟨go,hlt,step⟩
    · refine wpAny_bind (wpAny_standAt (wpAny_bind (thn (T.done (blk X (own ++ caps) sc cl { s2 with heap:=hp } H2 hp.objs.size (s2.heap.objs.size :: fp)) rfl rfl rfl hcalm i _ s3 _ H3 _ I3' (fpk fr3) st3 stop) fun r s4 ⟨hr,I4⟩ => ?_)))
      subst hr
      refine wpAny_pure ?_
      obtain ⟨m,hm,_⟩:=I4.loc
      refine ⟨m,hm,fun h' sb => ?_⟩
      have eD4:=(I4.pin (s2.heap.objs.size,{ cls:=.type "list",data:=.seq its.toArray cap }) (List.mem_append_right _ (List.mem_append_right _ (List.mem_singleton.mpr rfl)))).1
      exact ⟨.ref s2.heap.objs.size,_,Inv.unblock I2 f2 ehp.symm I4 eD4 nD3 rv hz sb,rfl,fin _ nD3⟩
    · refine wpAny_bind (wpAny_standAt (wpAny_bind (thn (T.item (blk X (own ++ caps) sc cl { s2 with heap:=hp } H2 hp.objs.size (s2.heap.objs.size :: fp)) rfl rfl rfl hcalm i _ s3 _ H3 _ I3' (fpk fr3) st3 go) fun r s4 ⟨u,hr,h4⟩ => ?_)))
      subst hr
      refine wpAny_bind (thn h4 fun _ s5 ⟨x,H5,I5,r5,y5,st5,fr5⟩ => ?_)
      have I5':=I5.pinned (fpk fr5) (T.obj _ _ st5)
      refine wpAny_bind (wpAny_mono (hg _ _ _ _ _ s5 _ H5 x u _ I5' r5 (step x H5 y5)) (fun _ s6 ⟨σ6,H6,I6,eσ,q6⟩ => ?_) fun _ _ z => z.elim)
      refine wpAny_bind (wpAny_mono (hc _ _ _ _ _ s6 σ6 H6 _ I6 q6) (fun ok s7 ⟨H7,I7,q7⟩ => ?_) fun _ _ z => z.elim)
      have back:∀ {s8:Shared} {H8:Hp},Inv (blk X (own ++ caps) sc cl { s2 with heap:=hp } H2 hp.objs.size (s2.heap.objs.size :: fp)) ((pins ++ [(s2.heap.objs.size,{ cls:=.type "list",data:=.seq its.toArray cap })]) ++ pinsAt fp s5.heap) σ6 H8 s8 →
          Inv (blk X (own ++ caps) sc cl { s2 with heap:=hp } H2 hp.objs.size (s2.heap.objs.size :: fp)) pins (blkSt own.length κ σ) H8 s8 ∧ tn (i + 1) s8.heap ∧ (∀ b ∈ fp,H8 b = none) ∧ s8.heap.get? s2.heap.objs.size = some { cls:=.type "list",data:=.seq its.toArray cap } ∧ H8 s2.heap.objs.size = none:=by
        intro s8 H8 I8
        have pk:∀ b ∈ fp,∀ o,s5.heap.get? b = some o → s8.heap.get? b = some o ∧ H8 b = none:=fun b hb o e => by
          have z:=I8.pin (b,o) (List.mem_append_right _ (List.mem_append_right _ (mem_pinsAt hb e)))
          exact ⟨z.1,z.2.1⟩
        have zD:=I8.pin (s2.heap.objs.size,{ cls:=.type "list",data:=.seq its.toArray cap }) (List.mem_append_right _ (List.mem_append_left _ (List.mem_append_right _ (List.mem_singleton.mpr rfl))))
        refine ⟨(I8.pins_of fun p hp => I8.pin p (List.mem_append_right _ (List.mem_append_left _ (List.mem_append_left _ hp)))).weak ?_ fun j v e => ?_,T.keep _ _ _ st5 fun b hb o e => (pk b hb o e).1,fun b hb => ?_,zD.1,zD.2.1⟩
        · exact I3.len.trans I8.len.symm
        · have hge:own.length ≤ j:=by
            refine Nat.le_of_not_lt fun q => ?_
            unfold blkSt at e
            rw [List.getElem?_append_left (by rw [List.length_replicate]; exact q),List.getElem?_replicate,if_pos q] at e
            cases e
          have z:=congrArg (fun l => l[j - own.length]?) eσ
          simp only [List.getElem?_drop] at z
          rw [show own.length + (j - own.length) = j by omega] at z
          rw [z]
          exact e
        · obtain ⟨o,e,_⟩:=T.obj _ _ st5 b hb
          exact (pk b hb o e).2
      cases ok with
      | false =>
        obtain ⟨m',hm,w7⟩:=(if_neg Bool.false_ne_true) ▸ q7
        obtain ⟨I8,st8,fr8,e8,n8⟩:=back I7
        exact wpAny_pure ⟨rfl,m',hm,i + 1,ys,its,cap,H7,I8,st8,fr8,e8,n8,rv,hz,w7⟩
      | true =>
        have q7':=(if_pos rfl) ▸ q7
        refine wpAny_bind (wpAny_bind (wpAny_mono (he _ _ _ _ _ s7 σ6 H7 _ I7 q7') (fun y s8 ⟨v8,H8,I8,r8,m',hm,w8⟩ => ?_) fun _ _ z => z.elim))
        obtain ⟨I9,st9,fr9,e9,n9⟩:=back I8
        have hl:=rv.length
        refine wpAny_bind (wpAny_list_append_plain (items:=its.toArray) ⟨cap,e9⟩ (fun h' hl' sb => ?_) (by rw [List.size_toArray,← hl]; exact hz))
        obtain ⟨cap',e'⟩:=hl'
        refine wpAny_pure (wpAny_pure ⟨rfl,m',hm,i + 1,ys ++ [v8],its ++ [y],cap',H8,?_,?_,fr9,?_,n9,Vals.append rv (.cons r8 .nil),?_,w8⟩)
        · exact I9.turned (t':=s8.toks) (fun b o hb e => (sb.2 b hb).trans e) n9 hDC (.inl List.mem_cons_self) cellD pinD
        · exact T.keep _ _ _ st9 fun b hb o e => (sb.2 b (Nat.ne_of_lt (hfp b hb))).trans e
        · rw [e']
          congr 3
          simp
        · rw [List.length_append]
          exact hlt
  exact codeAny_compStart_list loop (T.self _ 0 _ _ _ (T.keep _ _ _ st2 fun b hb o e => old _ _ (by rw [← ehp]; exact Heap.get?_push_of_some _ e)) loop)
theorem pe_comp {tg elt iter:Expr} {own caps:List Str} {κ:List Nat} {sc:Scope} {cl:List (Str × Addr)} {pos:Pos} {wi:TI} {g:TG} {te:TE} (hcalm:X.calm = true) (S:BlkSc X caps sc cl) (hκ:κ.map (fun k => X.N[k]?) = caps.map some)
    (hi:PI X tg iter wi) (hg:∀ s₀ H₀ C ex,PG (blk X (own ++ caps) sc cl s₀ H₀ C ex) tg g) (he:∀ s₀ H₀ C ex,PE (blk X (own ++ caps) sc cl s₀ H₀ C ex) elt te)
    (hs:∀ x,foldedSetIterable iter X.env x = pure x:=by intro _; rfl):PE X (.ListComp elt [⟨tg,iter,[],0⟩] sc pos) (tComp own.length κ wi g tYes te) :=
  pe_compG hcalm S hκ hi hg (fun s₀ H₀ C ex pins s σ H Q I h => wpAny_tests_nil ⟨H,I,h⟩) he hs
theorem pe_comp_if {tg elt iter c:Expr} {own caps:List Str} {κ:List Nat} {sc:Scope} {cl:List (Str × Addr)} {pos:Pos} {wi:TI} {g:TG} {tc:TT} {te:TE} (hcalm:X.calm = true) (S:BlkSc X caps sc cl) (hκ:κ.map (fun k => X.N[k]?) = caps.map some)
    (hi:PI X tg iter wi) (hg:∀ s₀ H₀ C ex,PG (blk X (own ++ caps) sc cl s₀ H₀ C ex) tg g) (hc:∀ s₀ H₀ C ex,PT (blk X (own ++ caps) sc cl s₀ H₀ C ex) c tc) (he:∀ s₀ H₀ C ex,PE (blk X (own ++ caps) sc cl s₀ H₀ C ex) elt te)
    (hs:∀ x,foldedSetIterable iter X.env x = pure x:=by intro _; rfl):PE X (.ListComp elt [⟨tg,iter,[c],0⟩] sc pos) (tComp own.length κ wi g tc te) :=
  pe_compG hcalm S hκ hi hg (fun s₀ H₀ C ex pins s σ H Q I h => wpAny_tests_one (hc s₀ H₀ C ex pins s σ H Q I h)) he hs
end
end L2
namespace L2
open PySem PySem.Spec PyProof.Rows
section
variable {X:Cx}
theorem bootAll:bootBuiltins "all" = some (.builtin "all"):=by decide +kernel
theorem bootStr:bootBuiltins "str" = some (.type "str"):=by decide +kernel
theorem bootIsi:bootBuiltins "isinstance" = some (.builtin "isinstance"):=by decide +kernel
theorem bools_of:∀ {bs:List Bool} {us:List Value},Vals (bs.map V.bl) us → LSm.BoolsAre us bs
  | [],_,r => by cases r; exact .nil
  | b :: bs,_,r => by
    cases r with
    | cons r1 r2 =>
      cases r1
      exact .cons b (bools_of r2)
theorem call_allB (hc:X.calm = true):CallR X (.builtin "all") (fun xs H Q => ∃ (p:Addr) (bs:List Bool),xs = [.ref p] ∧ SqL X.K H p (bs.map V.bl) ∧ Q (.bl (bs.all id)) H):=by
  intro pins s σ H xs us Q I r h
  obtain ⟨p,bs,rfl,hq,q⟩:=h
  obtain ⟨u,rfl,rx⟩:=vals1 r
  cases rx
  obtain ⟨its,rv,pl,hz⟩:=I.list hq
  have hb:=bools_of rv
  have hlt:p < s.heap.objs.size:=by obtain ⟨_,e,_⟩:=pl.isList; exact Heap.lt_size e
  refine call_all_walk (wpAny_pyIter_list pl.isList ?_)
  refine ⟨s.heap.objs.size,[s.heap.objs.size,p],[s.heap.objs.size],its.toArray.size,_,_,fun i => (bs[i]?).getD true,rfl,Walks.list (A:=X.A.in1) (I.ok.hd hc) _ p (Nat.ne_of_lt hlt) its.toArray,
    ⟨⟨_,Heap.get?_push_size _ rfl,rfl,rfl⟩,pl.isList.push _⟩,fun i v s' Q' E' hP hQ => ?_,fun h' tk hk => ?_⟩
  · obtain ⟨b,e,rfl⟩:=hb.get i v (by simpa using hP)
    have hQ':Q' ((bs[i]?).getD true) s':=hQ
    rw [e] at hQ'
    exact wpAny_truthy_bool hQ'
  · have e:((List.range its.toArray.size).all fun i => (bs[i]?).getD true) = bs.all id:=by
      rw [List.size_toArray,hb.length]
      exact LSm.range_all bs
    rw [e]
    exact ⟨.bl (bs.all id),H,I.kept (LSm.kept_iter hk),rfl,q⟩
end
end L2
namespace L2
open PySem PySem.Spec PyProof.Rows
noncomputable def signsV (z:Str):List V:=z.cps.toList.map fun c => V.str ⟨#[c]⟩
theorem signsV_len (z:Str):(signsV z).length = z.length:=by simp [signsV,Str.length]
theorem signsV_get {z:Str} {i:Nat} {x:V}:(signsV z)[i]? = some x ↔ ∃ c,z.cps[i]? = some c ∧ x = .str ⟨#[c]⟩:=by
  unfold signsV
  rw [List.getElem?_map]
  have e:z.cps.toList[i]? = z.cps[i]?:=by simp
  rw [e]
  cases z.cps[i]? with
  | none => simp
  | some c => simp [eq_comm]
theorem its_go {z:Str} {H:Hp}:∀ i x,(signsV z)[i]? = some x → (Its z).go i H:=fun i x h => by
  have:=(List.getElem?_eq_some_iff.mp h).1
  rw [signsV_len] at this
  exact this
theorem its_yld {z:Str} {H:Hp}:∀ i x H',(Its z).yld i H x H' → H' = H ∧ (signsV z)[i]? = some x:=fun i x H' h => ⟨h.1,signsV_get.mpr h.2⟩
theorem its_stop {z:Str} {H:Hp}:(Its z).stop (signsV z).length H:=by
  rw [signsV_len]
  exact Nat.le_refl _
end L2
namespace L2
open PySem PySem.Spec PyProof.Rows
theorem comp_by {J:It} {xs:List V} {n:Nat} {κ:List Nat} {g:TG} {tc:TT} {te:TE} {σ:St} {H:Hp} {Q:VK} (Pv:Nat → List V → Hp → Prop) (h0:Pv 0 [] H) (hz:xs.length ≤ sizeLine) (hlen:∀ i ys H2,Pv i ys H2 → ys.length ≤ i)
    (hgo:∀ i x ys H2,xs[i]? = some x → Pv i ys H2 → J.go i H2) (hyl:∀ i ys x H2 H',i < xs.length → Pv i ys H2 → J.yld i H2 x H' → H' = H2 ∧ xs[i]? = some x) (hst:∀ ys H2,Pv xs.length ys H2 → J.stop xs.length H2)
    (hs:∀ i x ys H2 (N:List V → Hp → Prop),(∀ ys' H',Pv (i + 1) ys' H' → N ys' H') → xs[i]? = some x → Pv i ys H2 → g x (blkSt n κ σ) H2 fun σ4 H4 => σ4.drop n = (blkSt n κ σ).drop n ∧ tc σ4 H4 fun b H5 => if b = true then te σ4 H5 fun v H6 => N (ys ++ [v]) H6 else N ys H5)
    (hQ:∀ ys H2 D,Pv xs.length ys H2 → H2 D = none → Q (.ref D) (upd H2 D (.lst ys))) :
    CompRun n κ g tc te σ J H Q:=by
  refine ⟨fun i m ys H2 => m = xs.length - i ∧ i ≤ xs.length ∧ Pv i ys H2,⟨xs.length,rfl,Nat.zero_le _,h0⟩,?_⟩
  rintro i m ys H2 ⟨rfl,hi,p⟩
  by_cases hlt:i < xs.length
  · have e:xs[i]? = some xs[i]:=List.getElem?_eq_getElem hlt
    refine .inr ⟨hgo i _ ys H2 e p,Nat.lt_of_le_of_lt (hlen i ys H2 p) (Nat.lt_of_lt_of_le hlt hz),fun x H3 y => ?_⟩
    obtain ⟨rfl,ex⟩:=hyl i ys x H2 H3 hlt p y
    exact hs i x ys _ (fun ys' H' => ∃ m',m' < xs.length - i ∧ m' = xs.length - (i + 1) ∧ i + 1 ≤ xs.length ∧ Pv (i + 1) ys' H') (fun ys' H' p' => ⟨xs.length - (i + 1),by omega,rfl,hlt,p'⟩) ex p
  · obtain rfl:i = xs.length:=by omega
    exact .inl ⟨hst ys H2 p,fun D hD => hQ ys H2 D p hD⟩
section
variable {X:Cx}
theorem strs_of:∀ {ys:List Str} {us:List Value},Vals (ys.map V.str) us → StrsAre us ys
  | [],_,r => by cases r; exact .nil
  | y :: ys,_,r => by
    cases r with
    | cons r1 r2 =>
      obtain ⟨t,rfl⟩:=r1
      exact .cons y t (strs_of r2)
theorem mt_join:MtR X "str.join" (fun x vs H Q => ∃ sep p ys,x = .str sep ∧ vs = [.ref p] ∧ SqL X.K H p (ys.map V.str) ∧ (ys.map (·.length)).sum + ys.length * sep.length ≤ 16777216 ∧ Q (.str (Txt.join sep ys)) H):=by
  intro pins s σ H x xs v us Q I rx rv h
  obtain ⟨sep,p,ys,rfl,rfl,hq,hz,q⟩:=h
  obtain ⟨t,rfl⟩:=rx
  obtain ⟨u,rfl,ru⟩:=rv.one
  cases ru
  obtain ⟨its,r,pl,_⟩:=I.list hq
  exact join_list pl.isList (by simpa using strs_of r) hz fun t' k => ⟨.str _,H,I.tok _,⟨_,rfl⟩,q⟩
end
end L2
namespace L2
open PySem PySem.Spec PyProof.Rows
mutual
inductive Dat (K:PySem.W.Frag) (H:Hp):V → PyData → Prop
  | non:Dat K H .non .none
  | bl (b:Bool):Dat K H (.bl b) (.bool b)
  | int (i:Int):Dat K H (.int i) (.int i)
  | str (x:Str):Dat K H (.str x) (.str x)
  | tup {a:Addr} {xs:List V} {ds:List PyData}:SqT K H a xs → Dats K H xs ds → Dat K H (.ref a) (.tuple ds)
  | lst {a:Addr} {xs:List V} {ds:List PyData}:SqL K H a xs → Dats K H xs ds → Dat K H (.ref a) (.list ds)
inductive Dats (K:PySem.W.Frag) (H:Hp):List V → List PyData → Prop
  | nil:Dats K H [] []
  | cons {x:V} {d:PyData} {xs:List V} {ds:List PyData}:Dat K H x d → Dats K H xs ds → Dats K H (x :: xs) (d :: ds)
end
theorem Same.tup {K:PySem.W.Frag} {H H':Hp} {a:Addr} {xs:List V} (e:Same H H') (h:SqT K H a xs):SqT K H' a xs:=by
  rcases h with (h | ⟨o,h⟩) | h
  · exact .inl (.inl (e _ _ h))
  · exact .inl (.inr ⟨o,e _ _ h⟩)
  · exact .inr h
mutual
theorem Dat.same {K:PySem.W.Frag} {H H':Hp} (e:Same H H'):∀ {x:V} {d:PyData},Dat K H x d → Dat K H' x d
  | _,_,.non => .non
  | _,_,.bl b => .bl b
  | _,_,.int i => .int i
  | _,_,.str x => .str x
  | _,_,.tup h r => .tup (e.tup h) (Dats.same e r)
  | _,_,.lst h r => .lst (e.seq h) (Dats.same e r)
theorem Dats.same {K:PySem.W.Frag} {H H':Hp} (e:Same H H'):∀ {xs:List V} {ds:List PyData},Dats K H xs ds → Dats K H' xs ds
  | _,_,.nil => .nil
  | _,_,.cons h r => .cons (Dat.same e h) (Dats.same e r)
end
section
variable {X:Cx} {pins:List (Addr × Obj)} {σ:St} {H:Hp} {s:Shared}
mutual
theorem Dat.reads (I:Inv X pins σ H s):∀ {x:V} {d:PyData} {v:Value},Dat X.K H x d → RelV x v → ∃ as,Reads s.heap v d as
  | _,_,_,.non,r => by cases r; exact ⟨_,.none⟩
  | _,_,_,.bl b,r => by cases r; exact ⟨_,.bool b⟩
  | _,_,_,.int i,r => by obtain ⟨t,rfl⟩:=r; exact ⟨_,.int i t⟩
  | _,_,_,.str x,r => by obtain ⟨t,rfl⟩:=r; exact ⟨_,.str x t⟩
  | _,_,_,.tup hq ds,r => by
    cases r
    obtain ⟨its,rv,p,_⟩:=I.tuple hq
    obtain ⟨as,q⟩:=Dats.reads I ds rv
    obtain ⟨o,e,c,n,dt⟩:=p
    exact ⟨as,.tuple e c dt (by simpa using q)⟩
  | _,_,_,.lst hq ds,r => by
    cases r
    obtain ⟨its,rv,p,_⟩:=I.list hq
    obtain ⟨as,q⟩:=Dats.reads I ds rv
    obtain ⟨o,n,e,c,_,dt⟩:=p
    exact ⟨_,.list e c dt (by simpa using q)⟩
theorem Dats.reads (I:Inv X pins σ H s):∀ {xs:List V} {ds:List PyData} {vs:List Value},Dats X.K H xs ds → Vals xs vs → ∃ as,ReadsAll s.heap vs ds as
  | _,_,_,.nil,r => by cases r; exact ⟨_,.nil⟩
  | _,_,_,.cons h t,r => by
    cases r with
    | cons r1 r2 =>
      obtain ⟨as,q⟩:=Dat.reads I h r1
      obtain ⟨bs,q2⟩:=Dats.reads I t r2
      exact ⟨_,.cons q q2⟩
end
end
section
variable {X:Cx}
noncomputable def rEqD (K:PySem.W.Frag) (neg:Bool):R2:=fun x y H Q => ∃ dx dy,Dat K H x dx ∧ Dat K H y dy ∧ SeqAt.shaped dx = true ∧ SeqAt.shaped dy = true ∧ Q (.bl (if neg then !PyData.eqv dx dy else PyData.eqv dx dy)) H
theorem op_eqD (hu:X.A.units + 64 < cLine):OpR X (compareOp .Eq) (rEqD X.K false):=by
  intro pins s σ H x y v u Q I rx ry h
  obtain ⟨dx,dy,hx,hy,sx,sy,q⟩:=h
  obtain ⟨as,ra⟩:=Dat.reads I hx rx
  obtain ⟨bs,rb⟩:=Dat.reads I hy ry
  exact eq_dataH ra rb sx sy hu ⟨.bl _,H,I,rfl,q⟩
theorem op_neD (hu:X.A.units + 64 < cLine):OpR X (compareOp .NotEq) (rEqD X.K true):=by
  intro pins s σ H x y v u Q I rx ry h
  obtain ⟨dx,dy,hx,hy,sx,sy,q⟩:=h
  obtain ⟨as,ra⟩:=Dat.reads I hx rx
  obtain ⟨bs,rb⟩:=Dat.reads I hy ry
  exact ne_dataH ra rb sx sy hu ⟨.bl _,H,I,rfl,q⟩
end
end L2
namespace L2
open PySem PySem.Spec PyProof.Rows
section
variable {X:Cx}
theorem canLayAll_mem {ds:List PyData} (h:PyData.canLayAll0 ds = true) {d:PyData} (hd:d ∈ ds):d.canLay0 = true:=PyData.canLay0_of_mem ds d h hd
theorem readsAll_get {h:Heap}:∀ {vs:List Value} {ds:List PyData} {as:List Addr},ReadsAll h vs ds as → ∀ v ∈ vs,∃ d ∈ ds,∃ bs,Reads h v d bs
  | _,_,_,.nil,v,hv => nomatch hv
  | _,_,_,.cons r t,v,hv => by
    rcases List.mem_cons.mp hv with rfl | hv
    · exact ⟨_,List.mem_cons_self,_,r⟩
    · obtain ⟨d,hd,bs,q⟩:=readsAll_get t v hv
      exact ⟨d,List.mem_cons_of_mem _ hd,bs,q⟩
open Classical in
noncomputable def eqAtD (h:Heap) (d:PyData) (v:Value):Bool:=if q:∃ e,∃ bs,Reads h v e bs then PyData.eqv q.choose d else false
theorem eqAtD_of {h:Heap} {d e:PyData} {v:Value} {as:List Addr} (hl:e.canLay0 = true) (r:Reads h v e as):eqAtD h d v = PyData.eqv e d:=by
  unfold eqAtD
  have q:∃ e,∃ bs,Reads h v e bs:=⟨e,as,r⟩
  rw [dif_pos q]
  obtain ⟨bs,r2⟩:=q.choose_spec
  rw [SeqAt.Reads.unique e _ v as bs hl r r2]
theorem any_eqAtD {h:Heap} {d:PyData}:∀ {vs:List Value} {ds:List PyData} {as:List Addr},ReadsAll h vs ds as → PyData.canLayAll0 ds = true → vs.any (eqAtD h d) = ds.any fun e => PyData.eqv e d
  | _,_,_,.nil,_ => rfl
  | _,_,_,.cons (d:=e) (ds:=es) r t,hl => by
    have hl':e.canLay0 = true ∧ PyData.canLayAll0 es = true:=by simpa only [PyData.canLayAll0,Bool.and_eq_true] using hl
    rw [List.any_cons,List.any_cons,eqAtD_of hl'.1 r,any_eqAtD t hl'.2]
noncomputable def rInD (K:PySem.W.Frag) (neg:Bool):R2:=fun x y H Q => ∃ p xs ds d,y = .ref p ∧ SqL K H p xs ∧ Dats K H xs ds ∧ Dat K H x d ∧ PyData.canLayAll0 ds = true ∧ d.canLay0 = true ∧ d.depth ≤ 60 ∧
  Q (.bl (if neg then !(ds.any fun e => PyData.eqv e d) else ds.any fun e => PyData.eqv e d)) H
theorem inD_items (hu:X.A.units + 64 < cLine) {pins:List (Addr × Obj)} {σ:St} {H:Hp} {s:Shared} {x:V} {v:Value} {p:Addr} {xs:List V} {ds:List PyData} {d:PyData} (I:Inv X pins σ H s) (rx:RelV x v)
    (hq:SqL X.K H p xs) (hds:Dats X.K H xs ds) (hd:Dat X.K H x d) (hl:PyData.canLayAll0 ds = true) (hl2:d.canLay0 = true) (hdp:d.depth ≤ 60) :
    ∃ its:List Value,PlainL s.heap p its.toArray ∧ (∀ y,y ∈ its.toArray → SeqAt.EqAt X.A.in1 s y v (eqAtD s.heap d y)) ∧ its.toArray.any (eqAtD s.heap d) = ds.any fun e => PyData.eqv e d:=by
  obtain ⟨its,rv,pl,_⟩:=I.list hq
  obtain ⟨as,ra⟩:=Dats.reads I hds rv
  obtain ⟨bs,rb⟩:=Dat.reads I hd rx
  refine ⟨its,pl,fun y hy => ?_,?_⟩
  · obtain ⟨e,he,cs,re⟩:=readsAll_get ra y (by simpa using hy)
    have hle:=canLayAll_mem hl he
    rw [eqAtD_of hle re]
    refine SeqAt.eqAt_reads e d X.A.in1 s y v cs bs re rb hle hl2 ?_
    have h1:min e.depth d.depth ≤ d.depth:=Nat.min_le_right _ _
    have h2:X.A.in1.units ≤ X.A.units + 1:=by first | exact Nat.le_refl _ | (show X.A.units + 1 ≤ X.A.units + 1; exact Nat.le_refl _) | (show X.A.units ≤ X.A.units + 1; exact Nat.le_succ _)
    omega
  · rw [show its.toArray.any (eqAtD s.heap d) = its.any (eqAtD s.heap d) by simp]
    exact any_eqAtD ra hl
theorem op_inD (hu:X.A.units + 64 < cLine):OpR X (compareOp .In) (rInD X.K false):=by
  intro pins s σ H x y v u Q I rx ry h
  obtain ⟨p,xs,ds,d,rfl,hq,hds,hd,hl,hl2,hdp,q⟩:=h
  cases ry
  obtain ⟨its,pl,he,ea⟩:=inD_items hu I rx hq hds hd hl hl2 hdp
  refine SeqAt.in_listAt (eqAtD s.heap d) pl.isList he ⟨.bl _,H,I,rfl,?_⟩
  rw [ea]
  exact q
end
end L2
namespace L2
open PySem PySem.Spec PyProof.Rows
section
variable {prog:Program} {w:World} {A:Around} {E:Value → Shared → Prop} {s:Shared}
end
end L2
namespace L2
open PySem PySem.Spec PyProof.Rows
section
variable {X:Cx}
end
end L2
namespace Kk
open PySem L2
inductive Kd where
  | num (n:Int)
  | name (q t:Str)
  | pair (a b:Kd)
  deriving DecidableEq
noncomputable def Kd.words:Kd → Nat
  | .num _ => 1
  | .name _ _ => 1
  | .pair a b => 1 + a.words + b.words
noncomputable def Kd.leaves:Kd → List Kd
  | .num n => [.num n]
  | .name q t => [.name q t]
  | .pair a b => a.leaves ++ b.leaves
noncomputable def Kd.leaf:Kd → Bool
  | .pair _ _ => false
  | _ => true
inductive KdAt (K:PySem.W.Frag) (H:Hp):V → Kd → Prop
  | num {a:Addr} {n:Int}:SqT K H a [.str "num",.int n] → KdAt K H (.ref a) (.num n)
  | name {a:Addr} {q t:Str}:SqT K H a [.str "name",.str q,.str t] → KdAt K H (.ref a) (.name q t)
  | pair {a:Addr} {x y:V} {k l:Kd}:SqT K H a [.str "pair",x,y] → KdAt K H x k → KdAt K H y l → KdAt K H (.ref a) (.pair k l)
end Kk
namespace L2
open PySem PySem.Spec PyProof.Rows
section
variable {α β:Type} {P:Shared → Prop}
noncomputable def Keeps (P:Shared → Prop) (t:Sem α):Prop:=∀ (M:Model) (Γ:PySem.Ctx) (Q:α → Pos → Shared → Prop) (E:Value → Pos → Shared → Prop) (p:Pos) (s:Shared),P s → Sem.wp M Γ t Q E p s →
  Sem.wp M Γ t (fun a p' s' => Q a p' s' ∧ P s') (fun e p' s' => E e p' s' ∧ P s') p s
theorem Keeps.ret (a:α):Keeps P (Pure.pure a:Sem α):=fun _ _ _ _ _ _ h q => ⟨q,h⟩
theorem Keeps.no (x:String):Keeps P (unsupported x:Sem α):=fun _ _ _ _ _ _ _ q => False.elim q
theorem Keeps.then {m:Sem α} {f:α → Sem β} (hm:Keeps P m) (hf:∀ a,Keeps P (f a)):Keeps P (m >>= f):=fun M Γ Q E p s h q => by
  rw [Sem.wp_bind'] at q ⊢
  exact Sem.wp_mono M Γ m (fun a p' s' z => hf a M Γ Q E p' s' z.2 z.1) (fun _ _ _ z => z) p s (hm M Γ _ E p s h q)
theorem Keeps.ld (a:Addr):Keeps P (load a):=fun _ _ _ _ _ _ h ⟨o,e,q⟩ => ⟨o,e,q,h⟩
theorem Keeps.stk:Keeps P stack:=fun _ _ _ _ _ _ h q => ⟨q,h⟩
theorem Keeps.ite {c:Prop} [Decidable c] {a b:Sem α} (ha:Keeps P a) (hb:Keeps P b):Keeps P (if c then a else b):=by split <;> assumption
theorem Keeps.wpAny {t:Sem α} (k:Keeps P t) {M:Model} {A:Around} {Q:α → Shared → Prop} {E:Value → Shared → Prop} {s:Shared} (hp:P s) (h:wpAny M A t Q E s):wpAny M A t (fun a s' => Q a s' ∧ P s') (fun e s' => E e s' ∧ P s') s :=
  fun Γ p hΓ => k M Γ _ _ p s hp (h Γ p hΓ)
noncomputable def DictIs (x:Addr) (d:Option Addr) (s:Shared):Prop:=∃ ob,s.heap.get? x = some ob ∧ ob.dict = d
variable {x:Addr} {d:Option Addr}
theorem Keeps.up {a:Addr} {f:Obj → Obj} (hf:∀ o:Obj,o.isFreed = false → (f o).dict = o.dict ∧ (f o).isFreed = false):Keeps (DictIs x d) (update a f):=fun _ _ _ _ _ s h q => by
  refine ⟨q.1,q.2,?_⟩
  obtain ⟨ob,e,hd⟩:=h
  have hfr:=(Heap.get?_some_iff.mp e).2
  by_cases hx:a = x
  · subst hx
    exact ⟨_,Heap.get?_update_self f e (hf ob hfr).2,(hf ob hfr).1.trans hd⟩
  · exact ⟨ob,(Heap.get?_update_other _ f hx).trans e,hd⟩
theorem Keeps.new {o:Obj}:Keeps (DictIs x d) (alloc o):=fun _ _ _ _ _ s h q => by
  obtain ⟨ob,e,hd⟩:=h
  exact ⟨q,ob,Heap.get?_push_of_some _ e,hd⟩
theorem Keeps.flds {v:Value}:Keeps P (fieldsOf v):=by
  unfold fieldsOf
  split
  · refine Keeps.then (Keeps.ld _) fun o => ?_
    split
    · exact Keeps.ret _
    · exact Keeps.no _
  · exact Keeps.no _
theorem Keeps.fld {v:Value} {i:Nat}:Keeps P (field v i):=by
  unfold field
  refine Keeps.then Keeps.flds fun vs => ?_
  split
  · exact Keeps.ret _
  · exact Keeps.no _
theorem Keeps.setF {v u:Value} {i:Nat}:Keeps (DictIs x d) (setField v i u):=by
  unfold setField
  split
  · unfold updateField
    refine Keeps.then (Keeps.ld _) fun o => ?_
    split
    · refine Keeps.ite (Keeps.up fun o ho => ?_) (Keeps.no _)
      obtain ⟨c,dd,dt,sl⟩:=o
      cases dt <;> exact ⟨rfl,ho⟩
    · exact Keeps.no _
  · exact Keeps.no _
theorem Keeps.flight {e:Value} {f:Option Addr}:Keeps (DictIs x d) (setFlight e f):=by
  unfold setFlight
  exact Keeps.then Keeps.fld fun tb => Keeps.ite Keeps.setF (Keeps.ret _)
theorem Keeps.ready:∀ l:List Env,Keeps (DictIs x d) (readyFrames l)
  | [] => Keeps.ret _
  | env :: outer => by
    unfold readyFrames
    split
    · refine Keeps.then (Keeps.ld _) fun o => Keeps.ite (Keeps.ret _) (Keeps.then ?_ fun im => Keeps.then ?_ fun bk => Keeps.then (Keeps.up fun o ho => ⟨rfl,by obtain ⟨c,dd,dt,sl⟩:=o; cases dt <;> first | rfl | exact ho⟩) fun _ => Keeps.ready outer)
      · unfold behindIsImport
        exact Keeps.ite (Keeps.ret _) (Keeps.ite (Keeps.ret _) (Keeps.then Keeps.fld fun _ => Keeps.ret _))
      · cases outer with
        | nil =>
          unfold keptBack
          refine Keeps.ite (Keeps.ret _) (Keeps.then ?_ fun _ => Keeps.ret _)
          unfold underTheClaimsCaller
          exact Keeps.then Keeps.stk fun _ => Keeps.ret _
        | cons c r => exact Keeps.ret _
    · exact Keeps.no _
theorem Keeps.frame {env:Env}:Keeps (DictIs x d) (PySem.frameOf env):=by
  unfold PySem.frameOf
  refine Keeps.then (Keeps.then Keeps.stk fun _ => Keeps.ret _) fun l => Keeps.then ?_ fun r => ?_
  · generalize l.dropWhile (fun y => y.frame != env.frame) = l2
    cases l2 with
    | nil => exact Keeps.ret _
    | cons e r => exact Keeps.then (Keeps.ready (e :: r)) fun _ => Keeps.ret _
  · split
    · exact Keeps.ret _
    · exact Keeps.no _
theorem Keeps.entry {a b c e f:Value} {pl:List Value}:Keeps (DictIs x d) (EntryCells.newEntry a b c e f pl):=by
  unfold EntryCells.newEntry newFields newObj
  have st:∀ (dt:Data) (dd:Option Addr),Keeps (DictIs x d) (newObjAsIs (.type "traceback") dt dd):=fun dt dd => by
    unfold newObjAsIs
    exact Keeps.then Keeps.new fun a => Keeps.ret _
  exact Keeps.ite (Keeps.then (Keeps.no _) fun _ => st _ _) (st _ _)
theorem Keeps.note {e:Value} {env:Env}:Keeps (DictIs x d) (noteFrame e env):=by
  unfold noteFrame
  split
  · rename_i fr _
    refine Keeps.then Keeps.fld fun hd => ?_
    have go:Keeps (DictIs x d) (do setField e 1 (← EntryCells.newEntry hd (← PySem.frameOf env) .none (rawInt fr) .none (← entryPlaceOf fr (hd != .none)))) :=
      Keeps.then Keeps.frame fun _ => Keeps.then (by
        unfold entryPlaceOf
        refine Keeps.then Keeps.stk fun _ => ?_
        split
        · exact Keeps.ret _
        · exact Keeps.ret _) fun _ => Keeps.then Keeps.entry fun _ => Keeps.setF
    exact Keeps.ite (Keeps.then Keeps.fld fun _ => Keeps.ite (Keeps.ret _) (Keeps.then Keeps.setF fun _ => go)) go
  · exact Keeps.no _
theorem Keeps.leave {e:Value} {env:Env}:Keeps (DictIs x d) (leaving env e):=by
  unfold leaving
  exact Keeps.then Keeps.note fun _ => Keeps.flight
end
end L2
namespace L2
open PySem PySem.Spec PyProof.Rows
section
variable {P:Program} {w:World}
theorem ObjOk.there {H:Hp} {h:Heap} {a:Addr} {o:HO} (x:ObjOk P w H h a o):∃ u,h.get? a = some u:=by
  cases o with
  | lst xs => obtain ⟨_,_,_,_,e⟩:=x; exact ⟨_,e⟩
  | tup xs => obtain ⟨_,_,_,ob,e,_⟩:=x; exact ⟨_,e⟩
  | dK kvs => obtain ⟨_,_,_,_,o,_,_,e,_⟩:=x; exact ⟨_,e⟩
  | dT kvs => obtain ⟨_,_,_,_,o,_,_,e,_⟩:=x; exact ⟨_,e⟩
  | set S n => obtain ⟨o,_,_,_,e,_⟩:=x; exact ⟨_,e⟩
  | ins C dx fs => obtain ⟨_,_,_,e,_⟩:=x; exact ⟨_,e⟩
  | own y => exact x
  | xd fs => obtain ⟨_,⟨_,_,_,e,_⟩,_⟩:=x; exact ⟨_,e⟩
  | rng lo hi => obtain ⟨_,_,_,e⟩:=x; exact ⟨_,e⟩
  | frz ob u => obtain ⟨e,_⟩:=x; exact ⟨_,e⟩
  | tbl ps => exact ⟨_,(show h.get? a = some _ from x)⟩
  | met f y => exact ⟨_,(show h.get? a = some _ from x)⟩
  | ext φ => obtain ⟨_,e,_⟩:=x; exact e
structure Fly (P:Program) (w:World) (outer:List Env) (H:Hp) (s:Shared) (x:Addr) (cls:Value) (H':Hp) (s':Shared):Prop where
  os:s'.os = s.os
  bare:AllBare s'.gens
  un:Un (frs outer) [] H H' s.heap s'.heap
  hok:HOk P w H' s'.heap
  fl:∃ B a0,Heap.FlyingW B outer x cls a0 s'.heap ∧ (∀ b o,H' b = some o → ∃ u,B.get? b = some u) ∧ ∀ b o,s.heap.get? b = some o → b ∉ frs outer → ∃ u,B.get? b = some u
  free:H' x = none
noncomputable def CX1 (P:Program) (w:World):CXT:=fun outer H s E e s' => ∃ x cls d H',e = .ref x ∧ Fly P w outer H s x cls H' s' ∧ DictIs x d s' ∧ E cls d H'
end
section
variable {X:Cx} {pins:List (Addr × Obj)} {σ:St} {H H':Hp} {s s':Shared} {x:Addr} {cls:Value} {E:Value → Shared → Prop} {Q:Unit → Shared → Prop}
theorem Inv.notSt (I:Inv X pins σ H s) {b:Addr} (h1:b ≠ X.env.locals) (h2:b ∉ X.fs):b ∉ frs X.stack:=fun z => (List.mem_cons.mp (I.stkSub b z)).elim h1 h2
theorem Inv.oldL (I:Inv X pins σ H s) {b:Addr} {o:Obj} (e:X.s₀.heap.get? b = some o):b ≠ X.env.locals:=Nat.ne_of_lt (Nat.lt_of_lt_of_le (Heap.lt_size e) I.ok.above)
theorem Fly.leave (I:Inv X pins σ H s) (hst:X.stack = X.env :: X.outer) (hfr:X.env.frame = some X.env.locals) (hex:X.ex = []) (f:Fly X.prog X.w X.stack H s x cls H' s') {d:Option Addr} (hdi:DictIs x d s')
    (hQ:∀ s'',Fly X.prog X.w X.outer X.H₀ X.s₀ x cls H' s'' → DictIs x d s'' → Q () s''):wpAny (model X.prog X.w) X.A (leaving X.env (.ref x)) Q E s':=by
  refine wpAny_mono (Keeps.leave.wpAny (E:=E) (Q:=fun _ s'' => Fly X.prog X.w X.outer X.H₀ X.s₀ x cls H' s'') hdi ?_) (fun _ s'' z => hQ s'' z.1 z.2) fun _ _ z => z.1
  obtain ⟨B,a0,fl,c1,c2⟩:=f.fl
  rw [hst] at fl
  have nx:∀ b:Addr,b ∉ X.ex:=fun b => by rw [hex]; simp
  refine wpAny_leaves_onW (by rw [I.ok.frames,hst]) hfr fl fun h' fl' up => ?_
  have st:∀ b o,B.get? b = some o → h'.get? b = some o:=fl'.1
  have same:∀ b u v,B.get? b = some u → s'.heap.get? b = some v → u = v:=fun b u v h1 h2 => by
    have h3:=fl.1 b u h1
    rw [h2] at h3
    exact (Option.some.inj h3).symm
  have slot:∀ b o,X.s₀.heap.get? b = some o → X.H₀ b = none → b ∈ X.fs → ∃ sl,h'.get? b = some { o with slots:=sl }:=fun b o e n hb => by
    obtain ⟨sl,e1⟩:=I.base.slot b o e n hb (nx b)
    obtain ⟨sl2,e2⟩:=f.un.any e1 (I.base.free b o e n (nx b)) (by simp)
    obtain ⟨_,of,ho,hnf⟩:=I.ok.funs.mem hb
    rw [e] at ho
    cases ho
    obtain ⟨sl3,e3⟩:=up b _ e2 hnf
    exact ⟨sl3,e3⟩
  refine ⟨f.os.trans I.os,f.bare,⟨fun b o e n hb _ => ?_,fun b o e n hb _ => slot b o e n hb,fun b o e n _ => ?_,fun b o e _ => ?_,fun b xs e => f.un.tups b xs (I.base.tups b xs e),fun b o u e => f.un.frzs b o u (I.base.frzs b o u e),fun b ps e => ?_⟩,fun a o e => ?_,⟨B,a0,fl',c1,fun b o e hb => ?_⟩,f.free⟩
  · have e1:=I.base.keep b o e n hb (nx b)
    have n1:=I.base.free b o e n (nx b)
    have hb':=I.notSt (I.oldL e) hb
    have e2:=f.un.keep b o e1 n1 hb' (by simp)
    obtain ⟨u,hu⟩:=c2 b o e1 hb'
    exact same b u o hu e2 ▸ st b u hu
  · obtain ⟨o',e1⟩:=I.base.there b o e (nx b)
    exact f.un.free b o' e1 (I.base.free b o e n (nx b)) (by simp)
  · by_cases hb:b ∈ X.fs
    · obtain ⟨sl,e1⟩:=slot b o e (I.ok.frf b hb) hb
      exact ⟨_,e1⟩
    · obtain ⟨o',e1⟩:=I.base.there b o e (nx b)
      obtain ⟨u,hu⟩:=c2 b o' e1 (I.notSt (I.oldL e) hb)
      exact ⟨u,st b u hu⟩
  · obtain ⟨m1,e1⟩:=I.base.tbls b ps e
    obtain ⟨m2,e2⟩:=f.un.tbls b _ e1
    exact ⟨m1 ++ m2,by rw [e2,Array.append_assoc]⟩
  · refine (f.hok a o e).stay (fun b u hb q => ?_) (fun _ q => q) fun _ _ q => q
    have t:∃ o',H' b = some o':=by
      rcases hb with z | z
      · exact ⟨o,by rw [z]; exact e⟩
      · exact ⟨_,z⟩
    obtain ⟨o',e'⟩:=t
    obtain ⟨v,hv⟩:=c1 b o' e'
    exact same b v u hv q ▸ st b v hv
  · obtain ⟨o',e1⟩:=I.base.there b o e (nx b)
    exact c2 b o' e1 (I.notSt (I.oldL e) hb)
theorem Fly.first {oe:Obj} {vs:Array Value} {a0:Value} (I:Inv X pins σ H s) (hst:X.stack = X.env :: X.outer) (hfr:X.env.frame = some X.env.locals) (hex:X.ex = []) (hx:s.heap.get? x = some oe) (hcl:oe.cls = cls) (hdt:oe.data = .fields vs)
    (h1:vs[1]? = some .none) (h0:vs[0]? = some a0) (hn:X.s₀.heap.get? x = none) (hH:H x = none)
    (hQ:∀ s'',Fly X.prog X.w X.outer X.H₀ X.s₀ x cls H s'' → DictIs x oe.dict s'' → Q () s''):wpAny (model X.prog X.w) X.A (leaving X.env (.ref x)) Q E s:=by
  have nx:∀ b:Addr,b ∉ X.ex:=fun b => by rw [hex]; simp
  refine wpAny_mono (Keeps.leave.wpAny (E:=E) (Q:=fun _ s'' => Fly X.prog X.w X.outer X.H₀ X.s₀ x cls H s'') ⟨oe,hx,rfl⟩ ?_) (fun _ s'' z => hQ s'' z.1 z.2) fun _ _ z => z.1
  have hl:s.heap.FunFrames (PySem.W.hideAll s.heap (x :: frs X.stack)) (X.env :: X.outer) :=
    PySem.W.funFrames_hide (base:=X.base) (by rw [← hst]; exact I.stack) fun env he a hf => by
      rw [hst]
      exact .tail _ (List.mem_filterMap.mpr ⟨env,he,hf⟩)
  have hen:(PySem.W.hideAll s.heap (x :: frs X.stack)).get? x = none:=PySem.W.hideAll_none _ (.head _)
  refine wpAny_leaving_firstW (a0:=a0) (by rw [I.ok.frames,hst]) hl hfr hx (fun b o q => PySem.W.of_hideAll _ q) hen hdt h1 h0 fun h' hL => ?_
  obtain ⟨k1,⟨_,_,k2⟩,k3,up⟩:=hL
  rw [hcl] at k3
  have st:∀ b o,s.heap.get? b = some o → b ∉ frs X.stack → b ≠ x → h'.get? b = some o:=fun b o e hb hbx => k1 b o (PySem.W.hideAll_get _ e fun z => (List.mem_cons.mp z).elim hbx hb)
  have old:∀ b o,X.s₀.heap.get? b = some o → b ≠ x:=fun b o e z => by rw [z,hn] at e; cases e
  have slot:∀ b o,X.s₀.heap.get? b = some o → X.H₀ b = none → b ∈ X.fs → ∃ sl,h'.get? b = some { o with slots:=sl }:=fun b o e n hb => by
    obtain ⟨sl,e1⟩:=I.base.slot b o e n hb (nx b)
    obtain ⟨_,of,ho,hnf⟩:=I.ok.funs.mem hb
    rw [e] at ho
    cases ho
    obtain ⟨sl3,e3⟩:=up b _ e1 hnf
    exact ⟨sl3,e3⟩
  have trk:∀ b o,H b = some o → b ∉ frs X.stack ∧ b ≠ x:=fun b o e => ⟨fun z => (by rw [I.stkFree b z] at e; cases e),fun z => (by rw [z,hH] at e; cases e)⟩
  refine ⟨I.os,I.bare,⟨fun b o e n hb _ => st b o (I.base.keep b o e n hb (nx b)) (I.notSt (I.oldL e) hb) (old b o e),fun b o e n hb _ => slot b o e n hb,fun b o e n _ => I.base.free b o e n (nx b),fun b o e _ => ?_,I.base.tups,I.base.frzs,I.base.tbls⟩,fun a o e => ?_,⟨_,_,⟨k1,hen,k2,k3⟩,fun b o e => ?_,fun b o e hb => ?_⟩,hH⟩
  · by_cases hb:b ∈ X.fs
    · obtain ⟨sl,e1⟩:=slot b o e (I.ok.frf b hb) hb
      exact ⟨_,e1⟩
    · obtain ⟨o',e1⟩:=I.base.there b o e (nx b)
      exact ⟨o',st b o' e1 (I.notSt (I.oldL e) hb) (old b o e)⟩
  · refine (I.hok a o e).stay (fun b u hb q => ?_) (fun _ q => q) fun _ _ q => q
    have hb':∃ o',H b = some o':=by
      rcases hb with z | z
      · exact ⟨o,by rw [z]; exact e⟩
      · exact ⟨_,z⟩
    obtain ⟨o',e'⟩:=hb'
    exact st b u q (trk b o' e').1 (trk b o' e').2
  · obtain ⟨u,hu⟩:=(I.hok b o e).there
    exact ⟨u,PySem.W.hideAll_get _ hu fun z => (List.mem_cons.mp z).elim (trk b o e).2 (trk b o e).1⟩
  · obtain ⟨o',e1⟩:=I.base.there b o e (nx b)
    exact ⟨o',PySem.W.hideAll_get _ e1 fun z => (List.mem_cons.mp z).elim (old b o e) (I.notSt (I.oldL e) hb)⟩
theorem Fly.made {h1:Heap} {vs:List Value} (I:Inv X pins σ H s) (hst:X.stack = X.env :: X.outer) (hfr:X.env.frame = some X.env.locals) (hex:X.ex = []) (hx:Heap.MadeExcOf s.heap h1 x cls vs)
    (hQ:∀ s'',Fly X.prog X.w X.outer X.H₀ X.s₀ x cls H s'' → DictIs x none s'' → Q () s''):wpAny (model X.prog X.w) X.A (leaving X.env (.ref x)) Q E { s with heap:=h1 }:=by
  obtain ⟨t,he,_,_⟩:=hx.there
  have I1:Inv X pins σ H { s with heap:=h1 }:=I.kept hx.keeps
  refine Fly.first I1 hst hfr hex he rfl rfl rfl rfl ?_ ?_ hQ
  · cases q:X.s₀.heap.get? x with
    | none => rfl
    | some o =>
      obtain ⟨u,hu⟩:=I.base.there x o q (by rw [hex]; simp)
      have:=hx.new
      rw [hu] at this
      cases this
  · cases q:H x with
    | none => rfl
    | some o =>
      obtain ⟨u,hu⟩:=(I.hok x o q).there
      have:=hx.new
      rw [hu] at this
      cases this
end
section
variable {P:Program} {w:World} {K:PySem.W.Frag} {mg:Str → Option Value} {base:Heap} {N:List Str} {qual:Str} {scope:Scope} {f:Addr} {cd:Value} {A:Around} {outer:List Env} {s:Shared} {H:Hp} {E:XK}
theorem pass1:Passes (CX1 P w) (cxOf (CX1 P w) P w K mg base N qual scope f cd A outer s H E) E:=fun pins σ H1 s1 e s' I h => by
  obtain ⟨x,cls,d,H',rfl,fl,hd,hE⟩:=h
  exact Fly.leave I rfl rfl rfl fl hd fun s'' g gd => ⟨x,cls,d,H',rfl,g,gd,hE⟩
end
theorem ownExc_of {K:PySem.W.Frag} {h:Heap} {mg:Str → Option Value} {c:Str} {C:Addr} {bmB:List Value} {newId:String} (kin:K.In h) (hm:mg c = some (.ref C)) (q:PySem.W.excIn K C bmB newId = true):OwnCls c C bmB newId mg h:=by
  refine ⟨hm,?_⟩
  unfold PySem.W.excIn at q
  split at q
  next ddx cdx slx look =>
    split at q
    next C2 tl z0 z1 z2 z3 nn z5 hmro hsl =>
      simp only [Bool.not_eq_true',Bool.and_eq_true,beq_iff_eq] at q
      obtain ⟨⟨⟨⟨⟨e1,e2⟩,hdel⟩,htl⟩,hok⟩,hni⟩:=q
      obtain ⟨nm,bs,mro,ns,qn,hd,sn,sub,ab,col,del⟩:=cdx
      obtain ⟨sll⟩:=slx
      dsimp only at hmro hdel hok hni hsl
      subst e1 e2 hmro hdel hsl
      exact ⟨tl,ns,nm,qn,bs,hd,sn,sub,ab,col,ddx,z0,z1,z2,z3,z5,_,kin _ _ look,.of_isNs (PySem.W.isNs_of_in kin hok),PySem.W.nsMap_none_of_in kin hok hni,PySem.W.tail_of_in kin htl⟩
    next => cases q
  next => cases q
noncomputable abbrev bmVE:List Value:=[.type "ValueError",.type "Exception",.type "BaseException",.type "object"]
theorem ps_raise {X:Cx} {c:Str} {C:Addr} {e₀:Expr} {es:List Expr} {np cpos pos:Pos} {ta:TA} {W:St → Hp → Prop} (hc:X.calm = true) (hg:Gl X c) (hm:X.mg c = some (.ref C)) (q:PySem.W.excIn X.K C bmVE "ValueError.__new__" = true)
    (ha:PA X (e₀ :: es) ta) (hW:∀ (pins:List (Addr × Obj)) (σ:St) (H:Hp) (s:Shared) (e:Addr) (h1:Heap) (vs:List Value),Inv X pins σ H s → W σ H → Heap.MadeExcOf s.heap h1 e (.ref C) vs → X.xe (.ref e) { s with heap:=h1 })
    (hd:(c == ("__debug__":Str)) = false:=by decide) (he:starEach (e₀ :: es) X.env = (false,eval e₀ X.env) :: starEach es X.env:=by rfl) (hpl:(backTo cpos (starEach es X.env)).any (·.1) = false:=by rfl) :
    PS X (.Raise (some (.Call (.Name c np) (e₀ :: es) [] cpos)) none pos) (fun _ σ H => ta σ H fun vs H1 => vs.length ≤ sizeLine ∧ W σ H1):=by
  intro pins s σ H D I h
  obtain ⟨tl,N,nm,qq,bs,hdct,sn,sub,ab,col,dd,k0,k1,k2,k3,k5,mN,hC,hN,hni,T⟩:=(ownExc_of I.mod.kin hm q).obj
  refine wpAny_Raise_call_subU (C:=C) (nm:=nm) (q:=qq) (N:=N) (bs:=bs) (bm:=tl) (hdct:=hdct) (sn:=sn) (sub:=sub) (ab:=ab) (col:=col) (dd:=dd) (k0:=k0) (k1:=k1) (k2:=k2) (k3:=k3) (k5:=k5)
    PySem.F.excBase_ValueError (by decide +kernel) PySem.F.excBase_ValueError (mN:=mN) (T.hasType PySem.F.excBase_ValueError.hasBase) (I.ok.hd hc) ?_ hni (ld_glob I hg hm ⟨rfl,?_⟩ hd)
  · rw [he]
    show (false || (backTo cpos (starEach es X.env)).any (·.1)) = false
    rw [hpl]
    rfl
  · have h2:=ha cpos pins s σ H _ I h
    rw [he] at h2 ⊢
    refine Calls.evalArgs_plain (wpAny_mono h2 (fun us s2 ⟨vs,H1,I1,rv,hl,hw⟩ => ⟨rfl,?_,I1.bk _ _ hC,hN.keeps I1.bk,T.keeps I1.bk,fun h' e hx => hW pins σ H1 s2 e h' us I1 hw hx⟩) fun _ _ z => z)
    rw [← rv.length]
    exact hl
section
variable {P:Program} {w:World} {K:PySem.W.Frag} {mg:Str → Option Value} {base:Heap}
theorem ps_raise1 {N:List Str} {qual:Str} {scope:Scope} {f:Addr} {cd:Value} {A:Around} {outer:List Env} {s:Shared} {H:Hp} {E:XK} {c:Str} {C:Addr} {e₀:Expr} {es:List Expr} {np cpos pos:Pos} {ta:TA}
    (hg:Gl (cxOf (CX1 P w) P w K mg base N qual scope f cd A outer s H E) c) (hm:mg c = some (.ref C)) (q:PySem.W.excIn K C bmVE "ValueError.__new__" = true) (ha:PA (cxOf (CX1 P w) P w K mg base N qual scope f cd A outer s H E) (e₀ :: es) ta)
    (hd:(c == ("__debug__":Str)) = false:=by decide) (he:starEach (e₀ :: es) (envOfC qual scope s.heap.objs.size f cd) = (false,eval e₀ (envOfC qual scope s.heap.objs.size f cd)) :: starEach es (envOfC qual scope s.heap.objs.size f cd):=by rfl)
    (hpl:(backTo cpos (starEach es (envOfC qual scope s.heap.objs.size f cd))).any (·.1) = false:=by rfl) :
    PS (cxOf (CX1 P w) P w K mg base N qual scope f cd A outer s H E) (.Raise (some (.Call (.Name c np) (e₀ :: es) [] cpos)) none pos) (fun _ σ H => ta σ H fun vs H1 => vs.length ≤ sizeLine ∧ E (.ref C) none H1) :=
  ps_raise (X:=cxOf (CX1 P w) P w K mg base N qual scope f cd A outer s H E) (W:=fun _ H1 => E (.ref C) none H1) rfl hg hm q ha (fun pins σ H s e h1 vs I hw hx => Fly.made I rfl rfl rfl hx fun s'' g gd => ⟨e,.ref C,none,H,rfl,g,gd,hw⟩) hd he hpl
theorem Fun.okX {x qual:Str} {st:Stmt} {f:Addr} {fd:FuncData} {N ps:List Str} {k:Nat} {sp:Sp} (F:Fun K x qual st f fd) (S:FnScope N ps (defScope st)) (len:∀ vs H Q E,sp vs H Q E → vs.length = ps.length)
    (hbody:∀ (cdv:Value) (A:Around) (outer:List Env) (s:Shared) (H:Hp) (vs:List V) (Q:VK) (E:XK),Room k (A.deeper (envOfC qual (defScope st) s.heap.objs.size f cdv)) → sp vs H Q E →
      ∃ t,PSs (cxOf (CX1 P w) P w K mg base N qual (defScope st) f cdv A outer s H E) (defBody st) t ∧ t { nx:=fun _ H' => Q .non H',rt:=Q } (start N vs) H):FnOk P w K mg base (CX1 P w) (k + 1) f fd ps sp:=by
  obtain ⟨oc,od,kV,doc,pm,an,cdv,ct,osl,rfl,lk,hcd⟩:=F.ex
  exact fn_of lk hcd S len fun A outer s H vs Q E hr hsp => hbody cdv A outer s H vs Q E hr hsp
end
end L2
namespace L2
open PySem PySem.Spec PyProof.Rows
section
variable {X:Cx} {pins:List (Addr × Obj)} {σ:St} {H H':Hp} {s s':Shared} {x:Addr} {cls:Value}
theorem Fly.on {h':Heap} (f:Fly X.prog X.w X.stack H s x cls H' s') (I:Inv X pins σ H s) {B:Heap} {a0 a1:Value} (fl:Heap.FlyingW B X.stack x cls a0 s'.heap) (c1:∀ b o,H' b = some o → ∃ u,B.get? b = some u)
    (c2:∀ b o,s.heap.get? b = some o → b ∉ frs X.stack → ∃ u,B.get? b = some u) (fl':Heap.FlyingW B X.stack x cls a1 h') (up:s'.heap.UpToSlots h'):Fly X.prog X.w X.stack H s x cls H' { s' with heap:=h' }:=by
  have st:∀ b o,B.get? b = some o → h'.get? b = some o:=fl'.1
  have same:∀ b u v,B.get? b = some u → s'.heap.get? b = some v → u = v:=fun b u v h1 h2 => by
    have h3:=fl.1 b u h1
    rw [h2] at h3
    exact (Option.some.inj h3).symm
  have slot:∀ b o,s.heap.get? b = some o → H b = none → b ∈ frs X.stack → ∃ sl,h'.get? b = some { o with slots:=sl }:=fun b o e n hb => by
    obtain ⟨sl2,e2⟩:=f.un.any e n (by simp)
    obtain ⟨_,of,ho,hnf⟩:=I.stack.mem hb
    rw [e] at ho
    cases ho
    obtain ⟨sl3,e3⟩:=up b _ e2 hnf
    exact ⟨sl3,e3⟩
  refine ⟨f.os,f.bare,⟨fun b o e n hb _ => ?_,fun b o e n hb _ => slot b o e n hb,f.un.free,fun b o e _ => ?_,f.un.tups,f.un.frzs,f.un.tbls⟩,fun a o e => ?_,⟨B,a1,fl',c1,c2⟩,f.free⟩
  · have e2:=f.un.keep b o e n hb (by simp)
    obtain ⟨u,hu⟩:=c2 b o e hb
    exact same b u o hu e2 ▸ st b u hu
  · by_cases hb:b ∈ frs X.stack
    · obtain ⟨sl,e1⟩:=slot b o e (I.stkFree b hb) hb
      exact ⟨_,e1⟩
    · obtain ⟨u,hu⟩:=c2 b o e hb
      exact ⟨u,st b u hu⟩
  · refine (f.hok a o e).stay (fun b u hb q => ?_) (fun _ q => q) fun _ _ q => q
    have t:∃ o',H' b = some o':=by
      rcases hb with z | z
      · exact ⟨o,by rw [z]; exact e⟩
      · exact ⟨_,z⟩
    obtain ⟨o',e'⟩:=t
    obtain ⟨v,hv⟩:=c1 b o' e'
    exact same b v u hv q ▸ st b v hv
theorem Fly.inv (f:Fly X.prog X.w X.stack H s x cls H' s') (I:Inv X pins σ H s):Inv X pins σ H' s':=I.call' (ch:=[]) f.os f.un f.hok f.bare fun b z => absurd z (by simp)
theorem Fly.there (f:Fly X.prog X.w X.stack H s x cls H' s'):∃ ob,s'.heap.get? x = some ob ∧ ob.cls = cls:=by
  obtain ⟨B,a0,fl,_⟩:=f.fl
  exact fl.there
theorem Fly.again {A:Around} {E:Value → Shared → Prop} {Q:Unit → Shared → Prop} (f:Fly X.prog X.w X.stack H s x cls H' s') (I:Inv X pins σ H s) {d:Option Addr} (hdi:DictIs x d s') (hQ:∀ s'',Fly X.prog X.w X.stack H s x cls H' s'' → DictIs x d s'' → Q () s'') :
    wpAny (model X.prog X.w) A (setFlight (.ref x) none) Q E s':=by
  refine wpAny_mono (Keeps.flight.wpAny (E:=E) (Q:=fun _ s'' => Fly X.prog X.w X.stack H s x cls H' s'') hdi ?_) (fun _ s'' z => hQ s'' z.1 z.2) fun _ _ z => z.1
  obtain ⟨B,a0,fl,c1,c2⟩:=f.fl
  exact lands_againW fl fun h' fl' up => f.on I fl c1 c2 fl' up
theorem Fly.look {E E2:Value → Shared → Prop} {Q:Unit → Shared → Prop} (f:Fly X.prog X.w X.stack H s x cls H' s') (I:Inv X pins σ H s) (hst:X.stack = X.env :: X.outer) (hfr:X.env.frame = some X.env.locals) {d:Option Addr} (hdi:DictIs x d s')
    (hQ:∀ s'',Fly X.prog X.w X.stack H s x cls H' s'' → DictIs x d s'' → Q () s''):wpAny (model X.prog X.w) X.A (noteFrame (.ref x) X.env) (fun _ s2 => wpAny (model X.prog X.w) X.A (setFlight (.ref x) none) Q E2 s2) E s':=by
  obtain ⟨B,a0,fl,c1,c2⟩:=f.fl
  have fl0:=fl
  rw [hst] at fl
  refine wpAny_mono (Keeps.note.wpAny (E:=E) (Q:=fun _ s2 => wpAny (model X.prog X.w) X.A (setFlight (.ref x) none) (fun _ s'' => Fly X.prog X.w X.stack H s x cls H' s'') E2 s2) hdi ?_) (fun _ s2 z => ?_) fun _ _ z => z.1
  · refine wpAny_looks_onW (by rw [I.ok.frames,hst]) hfr fl fun h' hd up => ?_
    refine wpAny_landsW hd fun h2 fl2 up2 => ?_
    rw [← hst] at fl2
    exact f.on I fl0 c1 c2 fl2 (up.trans up2)
  · exact wpAny_mono (Keeps.flight.wpAny z.2 z.1) (fun _ s'' y => hQ s'' y.1 y.2) fun _ _ y => y.1
end
noncomputable abbrev Cx.inE (X:Cx) (e:Addr):Cx:={ X with A:=X.A.mark (some (.ref e)),calm:=false }
section
variable {X:Cx} {pins:List (Addr × Obj)} {σ:St} {H:Hp} {s:Shared}
theorem Cx.Ok.inE {e:Addr} (ok:X.Ok):(X.inE e).Ok:=⟨ok.mod,ok.kind,ok.glob,ok.blt,ok.above,ok.inj,ok.has,ok.cab,fun z => absurd z (by simp),ok.frames,ok.stk,ok.exf,ok.bs,ok.bsz,ok.noex,ok.exfs,ok.funs,ok.frf⟩
theorem Inv.inE {e:Addr} (I:Inv X pins σ H s):Inv (X.inE e) pins σ H s:=⟨I.ok.inE,I.os,I.bare,I.base,I.loc,I.cell,I.free,I.freeC,I.pin,I.hok,I.len⟩
theorem Inv.outE {e:Addr} {E:Value → Shared → Prop} (ok:X.Ok) (I:Inv ((X.inE e).wish E) pins σ H s):Inv X pins σ H s:=⟨ok,I.os,I.bare,I.base,I.loc,I.cell,I.free,I.freeC,I.pin,I.hok,I.len⟩
theorem SP.outE {e:Addr} {E:Value → Shared → Prop} {D:Ends} {f:Flow} {s':Shared} (ok:X.Ok) (h:SP ((X.inE e).wish E) pins D f s'):SP X pins D f s':=by
  cases f with
  | next => obtain ⟨σ',H',I,q⟩:=h; exact ⟨σ',H',I.outE ok,q⟩
  | brk => obtain ⟨σ',H',I,q⟩:=h; exact ⟨σ',H',I.outE ok,q⟩
  | cont => obtain ⟨σ',H',I,q⟩:=h; exact ⟨σ',H',I.outE ok,q⟩
  | ret u => obtain ⟨v,σ',H',I,r,q⟩:=h; exact ⟨v,σ',H',I.outE ok,r,q⟩
end
noncomputable abbrev TH:=Ends → Value → Option Addr → Addr → St → Hp → Prop
noncomputable def PH (X:Cx) (hs:List ExceptHandler) (t:TH):Prop :=
  ∀ (pins:List (Addr × Obj)) (σ:St) (H H':Hp) (s s':Shared) (D:Ends) (cls:Value) (d:Option Addr) (e:Addr),Inv X pins σ H s → Fly X.prog X.w X.stack H s e cls H' s' → DictIs e d s' → t D cls d e σ H' →
    wpAny (model X.prog X.w) X.A (handleBy (.ref e) X.env hs) (SP X pins D) X.xe s'
theorem ph_nil {X:Cx}:PH X [] (fun _ _ _ _ _ _ => False):=fun _ _ _ _ _ _ _ _ _ _ _ _ _ h => h.elim
theorem ph_cons {X:Cx} {d:Str} {vd:Value} {np pos:Pos} {b₀:Stmt} {suite:List Stmt} {rest:List ExceptHandler} {th:TS} {tr:TH} (hg:Gl X d) (hm:X.mg d = some vd) (hb:∀ e,PSs (X.inE e).nox (b₀ :: suite) th) (hr:PH X rest tr)
    (hd:(d == ("__debug__":Str)) = false:=by decide) :
    PH X (.ExceptHandler (some (.Name d np)) none (b₀ :: suite) pos :: rest) (fun D cls dd e σ H => ∃ b,PySem.W.exmOne X.K cls vd = some b ∧ if b = true then th D σ H else tr D cls dd e σ H):=by
  intro pins σ H H' s s' D cls dd e I f hdi h
  obtain ⟨b,hx,h⟩:=h
  have I1:=f.inv I
  obtain ⟨ob,hob,hcl⟩:=f.there
  have LT:PySem.W.Looks (model X.prog X.w) s'.heap (typeOf (.ref e)) cls:=by
    rw [← hcl]
    exact (PySem.W.Looks.ld hob).andThen .now
  refine wpAny_handleBy_cons (codeAny_handlers_test (Calls.Name_function_global I1.ok.kind hg (Calls.loadGlobal_global (by rw [I1.ok.glob]; exact I1.mod.glob.keeps I1.bk) hm ?_) hd)) (by intro q; cases q)
  refine (PySem.W.exm_one I1.kIn LT hx).here ?_
  cases b with
  | false => exact hr pins σ H H' s s' D cls dd e I f hdi h
  | true =>
    refine codeAny_handlers_suite (f.again I hdi fun s2 f2 _ => ?_)
    have I2:=(f2.inv I).inE (e:=e)
    exact wpAny_mono (hb e pins s2 σ H' D (I2.wish _) h) (fun fl s3 q => SP.outE I1.ok q) fun _ _ z => False.elim z
noncomputable def etry (X:Cx) (hs:List ExceptHandler) (pins:List (Addr × Obj)) (D:Ends):Value → Shared → Prop:=fun e s1 =>
  wpAny (model X.prog X.w) X.A (noteFrame e X.env) (fun _ s2 => wpAny (model X.prog X.w) X.A (setFlight e none) (fun _ s3 => wpAny (model X.prog X.w) X.A (handleBy e X.env hs) (SP X pins D) X.xe s3) X.xe s2) X.xe s1
noncomputable abbrev Cx.tryIn (X:Cx) (hs:List ExceptHandler) (pins:List (Addr × Obj)) (D:Ends):Cx:={ X with pn:=X.pn ++ pins,xe:=etry X hs pins D }
section
variable {X:Cx} {hs:List ExceptHandler} {pins pins':List (Addr × Obj)} {D D':Ends} {σ:St} {H:Hp} {s:Shared}
theorem Cx.Ok.tryIn (ok:X.Ok):(X.tryIn hs pins D).Ok:=⟨ok.mod,ok.kind,ok.glob,ok.blt,ok.above,ok.inj,ok.has,ok.cab,ok.hd,ok.frames,ok.stk,ok.exf,ok.bs,ok.bsz,ok.noex,ok.exfs,ok.funs,ok.frf⟩
theorem Cx.Ok.tryOut (ok:(X.tryIn hs pins D).Ok):X.Ok:=⟨ok.mod,ok.kind,ok.glob,ok.blt,ok.above,ok.inj,ok.has,ok.cab,ok.hd,ok.frames,ok.stk,ok.exf,ok.bs,ok.bsz,ok.noex,ok.exfs,ok.funs,ok.frf⟩
theorem Inv.tryIn (I:Inv X pins σ H s):Inv (X.tryIn hs pins D) [] σ H s:=⟨I.ok.tryIn,I.os,I.bare,I.base,I.loc,I.cell,I.free,I.freeC,fun p hp => I.pin p (by simpa using hp),I.hok,I.len⟩
theorem Inv.tryOut (I:Inv (X.tryIn hs pins D) pins' σ H s):Inv X pins σ H s:=⟨I.ok.tryOut,I.os,I.bare,I.base,I.loc,I.cell,I.free,I.freeC,fun p hp => I.pin p (List.mem_append_left _ hp),I.hok,I.len⟩
theorem SP.tryOut {f:Flow} {s':Shared} (h:SP (X.tryIn hs pins D') [] D f s'):SP X pins D f s':=by
  cases f with
  | next => obtain ⟨σ',H',I,q⟩:=h; exact ⟨σ',H',I.tryOut,q⟩
  | brk => obtain ⟨σ',H',I,q⟩:=h; exact ⟨σ',H',I.tryOut,q⟩
  | cont => obtain ⟨σ',H',I,q⟩:=h; exact ⟨σ',H',I.tryOut,q⟩
  | ret u => obtain ⟨v,σ',H',I,r,q⟩:=h; exact ⟨v,σ',H',I.tryOut,r,q⟩
end
theorem ps_try {X:Cx} {body:List Stmt} {h₀:ExceptHandler} {hs:List ExceptHandler} {pos:Pos} {tb:Ends → TS} (hb:∀ pins D,PSs (X.tryIn (h₀ :: hs) pins D) body (tb D)):PS X (.Try body (h₀ :: hs) [] [] pos) (fun D σ H => tb D D σ H):=by
  intro pins s σ H D I h
  refine wpAny_Try_except (wpAny_mono (hb pins D [] s σ H D I.tryIn h) (fun f s1 q => ?_) fun _ _ z => z)
  have q':=SP.tryOut q
  cases f with
  | next => exact wpAny_execs_nil q'
  | brk => exact q'
  | cont => exact q'
  | ret u => exact q'
theorem passT {X:Cx} {hs:List ExceptHandler} {pins:List (Addr × Obj)} {D:Ends} {th:TH} (hst:X.stack = X.env :: X.outer) (hfr:X.env.frame = some X.env.locals) (hh:PH X hs th) :
    ∀ (pins':List (Addr × Obj)) (σ:St) (H:Hp) (s:Shared) (e:Value) (s':Shared),Inv (X.tryIn hs pins D) pins' σ H s → CX1 X.prog X.w X.stack H s (fun cls d H' => ∀ x,H' x = none → th D cls d x σ H') e s' → (X.tryIn hs pins D).xe e s':=by
  intro pins' σ H s e s' I h
  obtain ⟨x,cls,d,H',rfl,f,hdi,hE⟩:=h
  have I0:Inv X pins σ H s:=I.tryOut
  exact Fly.look f I0 hst hfr hdi fun s'' f2 d2 => hh pins σ H H' s s'' D cls d x I0 f2 d2 (hE x f.free)
section
variable {X:Cx} {CX:CXT} {k:Nat} {f C:Addr} {fd:FuncData} {ps:List Str} {sp:Sp} {dvs:List V} {ds:List Value} {E:St → XK} {x m:Str} {p pos apos:Pos} {e o:Expr} {es:List Expr} {ta:TE} {t:TA}
theorem pe_callE (F:FnOk X.prog X.w X.K X.mg X.base CX k f fd ps sp) (hr:Room k X.A) (hg:Gl X x) (hm:X.mg x = some (.ref f)) (hk:PySem.W.keepIn X.K (.ref f) = true) (hb:Binds X.K fd ps ds) (hd:Vals dvs ds)
    (hx:∀ (pins:List (Addr × Obj)) (σ:St) (H:Hp) (s:Shared) (e:Value) (s':Shared),Inv X pins σ H s → CX X.stack H s (E σ) e s' → X.xe e s') (ha:PA X (e :: es) t)
    (hdb:(x == ("__debug__":Str)) = false:=by decide) (he:starEach (e :: es) X.env = (false,eval e X.env) :: starEach es X.env:=by rfl) (hpl:(backTo pos (starEach es X.env)).any (·.1) = false:=by rfl) :
    PE X (.Call (.Name x p) (e :: es) [] pos) (fun σ H Q => t σ H fun vs H1 => sp (vs ++ dvs) H1 Q (E σ)):=by
  intro pins s σ H Q I h
  refine wpAny_Call_Name_kw (ld_glob I hg hm ?_ hdb)
  refine PySem.W.callWith_K (h₀:=X.base) I.ok.mod.kin hk (thn (ha pos pins s σ H _ I h) fun us s1 ⟨vs,H1,I1,r,q⟩ => ⟨I1.kIn,?_⟩) he hpl
  have r2:Vals (vs ++ dvs) (us ++ ds):=r.append hd
  have hl:(us ++ ds).length = ps.length:=by rw [← r2.length]; exact F.len _ _ _ _ q
  refine wpAny_call (codeAny_mono (F.run X.A X.stack s1 H1 ⟨us,[]⟩ (us ++ ds) (vs ++ dvs) Q (E σ) hr I1.env0 (hb s1 us I1.kIn hl) r2 q) fun r s' hq => ?_)
  cases r with
  | error e => exact hx pins σ H1 s1 e s' I1 hq
  | ok fl =>
    cases fl with
    | ret u => exact I1.after hq
    | next => exact False.elim hq
    | brk => exact False.elim hq
    | cont => exact False.elim hq
end
end L2
namespace L2
open PySem PySem.Spec PyProof.Rows
section
variable {X:Cx} {pos:Pos} {e:Expr} {es:List Expr} {te:TE}
noncomputable abbrev TJ:=St → Hp → (Hp → Prop) → Prop
noncomputable def PJ (X:Cx) (es:List Expr) (t:TJ):Prop :=
  ∀ (pins:List (Addr × Obj)) (s:Shared) (σ:St) (H:Hp) (acc:Str) (Z:Hp → Prop),acc.length + 2000000 * es.length ≤ sizeLine → Inv X pins σ H s → t σ H Z →
    Joins (model X.prog X.w) X.A X.xe (evalEach es X.env) acc (fun out s1 => out.length ≤ sizeLine ∧ ∃ H1,Inv X pins σ H1 s1 ∧ Z H1) s
theorem pj_nil:PJ X [] (fun _ H Z => Z H):=fun _ _ _ H _ _ hz I h => ⟨Nat.le_trans (Nat.le_add_right _ _) hz,H,I,h⟩
theorem pj_cons {tj:TJ} (he:PE X e te) (hr:PJ X es tj):PJ X (e :: es) (fun σ H Z => te σ H fun v H1 => ∃ y:Str,v = .str y ∧ y.length ≤ 2000000 ∧ tj σ H1 Z):=by
  intro pins s σ H acc Z hz I h
  refine thn (he pins s σ H _ I h) fun u s1 ⟨v,H1,I1,r,y,hv,hy,q⟩ => ?_
  subst hv
  obtain ⟨t,rfl⟩:=r
  have e1:(acc ++ y).length = acc.length + y.length:=by
    show Array.size (acc.cps ++ y.cps) = _
    rw [Array.size_append]
    rfl
  have e2:(e :: es).length = es.length + 1:=rfl
  rw [e2] at hz
  refine ⟨y,t,rfl,by omega,hr pins s1 σ H1 (acc ++ y) Z (by omega) I1 q⟩
theorem pe_fstr {v1 v2:Expr} {rest:List Expr} {tj:TJ} (hj:PJ X (v1 :: v2 :: rest) tj) (hl:(v1 :: v2 :: rest).length ≤ 8) :
    PE X (.JoinedStr (v1 :: v2 :: rest) pos) (fun σ H Q => tj σ H fun H1 => ∀ z:Str,z.length ≤ sizeLine → Q (.str z) H1):=by
  intro pins s σ H Q I h
  have hz:Str.empty.length + 2000000 * (v1 :: v2 :: rest).length ≤ sizeLine:=by
    have e0:Str.empty.length = 0:=rfl
    rw [sizeLine_eq,e0]
    rw [Nat.zero_add]
    exact Nat.le_trans (Nat.mul_le_mul_left _ hl) (Nat.le_of_ble_eq_true rfl)
  refine wpAny_JoinedStr ?_
  have j:=hj pins s σ H Str.empty _ hz I h
  exact joins_mono _ _ (fun out s1 ⟨h1,H1,I1,q⟩ => ⟨h1,.str out,H1,I1.tok _,⟨_,rfl⟩,q out h1⟩) _ j
where joins_mono {M:Model} {A:Around} {E:Value → Shared → Prop}:∀ (parts:List (Sem Value)) (acc:Str) {Q Q':Str → Shared → Prop},(∀ out s,Q out s → Q' out s) → ∀ s,Joins M A E parts acc Q s → Joins M A E parts acc Q' s
  | [],acc,_,_,hq,s,h => hq _ _ h
  | x :: rest,acc,_,_,hq,s,h => thn (show wpAny _ _ _ _ _ _ from h) fun v s1 ⟨y,t,e1,e2,e3⟩ => ⟨y,t,e1,e2,joins_mono rest (acc ++ y) hq s1 e3⟩
theorem pe_fv (he:PE X e te):PE X (.FormattedValue e (-1) none pos) (fun σ H Q => te σ H fun v H1 => (∃ y:Str,v = .str y ∧ y.length ≤ sizeLine ∧ Q (.str y) H1) ∨ ∃ i:Int,v = .int i ∧ i.natAbs.log2 < 1920 ∧ Q (.str (toString i)) H1):=by
  intro pins s σ H Q I h
  refine FormattedValue_plain (thn (he pins s σ H _ I h) fun u s1 ⟨v,H1,I1,r,q⟩ => ?_)
  rcases q with ⟨y,rfl,hy,q⟩ | ⟨i,rfl,hi,q⟩
  · obtain ⟨t,rfl⟩:=r
    exact formatField_str (fun t' tk => ⟨.str y,H1,I1.tok _,⟨_,rfl⟩,q⟩) hy
  · obtain ⟨t,rfl⟩:=r
    exact formatField_int_small hi ⟨.str _,H1,I1.tok _,⟨_,rfl⟩,q⟩
end
end L2
namespace L2
open PySem PySem.Spec PyProof.Rows
section
variable {prog:Program} {w:World} {A:Around} {s:Shared} {E:Value → Shared → Prop} {K:Type} [DecidableEq K] {knd:KeyKind prog w K}
end
section
variable {X:Cx}
end
end L2
namespace L2
open PySem PySem.Spec PyProof.Rows
structure ExcCls (K:PySem.W.Frag) (D:Addr):Prop where
  is:(match K.lookup D with | some ⟨_,_,.cls _,_⟩ => true | _ => false) = true
  ga:PySem.W.findIn K (.ref D) "__getattribute__" = some (some (.builtin "BaseException.__getattribute__"))
  gh:PySem.W.findIn K (.ref D) "__getattr__" = some none
  cl:PySem.W.findIn K (.ref D) "__class__" = some (some (.builtin "object.__class__"))
  sp:PySem.W.specialIn K (.builtin "object.__class__") "__get__" = some (some (.builtin "getset_descriptor.__get__"))
  tk:PySem.W.takesIn K (.builtin "object.__class__") = some true
  ob:PySem.W.mroIn K D (.type "object") = some true
  be:PySem.W.mroIn K D (.type "BaseException") = some true
section
variable {prog:Program} {w:World} {A:Around} {E:Value → Shared → Prop} {s:Shared} {K:PySem.W.Frag} {x D:Addr}
end
section
variable {X:Cx}
end
section
variable {X:Cx} {pins:List (Addr × Obj)} {σ:St} {H H':Hp} {s s':Shared} {x:Addr} {cls:Value}
noncomputable def Ends.gone (D:Ends) (i:Nat):Ends:={ nx:=fun σ H => D.nx (σ.set i none) H,rt:=D.rt,bk:=fun σ H => D.bk (σ.set i none) H,ct:=fun σ H => D.ct (σ.set i none) H }
end
end L2
namespace L2
open PySem PySem.Spec PyProof.Rows
structure FunD (K:PySem.W.Frag) (x qual:Str) (st:Stmt) (dV:Value) (f:Addr) (fd:FuncData):Prop where
  ex:∃ (oc:Value) (od:Option Addr) (kV doc pm:Value) (an:Option Addr) (cdv ct:Value) (osl:Array (Option Value)),
    fd = PySem.W.fnOf x qual (defArgs st) (defBody st) (defScope st) dV kV doc pm an cdv ct ∧ K.lookup f = some ⟨oc,od,.func fd,osl⟩ ∧ PySem.W.codeIn K cdv qual = true
  kp:PySem.W.keepIn K (.ref f) = true
section
variable {P:Program} {w:World} {K:PySem.W.Frag} {mg:Str → Option Value} {base:Heap}
end
end L2
namespace L2
open PySem PySem.Spec PyProof.Rows
section
variable {X:Cx}
end
end L2
namespace L2
open PySem PySem.Spec PyProof.Rows
section
variable {X:Cx} {pins:List (Addr × Obj)} {σ:St} {H:Hp} {s:Shared} {h':Heap}
theorem Inv.turned2 {t':Nat} {e j p:Addr} {o:HO} (I:Inv X pins σ H s) (k:∀ b ob,b ≠ e → b ≠ j → s.heap.get? b = some ob → h'.get? b = some ob) (fe:FpOk X pins H e) (fj:FpOk X pins H j) (hp:s.heap.objs.size ≤ p)
    (new:ObjOk X.prog X.w (upd H p o) h' p o):Inv X pins σ (upd H p o) { s with heap:=h',toks:=t' }:=by
  have hn:H p = none:=I.hok.fresh hp
  have nn:∀ b u,H b = some u → b ≠ e ∧ b ≠ j:=fun b u q => ⟨fun z => (by rw [z,fe.1] at q; cases q),fun z => (by rw [z,fj.1] at q; cases q)⟩
  have nc:∀ b,b ∉ [e,j] → b ≠ e ∧ b ≠ j:=fun b hb => ⟨fun z => hb (by simp [z]),fun z => hb (by simp [z])⟩
  have lt:∀ b ob,s.heap.get? b = some ob → b ≠ p:=fun b ob q z => absurd (Nat.lt_of_lt_of_le (Heap.lt_size q) (by rw [z]; exact hp)) (Nat.lt_irrefl _)
  refine I.step (g':=s.gens) (d':=s.drawn) (ch:=[e,j]) (fun b hb => ?_) (fun b ob _ _ hc q _ => k b ob (nc b hc).1 (nc b hc).2 q) (fun b ob _ _ hc q _ => ⟨ob.slots,k b ob (nc b hc).1 (nc b hc).2 q⟩) (fun b ob hc q n => by rw [upd_ne (lt b ob q)]; exact n)
    (fun b ob hc q => ⟨ob,k b ob (nc b hc).1 (nc b hc).2 q⟩) (fun b xs q => by rw [upd_ne (ne_of_none q hn)]; exact q) (fun b ob u q => by rw [upd_ne (ne_of_none q hn)]; exact q) (fun b ps q => ⟨#[],by rw [upd_ne (ne_of_none q hn),q]; simp⟩) (fun m hm => ?_) (fun b u q => ?_) I.bare
  · rcases List.mem_cons.mp hb with rfl | hb
    · exact ⟨fe.2.2.2.1,fe.2.1,fe.2.2.2.2.1,fe.2.2.2.2.2⟩
    · obtain rfl:=List.mem_singleton.mp hb
      exact ⟨fj.2.2.2.1,fj.2.1,fj.2.2.2.2.1,fj.2.2.2.2.2⟩
  · obtain ⟨ob,es,ep,q,r⟩:=hm
    exact ⟨ob,es,ep,k _ ob (Ne.symm fe.2.1) (Ne.symm fj.2.1) q,r⟩
  · by_cases hb:b = p
    · subst hb
      rw [upd_same] at q
      cases q
      exact new
    · rw [upd_ne hb] at q
      refine (I.hok b u q).stay (fun c v hc z => ?_) (fun c z => by rw [upd_ne (ne_of_none z hn)]; exact z) fun c xs z => by rw [upd_ne (ne_of_none z hn)]; exact z
      rcases hc with hc | hc
      · rw [hc] at z ⊢
        exact k b v (nn b u q).1 (nn b u q).2 z
      · exact k c v (nn c _ hc).1 (nn c _ hc).2 z
end
noncomputable def Itv (K:PySem.W.Frag) (a:Addr) (n:Nat):It :=
  ⟨fun i H => ∃ xs x,SqL K H a xs ∧ xs.length = n ∧ i < n ∧ xs[n - 1 - i]? = some x,fun i H x H' => H' = H ∧ ∀ xs,SqL K H a xs → xs[n - 1 - i]? = some x,fun i _ => i = n⟩
theorem turn_rev {P:Program} {w:World} {K:PySem.W.Frag} {tg:Expr} (a it:Addr) (n:Nat):Turn P w K tg (Itv K a n) [it] it (fun i h => h.IsRevIter it a ((n:Int) - 1 - (i:Nat))) where
  mem:=by simp
  obj:=fun i h st b hb => by
    obtain rfl:b = it:=by simpa using hb
    obtain ⟨o,e,c,d⟩:=st
    exact ⟨o,e,fun v z => by rw [d] at z; cases z⟩
  keep:=fun i h h' st k => st.at fun o e => k it (by simp) o e
  item:=by
    intro X hP hw hK hc i pins s σ H E I hf st hg
    subst hP hw hK
    obtain ⟨xs,x,hq,hxl,hi,hx⟩:=hg
    obtain ⟨its,rv,p,hz⟩:=I.list hq
    obtain ⟨u,hu,ru⟩:=rv.get hx
    obtain ⟨f0,f1,f2,f3,f4,f5⟩:=hf it (by simp)
    have e1:(n:Int) - 1 - (i:Nat) = ((n - 1 - i:Nat):Int):=by omega
    have st1:=st
    rw [e1] at st1
    refine wpAny_pyNext_rev_item st1 p.isList (x:=u) (by simpa using hu) fun h' st' sb => ?_
    have I1:Inv X pins σ H { s with heap:=h' }:=I.turned (t':=s.toks) (fun b o hb e => (sb.2 b hb).trans e) f0 f1 f3 f4 f5
    have e2:((n - 1 - i:Nat):Int) - 1 = (n:Int) - 1 - ((i + 1:Nat):Int):=by omega
    rw [e2] at st'
    obtain ⟨o,e,c,d⟩:=id st'
    exact ⟨u,rfl,go_of (s:={ s with heap:=h' }) e c d (by decide) ⟨x,H,I1,ru,⟨rfl,fun ys hy => by rw [I.list_inj hy hq]; exact hx⟩,st',fun b hb => (hf b hb).1⟩⟩
  done:=by
    intro X hP hw hK hc i pins s σ H E I hf st hg
    subst hP hw hK
    obtain ⟨f0,f1,f2,f3,f4,f5⟩:=hf it (by simp)
    have hi:i = n:=hg
    have e1:(n:Int) - 1 - (i:Nat) = -1:=by omega
    rw [e1] at st
    exact wpAny_pyNext_rev_end (I.ok.hd hc) st fun h' eb => ⟨rfl,I.turned (t':=s.toks) (fun b o hb e => eb b o hb e) f0 f1 f3 f4 f5⟩
  self:=fun _ _ _ _ _ st h => wpAny_pyIter_revIter st h
section
variable {X:Cx} {tg:Expr}
noncomputable def iRev (K:PySem.W.Frag) (ta:TA):TI:=fun σ H R => ta σ H fun vs H1 => ∃ a xs,vs = [.ref a] ∧ SqL K H1 a xs ∧ R (Itv K a xs.length) H1
theorem pi_rev {l:Expr} {ta:TA} {p pos:Pos} (hg:Gl X "reversed") (hm:X.mg "reversed" = none) (ha:PA X [l] ta) (hs:starEach [l] X.env = [(false,eval l X.env)]:=by rfl):PI X tg (.Call (.Name "reversed" p) [l] [] pos) (iRev X.K ta):=by
  intro pins s σ H R I h
  refine Call_ (ld_blt I hg hm boot_reversed (PyProof.Rows.callWith_type1 (thn (ha pos pins s σ H _ I h) fun us s1 ⟨vs,H1,I1,r1,q1⟩ => ?_) hs rfl))
  obtain ⟨a,xs,e,hq,q⟩:=q1
  subst e
  obtain ⟨u,rfl,ru⟩:=vals1 r1
  cases ru
  obtain ⟨its,rv,pl,hz⟩:=I1.list hq
  have hl:=rv.length
  refine call_reversed_list pl.isList ?_
  have hn:(s1.heap.push (revObj a ((its.toArray.size:Int) - 1))).IsRevIter s1.heap.objs.size a ((xs.length:Int) - 1 - ((0:Nat):Int)):=by
    refine ⟨_,Heap.get?_push_size _ rfl,rfl,?_⟩
    have ez:((its.toArray.size:Nat):Int) - 1 = (xs.length:Int) - 1 - ((0:Nat):Int):=by
      rw [List.size_toArray,← hl]
      omega
    rw [← ez]
    rfl
  refine wpAny_pyIter_revIter hn ⟨s1.heap.objs.size,[s1.heap.objs.size],_,_,H1,rfl,I1.kept (t':=s1.toks) fun b o e => Heap.get?_push_of_some _ e,turn_rev a _ xs.length,hn,fun b hb => ?_,q⟩
  obtain rfl:b = s1.heap.objs.size:=by simpa using hb
  exact I1.fpOk (Nat.le_refl _) (I1.hok.fresh (Nat.le_refl _))
end
theorem for_rev {K:PySem.W.Frag} {a:Addr} {xs:List V} {g:TG} {tb:TS} {D:Ends} {σ:St} {H:Hp} (Pv:Nat → St → Hp → Prop) (h0:Pv 0 σ H) (hl:∀ i σ H,i ≤ xs.length → Pv i σ H → SqL K H a xs)
    (hs:∀ i x σ H,xs.reverse[i]? = some x → Pv i σ H → g x σ H fun σ2 H2 => tb { D with nx:=Pv (i + 1),ct:=Pv (i + 1),bk:=D.nx } σ2 H2) (hd:∀ σ H,Pv xs.length σ H → D.nx σ H) :
    ∃ W:Nat → Nat → St → Hp → Prop,(∃ m,W 0 m σ H) ∧ ∀ i m σ H,W i m σ H →
      ((Itv K a xs.length).stop i H ∧ D.nx σ H) ∨ ((Itv K a xs.length).go i H ∧ ∃ N:St → Hp → Prop,(∀ σ' H',N σ' H' → ∃ m',m' < m ∧ W (i + 1) m' σ' H') ∧ ∀ x H',(Itv K a xs.length).yld i H x H' → g x σ H' fun σ2 H2 => tb { D with nx:=N,ct:=N,bk:=D.nx } σ2 H2):=by
  refine ⟨fun i m σ H => m = xs.length - i ∧ i ≤ xs.length ∧ Pv i σ H,⟨xs.length,by simp,Nat.zero_le _,h0⟩,?_⟩
  rintro i m σ H ⟨rfl,hi,p⟩
  have q:=hl i σ H hi p
  by_cases hlt:i < xs.length
  · have ex:xs[xs.length - 1 - i]? = some (xs[xs.length - 1 - i]'(by omega)):=List.getElem?_eq_getElem (by omega)
    refine .inr ⟨⟨xs,_,q,rfl,hlt,ex⟩,Pv (i + 1),fun σ' H' p' => ⟨xs.length - (i + 1),by omega,rfl,hlt,p'⟩,fun x H' y => ?_⟩
    obtain ⟨e,y⟩:=y
    subst e
    exact hs i x σ _ (by rw [List.getElem?_reverse hlt]; exact y xs q) p
  · obtain rfl:i = xs.length:=by omega
    exact .inl ⟨rfl,hd σ H p⟩
section
variable {prog:Program} {w:World} {A:Around} {E:Value → Shared → Prop} {s:Shared}
theorem nextT_item {j t:Addr} {n:Nat} {its:Array Value} {v:Value} {Q:Value → Shared → Prop} (hj:s.heap.IsTupleIter j t n) (ht:s.heap.IsTuple t its) (hv:its[n]? = some v)
    (q:∀ h',h'.IsTupleIter j t (n + 1) → Heap.SameBut j s.heap h' → Q v { s with heap:=h' }):wpAny (model prog w) A (Builtin.SmallTypes.nextOf (.ref j)) Q E s:=by
  obtain ⟨oj,ej,cj,dj⟩:=id hj
  obtain ⟨ot,et,_,nt,dt⟩:=ht
  unfold Builtin.SmallTypes.nextOf
  refine wpAny_bind (wpAny_callSpecial?_slot (name:=Str.ofString "__next__") hj.typeIs F.slot_tuple_iterator_next (wpAny_call_entry F.slot_tuple_iterator_next hj.typeIs F.entry_tuple_iterator_next ?_ (F.args_tuple_iterator_next_1 _)))
  show wpAny _ _ (field (.ref j) 0 >>= _) _ _ s
  refine wpAny_bind (wpAny_field ej dj (x:=.ref t) rfl ?_)
  show wpAny _ _ (if (Value.ref t == Value.none) = true then _ else _) _ _ _
  rw [if_neg (show ¬ (Value.ref t == Value.none) = true from Bool.false_ne_true)]
  show wpAny _ _ (field (.ref j) 1 >>= _) _ _ s
  refine wpAny_bind (wpAny_field ej dj (x:=.int n 0) rfl ?_)
  show wpAny _ _ (seqItems? (.ref t) >>= _) _ _ _
  refine wpAny_bind (wpAny_seqItems et dt ?_)
  simp only [Int.toNat_natCast,hv]
  refine wpAny_bind (wpAny_setField ej dj (by simp) (wpAny_pure ⟨v,rfl,wpAny_pure (q _ ?_ (Heap.SameBut.update ..))⟩))
  exact ⟨_,Heap.get?_update_self _ ej (Obj.isFreed_of_fields (Obj.data_mapFields dj _)),(Obj.cls_mapFields ..).trans cj,by rw [Obj.data_mapFields dj]; simp [rawInt]⟩
theorem nextT_end {j t:Addr} {n:Nat} {its:Array Value} {Q:Value → Shared → Prop} (hh:A.handled = none) (hj:s.heap.IsTupleIter j t n) (ht:s.heap.IsTuple t its) (hv:its[n]? = none)
    (q:∀ h' e,Heap.ExtBut j s.heap h' → (∃ o,h'.get? e = some o ∧ o.cls = .type "StopIteration") → E (.ref e) { s with heap:=h' }):wpAny (model prog w) A (Builtin.SmallTypes.nextOf (.ref j)) Q E s:=by
  obtain ⟨oj,ej,cj,dj⟩:=id hj
  obtain ⟨ot,et,_,nt,dt⟩:=ht
  unfold Builtin.SmallTypes.nextOf
  refine wpAny_bind (wpAny_callSpecial?_slot (name:=Str.ofString "__next__") hj.typeIs F.slot_tuple_iterator_next (wpAny_call_entry F.slot_tuple_iterator_next hj.typeIs F.entry_tuple_iterator_next ?_ (F.args_tuple_iterator_next_1 _)))
  show wpAny _ _ (field (.ref j) 0 >>= _) _ _ s
  refine wpAny_bind (wpAny_field ej dj (x:=.ref t) rfl ?_)
  show wpAny _ _ (if (Value.ref t == Value.none) = true then _ else _) _ _ _
  rw [if_neg (show ¬ (Value.ref t == Value.none) = true from Bool.false_ne_true)]
  show wpAny _ _ (field (.ref j) 1 >>= _) _ _ s
  refine wpAny_bind (wpAny_field ej dj (x:=.int n 0) rfl ?_)
  show wpAny _ _ (seqItems? (.ref t) >>= _) _ _ _
  refine wpAny_bind (wpAny_seqItems et dt ?_)
  simp only [Int.toNat_natCast,hv]
  refine wpAny_bind (wpAny_rule (wpAny_bind (wpAny_setField ej dj (by simp) ?_)))
  refine wpAny_bind (m:=newExc (.type "StopIteration") []) ?_
  simp only [newExc,newTuple]
  refine wpAny_bind (wpAny_newObj_type (wpAny_bind (m:=firstArgMember _ _) (wpAny_of_eq (a:=Value.none) (by first | rfl | (simp only [firstArgMember]; rfl)) (wpAny_newObj_type ?_ (by size_fits)))) (by size_fits))
  simp only [raiseNew]
  refine wpAny_bind (wpAny_handled ?_)
  first | rw [show A.in1.handled = none from hh] | rw [hh]
  exact wpAny_bind (wpAny_pure (wpAny_throw (q _ _ (((Heap.SameBut.update ..).extBut.push _).push _) ⟨_,Heap.get?_push_size _ rfl,rfl⟩)))
theorem enumT_next {e j t:Addr} {n:Nat} {its:Array Value} {v old:Value} {Q:Value → Shared → Prop} (he:IsEnum s.heap e j n old) (hj:s.heap.IsTupleIter j t n) (ht:s.heap.IsTuple t its) (hv:its[n]? = some v) (hej:e ≠ j)
    (q:∀ h',IsEnumOut h' e j ((n:Int) + 1) v s.heap.objs.size → h'.IsTupleIter j t (n + 1) → h'.get? s.heap.objs.size = some { cls:=.type "tuple",data:=.seq #[.int n s.toks,v] } →
      (∀ b o,b ≠ e → b ≠ j → s.heap.get? b = some o → h'.get? b = some o) → Q (.ref s.heap.objs.size) { s with heap:=h',toks:=s.toks + 1 }) :
    wpAny (model prog w) A (Builtin.«enumerate.__next__» ⟨[.ref e],[]⟩) (fun fin s' => ∃ v,fin = .done (.ret v) ∧ Q v s') E s:=by
  obtain ⟨hp,gg,dd,tk,os⟩:=s
  show wpAny _ _ (field (.ref e) 2 >>= _) _ _ ⟨hp,gg,dd,tk,os⟩
  refine wpAny_bind (wpAny_field he rfl (x:=.ref j) rfl (wpAny_bind (nextT_item hj ht hv fun h1 j1 b1 => ?_)))
  replace b1:Heap.SameBut j hp h1:=b1
  have e1:IsEnum h1 e j n old:=(b1.2 e hej).trans he
  show wpAny _ _ (field (.ref e) 3 >>= _) _ _ ⟨h1,gg,dd,tk,os⟩
  refine wpAny_bind (wpAny_field e1 rfl (x:=rawInt n) rfl ?_)
  show wpAny _ _ (field (.ref e) 4 >>= _) _ _ ⟨h1,gg,dd,tk,os⟩
  refine wpAny_bind (wpAny_field e1 rfl (x:=.none) rfl ?_)
  show wpAny _ _ (mkInt n >>= _) _ _ ⟨h1,gg,dd,tk,os⟩
  refine wpAny_bind (wpAny_mkInt ?_)
  show wpAny _ _ (setField (.ref e) 3 (rawInt ((n:Int) + 1)) >>= _) _ _ ⟨h1,gg,dd,tk + 1,os⟩
  refine wpAny_bind (wpAny_setField_rec e1 (by simp) fun h2 e2 b2 => ?_)
  replace b2:Heap.SameBut e h1 h2:=b2
  replace e2:IsEnum h2 e j ((n:Int) + 1) old:=e2
  show wpAny _ _ (setField (.ref e) 4 .none >>= _) _ _ ⟨h2,gg,dd,tk + 1,os⟩
  refine wpAny_bind (wpAny_setField_rec e2 (by simp) fun h3 e3 b3 => ?_)
  replace b3:Heap.SameBut e h2 h3:=b3
  replace e3:IsEnum h3 e j ((n:Int) + 1) old:=e3
  show wpAny _ _ (newTuple [.int n tk,v] >>= _) _ _ ⟨h3,gg,dd,tk + 1,os⟩
  refine wpAny_bind (wpAny_newTuple ?_)
  have e4:IsEnum (h3.push { cls:=.type "tuple",data:=.seq #[.int n tk,v] }) e j ((n:Int) + 1) old:=Heap.get?_push_of_some _ e3
  generalize g4:h3.push { cls:=.type "tuple",data:=.seq #[.int n tk,v] } = h4 at e4
  have z3:h3.objs.size = hp.objs.size:=by rw [b3.1,b2.1,b1.1]
  have le:e < hp.objs.size:=Heap.lt_size he
  have t4:h4.get? hp.objs.size = some { cls:=.type "tuple",data:=.seq #[.int n tk,v] }:=by rw [← g4,← z3]; exact Heap.get?_push_size _ rfl
  have k4:∀ b o,b ≠ e → b ≠ j → hp.get? b = some o → h4.get? b = some o:=fun b o x y z => by rw [← g4]; exact Heap.get?_push_of_some _ (b3.extBut b o x (b2.extBut b o x (b1.extBut b o y z)))
  have j4:h4.IsTupleIter j t (n + 1):=by
    rw [← g4]
    obtain ⟨o,ho,r⟩:=(j1.extBut b2.extBut (Ne.symm hej)).extBut b3.extBut (Ne.symm hej)
    exact ⟨o,Heap.get?_push_of_some _ ho,r⟩
  show wpAny _ _ (Builtin.SmallTypes.ownedTupleIsFree (.ref e) >>= _) _ _ ⟨h4,gg,dd,tk + 1,os⟩
  rw [z3]
  clear g4 e3 b3 e2 b2 e1 b1 j1 z3 h3 h2 h1
  refine wpAny_bind ?_
  unfold Builtin.SmallTypes.ownedTupleIsFree
  refine wpAny_bind (wpAny_field e4 rfl (x:=.none) rfl (wpAny_pure ?_))
  simp only [if_true]
  refine wpAny_bind (wpAny_rule (wpAny_bind (wpAny_field e4 rfl (x:=old) rfl (wpAny_bind (wpAny_setField_rec e4 (by simp) fun h5 e5 b5 => ?_)))))
  replace b5:Heap.SameBut e h4 h5:=b5
  replace e5:IsEnum h5 e j ((n:Int) + 1) v:=e5
  show wpAny _ _ (Builtin.SmallTypes.ownedTupleHandOut (.ref e) (.ref hp.objs.size) >>= _) _ _ ⟨h5,gg,dd,tk + 1,os⟩
  refine wpAny_bind ?_
  unfold Builtin.SmallTypes.ownedTupleHandOut
  refine wpAny_bind (wpAny_setField_rec e5 (by simp) fun h6 e6 b6 => ?_)
  replace b6:Heap.SameBut e h5 h6:=b6
  replace e6:IsEnumOut h6 e j ((n:Int) + 1) v hp.objs.size:=e6
  refine wpAny_setField_rec e6 (by simp) fun h7 e7 b7 => ?_
  replace b7:Heap.SameBut e h6 h7:=b7
  replace e7:IsEnumOut h7 e j ((n:Int) + 1) v hp.objs.size:=e7
  refine wpAny_bind (wpAny_letGo (wpAny_pure ⟨_,rfl,q h7 e7 ?_ ?_ fun b o x y z => b7.extBut b o x (b6.extBut b o x (b5.extBut b o x (k4 b o x y z)))⟩))
  · exact ((j4.extBut b5.extBut (Ne.symm hej)).extBut b6.extBut (Ne.symm hej)).extBut b7.extBut (Ne.symm hej)
  · exact b7.extBut _ _ (Nat.ne_of_gt le) (b6.extBut _ _ (Nat.ne_of_gt le) (b5.extBut _ _ (Nat.ne_of_gt le) t4))
theorem pyNext_enumT {e j t:Addr} {n:Nat} {its:Array Value} {v old:Value} {Q:Option Value → Shared → Prop} (he:IsEnum s.heap e j n old) (hj:s.heap.IsTupleIter j t n) (ht:s.heap.IsTuple t its) (hv:its[n]? = some v) (hej:e ≠ j)
    (q:∀ h',IsEnumOut h' e j ((n:Int) + 1) v s.heap.objs.size → h'.IsTupleIter j t (n + 1) → h'.get? s.heap.objs.size = some { cls:=.type "tuple",data:=.seq #[.int n s.toks,v] } →
      (∀ b o,b ≠ e → b ≠ j → s.heap.get? b = some o → h'.get? b = some o) → Q (some (.ref s.heap.objs.size)) { s with heap:=h',toks:=s.toks + 1 }):wpAny (model prog w) A (pyNext (.ref e)) Q E s:=by
  have ty:s.TypeIs (.ref e) "enumerate":=⟨_,he,rfl⟩
  unfold pyNext
  exact wpAny_bind (wpAny_attempt (wpAny_callSpecial?_slot (name:=Str.ofString "__next__") ty F.slot_enumerate_next (wpAny_call_entry F.slot_enumerate_next ty F.entry_enumerate_next
    (enumT_next he hj ht hv hej fun h' a b c k => wpAny_pure (q h' a b c k)) (F.args_enumerate_next_1 _))))
theorem pyNext_enumT_end {e j t:Addr} {n:Nat} {its:Array Value} {old:Value} {Q:Option Value → Shared → Prop} (hh:A.handled = none) (he:IsEnum s.heap e j n old) (hj:s.heap.IsTupleIter j t n) (ht:s.heap.IsTuple t its) (hv:its[n]? = none)
    (q:∀ h',Heap.ExtBut j s.heap h' → Q none { s with heap:=h' }):wpAny (model prog w) A (pyNext (.ref e)) Q E s:=by
  have ty:s.TypeIs (.ref e) "enumerate":=⟨_,he,rfl⟩
  unfold pyNext
  refine wpAny_bind (wpAny_attempt (wpAny_callSpecial?_slot (name:=Str.ofString "__next__") ty F.slot_enumerate_next (wpAny_call_entry F.slot_enumerate_next ty F.entry_enumerate_next ?_ (F.args_enumerate_next_1 _))))
  show wpAny _ _ (field (.ref e) 2 >>= _) _ _ s
  refine wpAny_bind (wpAny_field he rfl (x:=.ref j) rfl (wpAny_bind (nextT_end hh hj ht hv fun h' x b ⟨o,ho,hc⟩ => wpAny_bind (wpAny_isInstance (T:="StopIteration") (b:=true) ⟨o,ho,hc⟩ isSubtype_stop (wpAny_pure (q _ b))))))
open AutoSeq1 (wpAny_loadPart') in
theorem enumT_new (t:Addr) (its:Array Value) (n:Nat) (dct:Option Addr) (sl:Array (Option Value)) :
    Meets (Builtin.«enumerate.__new__» ⟨[.type "enumerate",.ref t],[]⟩) (fun _ R s => s.heap.get? t = some { cls:=.type "tuple",dict:=dct,data:=.seq its n,slots:=sl } ∧
      R (.ok (.ret (.ref (s.heap.push { cls:=.type "tuple_iterator",data:=.fields #[.ref t,.int 0 0] }).objs.size)))
        { s with heap:=(s.heap.push { cls:=.type "tuple_iterator",data:=.fields #[.ref t,.int 0 0] }).push { cls:=.type "enumerate",data:=.fields #[.none,.bool false,.ref s.heap.objs.size,rawInt 0,.none,.none] } }) :=
  .of_wp fun prog w A R s h => by
    obtain ⟨hp,gg,dd,tk,os⟩:=s
    obtain ⟨ho,h⟩:=h
    have hsub:=sub_enumerate
    have hT:Heap.IsTuple (Shared.heap ⟨hp,gg,dd,tk,os⟩) t its:=⟨_,ho,rfl,n,rfl⟩
    wp_walk using wpAny_loadPart' ho
    refine wpAny_stack_any fun st => wpAny_pure ?_
    split
    · rename_i c _ _ _ _ _
      cases (c == Value.type "enumerate") <;> (wp_walk using wpAny_loadPart' ho,wpAny_pyIter_tuple hT; exact ⟨_,rfl,h⟩)
    · wp_walk using wpAny_loadPart' ho,wpAny_pyIter_tuple hT
      exact ⟨_,rfl,h⟩
theorem call_enumT {t:Addr} {its:Array Value} {Q:Value → Shared → Prop} (hT:s.heap.IsTuple t its)
    (h:∀ h',IsEnum h' (s.heap.objs.size + 1) s.heap.objs.size 0 .none → h'.IsTupleIter s.heap.objs.size t 0 → (∀ b o,s.heap.get? b = some o → h'.get? b = some o) → Q (.ref (s.heap.objs.size + 1)) { s with heap:=h' }) :
    wpAny (model prog w) A (call (.type "enumerate") [.ref t]) Q E s:=by
  obtain ⟨⟨c,dct,dt,sl⟩,ho,hc,n,hd⟩:=hT
  replace hc:c = .type "tuple":=hc
  replace hd:dt = .seq its n:=hd
  subst hc hd
  refine callType_new F.called_enumerate (by decide) (F.typeCall_enumerate_1 _) (F.newCall_enumerate_1 _) (fun obj => F.args_object_init_2 obj _) F.entry_enumerate_new (enumT_new t its n dct sl) ⟨ho,?_⟩
  have hz:(s.heap.push { cls:=.type "tuple_iterator",data:=.fields #[.ref t,.int 0 0] }).objs.size = s.heap.objs.size + 1:=Heap.size_push ..
  show _ ∧ _
  rw [hz]
  have he:=Heap.get?_push_size (s.heap.push { cls:=.type "tuple_iterator",data:=.fields #[.ref t,.int 0 0] }) (o:={ cls:=.type "enumerate",data:=.fields #[.none,.bool false,.ref s.heap.objs.size,rawInt 0,.none,.none] }) rfl
  rw [hz] at he
  exact ⟨⟨_,he,rfl⟩,h _ he ⟨_,Heap.get?_push_of_some _ (Heap.get?_push_size _ rfl),rfl,rfl⟩ fun b o x => Heap.get?_push_of_some _ (Heap.get?_push_of_some _ x)⟩
end
noncomputable def Iten (K:PySem.W.Frag) (t:Addr):It :=
  ⟨fun i H => ∃ xs x,SqT K H t xs ∧ xs[i]? = some x,fun i H x H' => ∃ p y,H p = none ∧ x = .ref p ∧ H' = upd H p (.tup [.int i,y]) ∧ ∀ xs,SqT K H t xs → xs[i]? = some y,fun i H => ∃ xs,SqT K H t xs ∧ xs.length ≤ i⟩
theorem turn_enumT {P:Program} {w:World} {K:PySem.W.Frag} {es:List Expr} {k:Nat} {pos:Pos} (t e j:Addr) (hej:e ≠ j):Turn P w K (.Tuple es k pos) (Iten K t) [e,j] e (fun i h => (∃ old,IsEnum h e j (i:Nat) old) ∧ h.IsTupleIter j t i) where
  mem:=by simp
  obj:=fun i h st b hb => by
    obtain ⟨⟨old,he⟩,o,ho,_,hd⟩:=st
    rcases List.mem_cons.mp hb with rfl | hb
    · exact ⟨_,he,fun v z => by cases z⟩
    · obtain rfl:=List.mem_singleton.mp hb
      exact ⟨o,ho,fun v z => by rw [hd] at z; cases z⟩
  keep:=fun i h h' st k => by
    obtain ⟨⟨old,he⟩,o,ho,r⟩:=st
    exact ⟨⟨old,k e (by simp) _ he⟩,o,k j (by simp) o ho,r⟩
  item:=by
    intro X hP hw hK hc i pins s σ H E I hf st hg
    subst hP hw hK
    obtain ⟨⟨old,he⟩,hj⟩:=st
    obtain ⟨xs,x,hq,hx⟩:=hg
    obtain ⟨its,rv,p,hz⟩:=I.tuple hq
    obtain ⟨u,hu,ru⟩:=rv.get hx
    have fe:=hf e (by simp)
    have fj:=hf j (by simp)
    have le:e < s.heap.objs.size:=Heap.lt_size he
    have lj:j < s.heap.objs.size:=by obtain ⟨_,q,_⟩:=hj; exact Heap.lt_size q
    refine pyNext_enumT he hj (show s.heap.IsTuple t its.toArray from p) (v:=u) (by simpa using hu) hej fun h1 eo j1 t1 k1 => ⟨_,rfl,?_⟩
    refine wpAny_letOwnedTupleGo_enum eo fun h2 e2 b2 => ?_
    have t2:h2.get? s.heap.objs.size = some { cls:=.type "tuple",data:=.seq #[.int i s.toks,u] }:=(b2.2 _ (Nat.ne_of_gt le)).trans t1
    have hn:H s.heap.objs.size = none:=I.hok.fresh (Nat.le_refl _)
    have I2:Inv X pins σ (upd H s.heap.objs.size (.tup [.int i,x])) { s with heap:=h2,toks:=s.toks + 1 } :=
      I.turned2 (fun b ob x1 x2 z => (b2.2 b x1).trans (k1 b ob x1 x2 z)) fe fj (Nat.le_refl _) ⟨by show 2 ≤ sizeLine; decide,[.int i s.toks,u],.cons ⟨_,rfl⟩ (.cons ru .nil),_,t2,rfl,_,rfl⟩
    refine ⟨.ref s.heap.objs.size,_,I2,rfl,⟨_,x,hn,rfl,rfl,fun ys hy => by rw [I.tuple_inj hy hq]; exact hx⟩,⟨⟨u,?_⟩,?_⟩,fun b hb => ?_⟩
    · have ei:((i + 1:Nat):Int) = (i:Int) + 1:=by omega
      show IsEnum h2 e j ((i + 1:Nat):Int) u
      rw [ei]
      exact e2
    · obtain ⟨o,ho,r⟩:=j1
      exact ⟨o,(b2.2 j (Ne.symm hej)).trans ho,r⟩
    · rcases List.mem_cons.mp hb with rfl | hb
      · rw [upd_ne (Nat.ne_of_lt le)]
        exact fe.1
      · obtain rfl:=List.mem_singleton.mp hb
        rw [upd_ne (Nat.ne_of_lt lj)]
        exact fj.1
  done:=by
    intro X hP hw hK hc i pins s σ H E I hf st hg
    subst hP hw hK
    obtain ⟨⟨old,he⟩,hj⟩:=st
    obtain ⟨xs,hq,hx⟩:=hg
    obtain ⟨its,rv,p,hz⟩:=I.tuple hq
    obtain ⟨f0,f1,f2,f3,f4,f5⟩:=hf j (by simp)
    have hl:=rv.length
    exact pyNext_enumT_end (I.ok.hd hc) he hj (show s.heap.IsTuple t its.toArray from p) (by simp; omega) fun h' eb => ⟨rfl,I.turned (t':=s.toks) (fun b o hb q => eb b o hb q) f0 f1 f3 f4 f5⟩
  self:=fun _ _ _ _ _ st h => by
    obtain ⟨⟨old,he⟩,_⟩:=st
    exact wpAny_pyIter_enum he h
section
variable {X:Cx}
noncomputable def iEnT (K:PySem.W.Frag) (ta:TA):TI:=fun σ H R => ta σ H fun vs H1 => ∃ a xs,vs = [.ref a] ∧ SqT K H1 a xs ∧ R (Iten K a) H1
theorem pi_enT {l:Expr} {es:List Expr} {k:Nat} {ta:TA} {p pos tp:Pos} (hg:Gl X "enumerate") (hm:X.mg "enumerate" = none) (ha:PA X [l] ta) (hs:starEach [l] X.env = [(false,eval l X.env)]:=by rfl) :
    PI X (.Tuple es k tp) (.Call (.Name "enumerate" p) [l] [] pos) (iEnT X.K ta):=by
  intro pins s σ H R I h
  refine Call_ (ld_blt I hg hm boot_enumerate (PyProof.Rows.callWith_type1 (thn (ha pos pins s σ H _ I h) fun us s1 ⟨vs,H1,I1,r1,q1⟩ => ?_) hs rfl))
  obtain ⟨a,xs,e,hq,q⟩:=q1
  subst e
  obtain ⟨u,rfl,ru⟩:=vals1 r1
  cases ru
  obtain ⟨its,rv,pl,hz⟩:=I1.tuple hq
  refine call_enumT (show s1.heap.IsTuple a its.toArray from pl) fun h' he hj kk => ?_
  refine wpAny_pyIter_enum he ⟨s1.heap.objs.size + 1,[s1.heap.objs.size + 1,s1.heap.objs.size],_,_,H1,rfl,I1.kept (t':=s1.toks) kk,turn_enumT a _ _ (Nat.succ_ne_self _),⟨⟨_,he⟩,hj⟩,fun b hb => ?_,q⟩
  rcases List.mem_cons.mp hb with rfl | hb
  · exact I1.fpOk (Nat.le_succ _) (I1.hok.fresh (Nat.le_succ _))
  · obtain rfl:=List.mem_singleton.mp hb
    exact I1.fpOk (Nat.le_refl _) (I1.hok.fresh (Nat.le_refl _))
end
theorem for_enT {K:PySem.W.Frag} {a:Addr} {xs:List V} {g:TG} {tb:TS} {D:Ends} {σ:St} {H:Hp} (Pv:Nat → St → Hp → Prop) (h0:Pv 0 σ H) (hl:∀ i σ H,i ≤ xs.length → Pv i σ H → SqT K H a xs)
    (hs:∀ i y p σ H,xs[i]? = some y → H p = none → Pv i σ H → g (.ref p) σ (upd H p (.tup [.int i,y])) fun σ2 H2 => tb { D with nx:=Pv (i + 1),ct:=Pv (i + 1),bk:=D.nx } σ2 H2) (hd:∀ σ H,Pv xs.length σ H → D.nx σ H) :
    ∃ W:Nat → Nat → St → Hp → Prop,(∃ m,W 0 m σ H) ∧ ∀ i m σ H,W i m σ H →
      ((Iten K a).stop i H ∧ D.nx σ H) ∨ ((Iten K a).go i H ∧ ∃ N:St → Hp → Prop,(∀ σ' H',N σ' H' → ∃ m',m' < m ∧ W (i + 1) m' σ' H') ∧ ∀ x H',(Iten K a).yld i H x H' → g x σ H' fun σ2 H2 => tb { D with nx:=N,ct:=N,bk:=D.nx } σ2 H2):=by
  refine ⟨fun i m σ H => m = xs.length - i ∧ i ≤ xs.length ∧ Pv i σ H,⟨xs.length,by simp,Nat.zero_le _,h0⟩,?_⟩
  rintro i m σ H ⟨rfl,hi,p⟩
  have q:=hl i σ H hi p
  by_cases hlt:i < xs.length
  · refine .inr ⟨⟨xs,xs[i],q,by simp [hlt]⟩,Pv (i + 1),fun σ' H' p' => ⟨xs.length - (i + 1),by omega,rfl,hlt,p'⟩,fun x H' y => ?_⟩
    obtain ⟨b,z,hb,rfl,rfl,hz⟩:=y
    exact hs i z b σ H (hz xs q) hb p
  · obtain rfl:i = xs.length:=by omega
    exact .inl ⟨⟨xs,q,Nat.le_refl _⟩,hd σ H p⟩
end L2
namespace L2
open PySem PySem.Spec PyProof.Rows
section
variable {X:Cx} {pins:List (Addr × Obj)} {σ:St} {H H':Hp} {s:Shared} {h':Heap}
end
section
variable {X:Cx}
end
end L2
namespace L2
open PySem PySem.Spec PyProof.Rows
section
variable {X:Cx} {pins:List (Addr × Obj)} {σ:St} {H:Hp} {s:Shared} {d:Addr} {o:Obj} {u:HO}
end
section
variable {X:Cx}
end
end L2
namespace L2
open PySem PySem.Spec PyProof.Rows
section
variable {X:Cx} {tg:Expr}
end
end L2
namespace L2
open PySem PySem.Spec PyProof.Rows
section
variable {X:Cx} {tg:Expr}
end
end L2
namespace L2
open PySem PySem.Spec PyProof.Rows
section
variable {X:Cx}
end
end L2
namespace L2
open PySem PySem.Spec PyProof.Rows
section
variable {X:Cx} {K:PySem.W.Frag}
end
end L2
namespace L2
open PySem PySem.Spec PyProof.Rows
end L2
namespace L2
open PySem PySem.Spec PyProof.Rows
noncomputable def excInI (K:PySem.W.Frag) (C:Addr) (bmB:List Value) (newId:String):Bool:=match K.lookup C with | some ⟨.type "type",_,.cls cd,sl⟩ => (match cd.mro,sl.toList with | .ref C' :: bm,[_,_,_,_,some (.builtin n),_] => C' == C && n == newId && !cd.hasDel && PySem.W.tailIn K bmB bm | _,_ => false) | _ => false
structure ExcI (h:Heap) (C:Addr) (bmB:List Value) (newId:String):Prop where
  obj:∃ bm N nm q bs hdct sn sub ab col dd k0 k1 k2 k3 k5,h.get? C = some (excClassObj nm q C N bs bm hdct sn sub ab col dd k0 k1 k2 k3 k5 newId) ∧ OwnTail h bmB bm
section
variable {prog:Program} {w:World} {A:Around} {E:Value → Shared → Prop} {h:Heap} {g:Array GenState} {d:Drawn} {t:Nat} {os:OsState} {K:PySem.W.Frag} {C fI:Addr} {us:List Value}
end
section
variable {prog:Program} {w:World} {A:Around} {E:Value → Shared → Prop} {s:Shared} {env:Env} {K:PySem.W.Frag} {C fI:Addr}
end
end L2
namespace L2
open PySem PySem.Spec PyProof.Rows
noncomputable def cut (H:Hp) (x:Addr):Hp:=fun b => if b = x then none else H b
section
variable {X:Cx} {pins:List (Addr × Obj)} {σ:St} {H:Hp} {s:Shared} {x:Addr}
end
section
variable {P:Program} {w:World} {K:PySem.W.Frag} {mg:Str → Option Value} {base:Heap}
structure MkX (K:PySem.W.Frag) (C fI:Addr):Prop where
  ex:excInI K C bmVE "ValueError.__new__" = true
  init:PySem.W.findIn K (.ref C) "__init__" = some (some (.ref fI))
  fn:PySem.W.typeIn K (.ref fI) = some (.type "function")
end
end L2
namespace L2
open PySem PySem.Spec PyProof.Rows Builtin Builtin.ObjectAttr
noncomputable def refPass (l:List Value):Bool:=l.dropWhile (fun | .ref _ => true | _ => false) == bmVE
structure ExcSet (K:PySem.W.Frag) (C:Addr):Prop where
  sa:PySem.W.findIn K (.ref C) "__setattr__" = some (some (.builtin "object.__setattr__"))
  po:(PySem.W.clsIn K C).any (fun cd => refPass cd.mro) = true
  hd:PySem.W.hasDictIn K C = true
  ob:PySem.W.mroIn K C (.type "object") = some true
section
variable {prog:Program} {w:World} {A:Around} {E:Value → Shared → Prop} {s:Shared} {K:PySem.W.Frag} {x C:Addr} {name:Str} {v:Value}
end
section
variable {X:Cx} {pins:List (Addr × Obj)} {σ:St} {H H0:Hp} {s s0:Shared} {dx:Addr}
end
section
variable {X:Cx} {o value:Expr} {f:Str} {pos pos':Pos} {ta tv:TE}
end
end L2
namespace L2
open PySem PySem.Spec PyProof.Rows Builtin Builtin.ObjectAttr
structure BaseI (K:PySem.W.Frag) (R:Addr):Prop where
  ga:PySem.W.specialIn K (.ref R) "__getattribute__" = some (some (.builtin "type.__getattribute__"))
  rd:PySem.W.readsIn K R (.type "type") = true
  fi:PySem.W.findCls K (.ref R) (.type "type") "__init__" = some (.val (.builtin "ValueError.__init__"))
section
variable {X:Cx}
end
section
variable {prog:Program} {w:World} {A:Around} {E:Value → Shared → Prop} {s:Shared} {K:PySem.W.Frag} {x D:Addr} {name:Str} {v:Value}
end
section
variable {X:Cx} {e:Expr} {f:Str} {pos:Pos} {ta:TE}
end
end L2
namespace L2
open PySem PySem.Spec PyProof.Rows
structure Shw (d:PyData) (n m:Nat):Prop where
  sh:d.showable = true
  nd:d.hasDict = false
  dp:d.depth ≤ m
  ln:d.shown.length ≤ n
structure Shws (ds:List PyData) (n m:Nat):Prop where
  sh:PyData.showableAll ds = true
  nd:PyData.hasDictAll ds = false
  dp:PyData.depthAll ds ≤ m
  ln:piled (PyData.shownAll ds) ≤ n
theorem Shw.le {d:PyData} {n m n' m':Nat} (h:Shw d n m) (hn:n ≤ n') (hm:m ≤ m'):Shw d n' m':=⟨h.sh,h.nd,Nat.le_trans h.dp hm,Nat.le_trans h.ln hn⟩
theorem shw_str {y:Str} (h:PyData.strOk y = true) (m:Nat):Shw (.str y) (10 * y.length + 2) m:=by
  refine ⟨by simp only [PyData.showable],by simp only [PyData.hasDict],by simp only [PyData.depth]; omega,?_⟩
  simp only [PyData.shown]
  refine StrLaws.reprText_len y fun c hc => ?_
  have h1:y.cps.all (· < 0x110000) = true:=h
  rw [Array.all_eq_true_iff_forall_mem] at h1
  have h3:c < 0x110000:=by simpa using h1 c (by simpa using hc)
  exact Nat.lt_trans h3 (by decide)
theorem shws_nil (m:Nat):Shws [] 0 m:=⟨by simp only [PyData.showableAll],by simp only [PyData.hasDictAll],by simp only [PyData.depthAll]; omega,by simp only [PyData.shownAll]; exact Nat.le_refl 0⟩
theorem shws_cons {d:PyData} {ds:List PyData} {n n' m:Nat} (h:Shw d n m) (r:Shws ds n' m):Shws (d :: ds) (n + 2 + n') m:=by
  refine ⟨?_,?_,?_,?_⟩
  · simp only [PyData.showableAll,h.sh,r.sh,Bool.and_self]
  · simp only [PyData.hasDictAll,h.nd,r.nd,Bool.or_self]
  · simp only [PyData.depthAll]
    exact Nat.max_le.mpr ⟨h.dp,r.dp⟩
  · simp only [PyData.shownAll]
    rw [piled_cons]
    have:=h.ln
    have:=r.ln
    omega
theorem shw_tup {ds:List PyData} {n m:Nat} (h:Shws ds n m):Shw (.tuple ds) (n + 3) (m + 1):=by
  refine ⟨by simp only [PyData.showable]; exact h.sh,by simp only [PyData.hasDict]; exact h.nd,by simp only [PyData.depth]; exact Nat.succ_le_succ h.dp,?_⟩
  simp only [PyData.shown]
  have hl:=h.ln
  generalize PyData.shownAll ds = ts at hl
  unfold tupleText
  rw [strLen_append,strLen_append]
  have e1:(("(":Str)).length = 1:=rfl
  have e3:((if ts.length == 1 then ",)" else ")":String):Str).length ≤ 2:=by split <;> decide
  have e2:(Str.join ", " ts).length ≤ piled ts:=by
    by_cases z:ts = []
    · subst z; exact Nat.zero_le _
    · have:=join_length_add ts z; omega
  omega
section
variable {X:Cx} {k:Nat} {pos:Pos} {e:Expr} {te:TE}
theorem pe_frD (hr:Room k X.A) (he:PE X e te):PE X (.FormattedValue e 114 none pos) (fun σ H Q => te σ H fun v H1 => ∃ d n,Dat X.K H1 v d ∧ Shw d n 60 ∧ n ≤ 2000000 ∧ ∀ z:Str,z.length ≤ 2000000 → Q (.str z) H1):=by
  intro pins s σ H Q I h
  refine wpAny_FormattedValue_repr (thn (he pins s σ H _ I h) fun u s1 ⟨v,H1,I1,r,d,n,hd,sh,hn,q⟩ => ?_)
  have hl:d.shown.length ≤ 2000000:=Nat.le_trans sh.ln hn
  have hz:d.shown.length ≤ sizeLine:=Nat.le_trans hl (by rw [sizeLine_eq]; omega)
  have fin:∀ h' t tk,(∀ b o,s1.heap.get? b = some o → h'.get? b = some o) → wpAny (model X.prog X.w) X.A (formatField (.str d.shown t) Str.empty) (EP X pins σ Q) X.xe { s1 with heap:=h',toks:=tk }:=fun h' t tk hk =>
    formatField_str (fun t' tk' => ⟨.str _,H1,(I1.kept (h':=h') (t':=tk) hk).tok _,⟨_,rfl⟩,q _ hl⟩) hz
  obtain ⟨as,ra⟩:=Dat.reads I1 hd r
  have hu:=hr.units
  have ref:∀ a,u = .ref a → wpAny (model X.prog X.w) X.A (pyReprObj u) (fun r s2 => wpAny (model X.prog X.w) X.A (formatField r Str.empty) (EP X pins σ Q) X.xe s2) X.xe s1:=fun a e => by
    subst e
    exact pyReprObj_of_reads ra sh.sh (PyData.noDict_hsm sh.nd) hr.gd (by have:=sh.dp; omega) (fun _ _ z => z) (fun h' u tk hk => fin h' u tk hk) hz
  cases hd with
  | non =>
    cases r
    simp only [PyData.shown] at fin
    exact pyReprObj_none (fin s1.heap _ _ fun _ _ z => z)
  | bl b =>
    cases r
    simp only [PyData.shown] at fin
    exact pyReprObj_bool (fin s1.heap _ _ fun _ _ z => z)
  | int i =>
    obtain ⟨t,rfl⟩:=r
    have hs:=sh.sh
    simp only [PyData.showable,decide_eq_true_eq] at hs
    simp only [PyData.shown] at fin
    exact pyReprObj_int hs (fin s1.heap _ _ fun _ _ z => z)
  | str x =>
    obtain ⟨t,rfl⟩:=r
    simp only [PyData.shown] at fin hz
    exact pyReprObj_str (fin s1.heap _ _ fun _ _ z => z) hz
  | tup _ _ => cases r; exact ref _ rfl
  | lst _ _ => cases r; exact ref _ rfl
end
end L2
namespace L2
open PySem PySem.Spec PyProof.Rows
section
variable {α β:Type}
noncomputable abbrev Pos1:Shared → Prop:=fun s => 0 < s.toks
noncomputable def Estab (P:Shared → Prop) (t:Sem α):Prop:=∀ (M:Model) (Γ:PySem.Ctx) (Q:α → Pos → Shared → Prop) (E:Value → Pos → Shared → Prop) (p:Pos) (s:Shared),Sem.wp M Γ t Q E p s → Sem.wp M Γ t (fun a p' s' => Q a p' s' ∧ P s') E p s
variable {P:Shared → Prop}
theorem Estab.right {m:Sem α} {f:α → Sem β} (hf:∀ a,Estab P (f a)):Estab P (m >>= f):=fun M Γ Q E p s q => by
  rw [Sem.wp_bind'] at q ⊢
  exact Sem.wp_mono M Γ m (fun a p' s' z => hf a M Γ Q E p' s' z) (fun _ _ _ z => z) p s q
theorem Estab.left {m:Sem α} {f:α → Sem β} (hm:Estab P m) (hf:∀ a,Keeps P (f a)):Estab P (m >>= f):=fun M Γ Q E p s q => by
  rw [Sem.wp_bind'] at q ⊢
  exact Sem.wp_mono M Γ m (fun a p' s' z => Sem.wp_mono M Γ (f a) (fun _ _ _ y => y) (fun _ _ _ y => y.1) p' s' (hf a M Γ Q E p' s' z.2 z.1)) (fun _ _ _ z => z) p s (hm M Γ _ E p s q)
theorem Estab.wpAny {t:Sem α} (k:Estab P t) {M:Model} {A:Around} {Q:α → Shared → Prop} {E:Value → Shared → Prop} {s:Shared} (h:wpAny M A t Q E s):wpAny M A t (fun a s' => Q a s' ∧ P s') E s:=fun Γ p hΓ => k M Γ _ _ p s (h Γ p hΓ)
theorem estab_text (x:Str):Estab Pos1 (mkText x):=fun _ _ _ _ _ s q => ⟨q,Nat.succ_pos s.toks⟩
theorem Keeps.ldP {a:Addr} {pt:Option Value}:Keeps P (loadPart a pt):=fun _ _ _ _ _ _ h ⟨o,e,q⟩ => ⟨o,e,q,h⟩
theorem Keeps.upP {a:Addr} {pt:Option Value} {f:Obj → Obj}:Keeps Pos1 (updatePart a pt f):=fun _ _ _ _ _ _ h q => ⟨q.1,q.2,h⟩
theorem estab_nsSet {n:Addr} {x:Str} {v:Value}:Estab Pos1 (nsSet n x v):=by
  unfold nsSet
  refine Estab.right fun hs => Estab.left (estab_text x) fun key => Keeps.then Keeps.ldP fun o => ?_
  split
  · split
    · exact Keeps.then (Keeps.no _) fun _ => Keeps.upP
    · exact Keeps.upP
  · exact Keeps.no _
theorem estab_store {env:Env} {x:Str} {v:Value} (hk:env.kindOf x = some .local) (hs:env.scope.kind = .function):Estab Pos1 (storeName env x v):=by
  unfold storeName
  rw [hk,hs]
  exact estab_nsSet
theorem estab_env {scope:Scope} {g:Addr} {x:Str} {v:Value} {qual:Str} {func:Option Addr} {code:Value} {bl:Addr} (hk:scope.names.lookup x = some .local) (hs:scope.kind = .function) :
    Estab Pos1 (newFunctionEnv scope g [] [(x,v)] qual func code none bl):=by
  simp only [newFunctionEnv]
  refine Estab.right fun locals => Estab.right fun cells => ?_
  simp only [List.forIn_cons,List.forIn_nil]
  refine Estab.left (Estab.left (Estab.left (estab_store (env:=_) hk hs) fun _ => Keeps.ret _) fun r => ?_) fun _ => Keeps.ret _
  cases r <;> exact Keeps.ret _
end
noncomputable def PSsP (X:Cx) (st:List Stmt) (t:TS):Prop :=
  ∀ (pins:List (Addr × Obj)) (s:Shared) (σ:St) (H:Hp) (D:Ends),0 < s.toks → Inv X pins σ H s → t D σ H → wpAny (model X.prog X.w) X.A (execs st X.env) (SP X pins D) X.xe s
noncomputable def PSP (X:Cx) (st:Stmt) (t:TS):Prop :=
  ∀ (pins:List (Addr × Obj)) (s:Shared) (σ:St) (H:Hp) (D:Ends),0 < s.toks → Inv X pins σ H s → t D σ H → wpAny (model X.prog X.w) X.A (exec st X.env) (SP X pins D) X.xe s
noncomputable def PEP (X:Cx) (e:Expr) (t:TE):Prop :=
  ∀ (pins:List (Addr × Obj)) (s:Shared) (σ:St) (H:Hp) (Q:VK),0 < s.toks → Inv X pins σ H s → t σ H Q → wpAny (model X.prog X.w) X.A (eval e X.env) (fun u s' => 0 < s'.toks ∧ EP X pins σ Q u s') X.xe s
section
variable {X:Cx} {st:Stmt} {rest:List Stmt} {t u:TS} {pos:Pos}
theorem psp_cons (h1:PSP X st t) (h2:PSs X rest u):PSsP X (st :: rest) (tSeq t u):=by
  intro pins s σ H D hp I h
  refine wpAny_execs_cons (thn (h1 pins s σ H { D with nx:=u D } hp I h) fun f s1 q => ?_)
  cases f with
  | next =>
    obtain ⟨σ',H',I',q⟩:=q
    exact h2 pins s1 σ' H' D I' q
  | ret v => exact q
  | brk => exact q
  | cont => exact q
theorem psp_set {i:Nat} {x:Str} {e:Expr} {te:TE} {pos':Pos} (hN:X.N.Nodup) (hi:X.N[i]? = some x) (hx:Loc X.env.scope x) (he:PEP X e te) (hs:swapsWith e (some (.Name x pos')) pos.line X.env = pure false:=by rfl) (hf:X.fn x = true ∨ X.env.scope.names.lookup x = some .local:=by first | exact .inl rfl | exact .inr rfl | assumption) :
    PSP X (.Assign [.Name x pos'] e pos) (tAsg te (gName i)):=by
  intro pins s σ H D hp I h
  refine wpAny_Assign_Name (thn (he pins s σ H _ hp I h) fun v s1 ⟨_,y,H1,I1,r1,q1⟩ => ?_) hs
  exact store_ok I1 hN hi hx r1 (fun s2 I2 => ⟨_,H1,I2,q1⟩) hf
theorem pep_var {i:Nat} {x:Str} (hN:X.N[i]? = some x) (hv:X.env.scope.names.lookup x = some .local) (hd:(x == ("__debug__":Str)) = false:=by decide):PEP X (.Name x pos) (tVar i):=by
  intro pins s σ H Q hp I h
  obtain ⟨v,e,h⟩:=h
  obtain ⟨m,hn,hl⟩:=I.loc
  obtain ⟨u,r,l⟩:=hl i x v hN e (.inl hv)
  rcases l with ⟨hk,hm⟩ | ⟨hk,_⟩
  · exact wpAny_Name (wpAny_loadName_local I.ok.kind hk hn hm ⟨hp,v,H,I,r,h⟩) hd
  · have hk':X.env.kindOf x = some .local:=hv
    rw [hk'] at hk
    rcases hk with z | z <;> cases z
theorem replace_up {prog:Program} {w:World} {A:Around} {E:Value → Shared → Prop} {s:Shared} {x y z:Str} {t u v:Tok} {Q:Value → Shared → Prop} (hu:u ≠ 0) (hv:v ≠ 0) (huv:u ≠ v) (hyz:(y == z) = false) (hb:x.length + (x.length + 1) * z.length ≤ 16777216)
    (hq:∀ t' k,s.toks ≤ k → Q (.str (Txt.replace x y z) t') { s with toks:=k }):wpAny (model prog w) A (call (.builtin "str.replace") [.str x t,.str y u,.str z v]) Q E s:=by
  have few:Builtin.Str.tooLong (x.length + (Builtin.Str.occurrences x y 0 x.length (x.length + 1)).length * z.length) = false:=by
    have a1:=StrLaws.occ_length_le x y 0 x.length (x.length + 1)
    have a2:(Builtin.Str.occurrences x y 0 x.length (x.length + 1)).length * z.length ≤ (x.length + 1) * z.length:=Nat.mul_le_mul_right _ a1
    unfold Builtin.Str.tooLong sizeLine
    exact decide_eq_false (by have e:(2:Nat) ^ 24 = 16777216:=by decide
                              omega)
  refine call_gives F.slot_str_replace (typeIs_str _ _ _) F.entry_str_replace (F.args_str_replace_3 _ _ _) (gives_str_replace x y z t u v fun _ => ⟨by simp [hu,hv],by simp [huv],hyz,few⟩) ?_
  have q2:=hq
  unfold Txt.replace at q2
  cases hc:((Builtin.Str.occurrences x y 0 x.length (x.length + 1)).isEmpty || (y.length == 0 && z.length == 0)) with
  | false =>
    rw [hc] at q2
    simp only [Bool.false_eq_true,if_false] at q2 ⊢
    exact ⟨fits_replaced y hb,q2 _ _ (Nat.le_succ _)⟩
  | true =>
    rw [hc] at q2
    simp only [if_true] at q2 ⊢
    exact q2 t s.toks (Nat.le_refl _)
theorem pep_replace {o:Expr} {to:TE} {y z:Str} {j1 j2:Nat} {p1 p2 apos cpos:Pos} (ho:PEP X o to) (hyz:(y == z) = false) (hz:z.length ≤ 14)
    (hbase:attributeBase o "replace" X.env (eval o X.env) = eval o X.env:=by rfl)
    (hfew:((backTo cpos (starEach [.Constant (.str y) j1 p1,.Constant (.str z) j2 p2] X.env)).all (fun x => !x.1) && (backToKw cpos (keywordEach [] X.env)).all (fun x => x.1.isSome)
      && decide (([.Constant (.str y) j1 p1,.Constant (.str z) j2 p2]:List Expr).length + ([]:List Keyword).length + (if ([]:List Keyword).isEmpty then 0 else 1) < 30)) = true:=by rfl)
    (hline:(apos.endLine == cpos.line) = true:=by rfl) :
    PEP X (.Call (.Attribute o "replace" apos) [.Constant (.str y) j1 p1,.Constant (.str z) j2 p2] [] cpos) (fun σ H Q => to σ H fun v H1 => ∃ x,v = .str x ∧ x.length ≤ 1000000 ∧ Q (.str (Txt.replace x y z)) H1):=by
  intro pins s σ H Q hp I h
  refine wpAny_Call_method_late hbase hfew hline rfl (thn (ho pins s σ H _ hp I h) fun v s1 ⟨hp1,x',H1,I1,r1,x,ex,hl,q1⟩ => ?_)
  subst ex
  obtain ⟨tk,rfl⟩:=(show ∃ t,v = Value.str x t from r1)
  refine ⟨"str","str.replace",PySem.F.plainAttrs_str,PySem.F.slot_str_replace,PySem.F.type_str_replace,typeIs_str _ _ _,(fun _ z => nomatch z),?_⟩
  refine Calls.callWith_builtin rfl (Calls.evalArgs_plain (Calls.spliced_cons (Calls.Constant_str (k:=j1) (pos:=p1) (Calls.spliced_cons (Calls.Constant_str (k:=j2) (pos:=p2) (Calls.spliced_nil ?_))))))
  have hb:x.length + (x.length + 1) * z.length ≤ 16777216:=by
    have a1:(x.length + 1) * z.length ≤ (x.length + 1) * 14:=Nat.mul_le_mul_left _ hz
    omega
  exact replace_up (u:=s1.toks) (v:=s1.toks + 1) (Nat.ne_of_gt hp1) (Nat.succ_ne_zero _) (Nat.ne_of_lt (Nat.lt_succ_self _)) hyz hb fun t' k hk => ⟨Nat.lt_of_lt_of_le (Nat.succ_pos _) hk,.str _,H1,I1.tok k,⟨_,rfl⟩,q1⟩
end
theorem fn_ofP {CX:CXT} {P:Program} {w:World} {K:PySem.W.Frag} {mg:Str → Option Value} {base:Heap} {k:Nat} {f:Addr} {name qual:Str} {params:Arguments} {body:List Stmt} {scope:Scope} {dV kV doc pm cdv ct oc:Value} {an od:Option Addr}
    {osl:Array (Option Value)} {N:List Str} {x:Str} {sp:Sp} (lk:K.lookup f = some ⟨oc,od,.func (PySem.W.fnOf name qual params body scope dV kV doc pm an cdv ct),osl⟩) (hcd:PySem.W.codeIn K cdv qual = true) (S:FnScope N [x] scope) (hloc:scope.names.lookup x = some .local)
    (len:∀ vs H Q E,sp vs H Q E → vs.length = 1)
    (hbody:∀ (A:Around) (outer:List Env) (s:Shared) (H:Hp) (vs:List V) (Q:VK) (E:XK),Room k (A.deeper (envOfC qual scope s.heap.objs.size f cdv)) → sp vs H Q E →
      ∃ t,PSsP (cxOf CX P w K mg base N qual scope f cdv A outer s H E) body t ∧ t { nx:=fun _ H' => Q .non H',rt:=Q } (start N vs) H) :
    FnOk P w K mg base CX (k + 1) f (PySem.W.fnOf name qual params body scope dV kV doc pm an cdv ct) [x] sp:=by
  refine ⟨len,fun A outer s H args us vs Q E hr e0 hb r hsp => ?_⟩
  have hl:=len _ _ _ _ hsp
  obtain ⟨u,rfl⟩:∃ u,us = [u]:=by
    have e:=r.length
    rw [hl] at e
    match us,e with
    | [u],_ => exact ⟨u,rfl⟩
  have KX:K.In s.heap:=e0.mod.kin.keeps fun b o e => (e0.bs b o e).1
  have lim:s.heap.NoLimit:=e0.mod.nolimit.keeps fun b o e => (e0.bs b o e).1
  have hkind:∀ y ∈ [x].zip [u],scope.names.lookup y.1 = some .local ∨ (scope.names.lookup y.1 = some .cell ∧ ((cellsFrom (s.heap.objs.size + 1) scope.names []).lookup y.1).isSome = true):=fun ⟨n,v⟩ hy => by
    have e:(n,v) = (x,u):=List.mem_singleton.mp hy
    cases e
    exact .inl hloc
  refine codeAny_call_function hr.depth (KX _ _ lk) rfl S.co S.gen rfl (PySem.W.codeRec_of KX hcd) (hb _ _ _ _ ?_)
  refine wpAny_mono ((estab_env hloc S.kind).wpAny (wpAny_newFunctionEnv_cells (Q:=fun env s1 => env = newEnv scope s.heap.objs.size _ (cellsFrom (s.heap.objs.size + 1) scope.names []) _ _ _ none _ ∧ InCallC s env.locals (bindL env.kindOf ([x].zip [u]) fun _ => none) env.cells (bindC env.kindOf ([x].zip [u]) fun _ => none) s1) S.kind hkind fun env he s1 y => ⟨he,y⟩)) (fun env s1 z => ?_) fun _ _ z => z
  obtain ⟨⟨he,x1⟩,hp⟩:=z
  subst he
  refine ⟨lim.keeps x1.toInCall.keep,codeAny_func ?_⟩
  obtain ⟨t,ht,hq⟩:=hbody A outer s H vs Q E (hr.deeper _) hsp
  have I:Inv (cxOf CX P w K mg base N qual scope f cdv A outer s H E) [] (start N vs) H s1:=inv_start S hr.hd e0 hl r x1
  refine wpAny_mono (ht [] s1 (start N vs) H _ hp I hq) (fun fl s' hs => ?_) fun e s' hs => hs
  have fin:∀ {σ':St} {H':Hp} {v:V} {u:Value},Inv (cxOf CX P w K mg base N qual scope f cdv A outer s H E) [] σ' H' s' → RelV v u → Q v H' → CE outer P w H s Q u s' :=
    fun {σ' H' v u} J rv q => ⟨v,H',J.os,J.bare,J.base,J.hok,rv,q⟩
  cases fl with
  | ret u =>
    obtain ⟨v,σ',H',J,rv,q⟩:=hs
    exact fin J rv q
  | next =>
    obtain ⟨σ',H',J,q⟩:=hs
    exact fin (v:=V.non) (u:=Value.none) J rfl q
  | brk =>
    obtain ⟨_,_,_,q⟩:=hs
    exact False.elim q
  | cont =>
    obtain ⟨_,_,_,q⟩:=hs
    exact False.elim q
theorem PSsP.nox {X:Cx} {b:List Stmt} {t:TS} (h:PSsP X.nox b t):PSsP X b t:=fun pins s σ H D hp I hw =>
  wpAny_mono (h pins s σ H D hp (I.wish _) hw) (fun _ _ q => q.unwish) fun _ _ z => False.elim z
theorem Fun.okP {P:Program} {w:World} {K:PySem.W.Frag} {mg:Str → Option Value} {base:Heap} {y qual:Str} {st:Stmt} {f:Addr} {fd:FuncData} {N:List Str} {x:Str} {k:Nat} {sp:Sp} (F:Fun K y qual st f fd) (S:FnScope N [x] (defScope st)) (hloc:(defScope st).names.lookup x = some .local) (len:∀ vs H Q E,sp vs H Q E → vs.length = 1)
    (hbody:∀ (cdv:Value) (A:Around) (outer:List Env) (s:Shared) (H:Hp) (vs:List V) (Q:VK) (E:XK),Room k (A.deeper (envOfC qual (defScope st) s.heap.objs.size f cdv)) → sp vs H Q E →
      ∃ t,PSsP (cxOf CX0 P w K mg base N qual (defScope st) f cdv A outer s H E).nox (defBody st) t ∧ t { nx:=fun _ H' => Q .non H',rt:=Q } (start N vs) H):FnOk P w K mg base CX0 (k + 1) f fd [x] sp:=by
  obtain ⟨oc,od,kV,doc,pm,an,cdv,ct,osl,rfl,lk,hcd⟩:=F.ex
  refine fn_ofP lk hcd S hloc len fun A outer s H vs Q E hr hsp => ?_
  obtain ⟨t,h,q⟩:=hbody cdv A outer s H vs Q E hr hsp
  exact ⟨t,h.nox,q⟩
section
variable {X:Cx}
theorem vals_strs:∀ l:List (Str × Tok),Vals ((l.map (·.1)).map V.str) (strValues l)
  | [] => .nil
  | (x,t) :: r => .cons ⟨t,rfl⟩ (vals_strs r)
theorem mt_split:MtR X "str.split" (fun x vs H Q => ∃ z sep,x = .str z ∧ vs = [.str sep] ∧ (sep.length == 0) = false ∧ z.length ≤ 1000000 ∧ (Txt.split z sep).length ≤ 1000000 ∧ ∀ l,H l = none → Q (.ref l) (upd H l (.lst ((Txt.split z sep).map V.str)))):=by
  intro pins s σ H x vs v us Q I rx rv h
  obtain ⟨z,sep,rfl,rfl,h0,hl,hl2,q⟩:=h
  obtain ⟨t,rfl⟩:=rx
  obtain ⟨u1,rfl,r1⟩:=vals1 rv
  obtain ⟨t1,rfl⟩:=r1
  have hz:z.length ≤ sizeLine:=Nat.le_trans hl (by rw [sizeLine_eq]; omega)
  have fin:∀ (l:List (Str × Tok)) (k:Nat),l.map (·.1) = Txt.split z sep → EP X pins σ Q (.ref s.heap.objs.size) { s with toks:=k,heap:=s.heap.push { cls:=.type "list",data:=.seq (strValues l).toArray } }:=fun l k e => by
    refine ⟨.ref s.heap.objs.size,_,I.laid (o:=.lst ((Txt.split z sep).map V.str)) (t':=k) (fun b ob y => Heap.get?_push_of_some _ y) (Nat.le_refl _) ⟨?_,strValues l,_,?_,Heap.get?_push_size _ rfl⟩,rfl,q _ (I.hok.fresh (Nat.le_refl _))⟩
    · rw [List.length_map]
      exact Nat.le_trans hl2 (by rw [sizeLine_eq]; omega)
    · rw [← e]
      exact vals_strs l
  cases h1:(decide (z.length < sep.length) || decide (Builtin.Str.strKind z < Builtin.Str.strKind sep)) with
  | true => exact call_meets F.slot_str_split (typeIs_str _ _ _) F.entry_str_split (F.args_str_split_2 _ _) (meets_str_split_cannot_occur z sep t t1 h1) (fin [(z,t)] s.toks (if_pos h1).symm)
  | false =>
    cases hf:(Builtin.Str.occurrences z sep 0 z.length (z.length + 1)).isEmpty with
    | true => exact call_meets F.slot_str_split (typeIs_str _ _ _) F.entry_str_split (F.args_str_split_2 _ _) (meets_str_split_not_found z sep t t1 h1 h0 hf) (fin [(z,t)] s.toks ((if_neg (ne_true_of_eq_false h1)).trans (if_pos hf)).symm)
    | false =>
      have e3:Txt.split z sep = Builtin.Str.partsBetween z (Builtin.Str.occurrences z sep 0 z.length (z.length + 1)) sep.length:=(if_neg (ne_true_of_eq_false h1)).trans (if_neg (ne_true_of_eq_false hf))
      have hz2:(Builtin.Str.partsBetween z (Builtin.Str.occurrences z sep 0 z.length (z.length + 1)) sep.length).length ≤ sizeLine:=by
        rw [← e3]
        exact Nat.le_trans hl2 (by rw [sizeLine_eq]; omega)
      refine call_meets F.slot_str_split (typeIs_str _ _ _) F.entry_str_split (F.args_str_split_2 _ _) (meets_str_split_sep z sep t t1 h1 h0 hf hz hz2) ?_
      show wants (EP X pins σ Q) X.xe _ { s with toks:=_,heap:=s.heap.push { cls:=.type "list",data:=.seq (strsFrom s.toks (Builtin.Str.partsBetween z (Builtin.Str.occurrences z sep 0 z.length (z.length + 1)) sep.length)).toArray } }
      rw [strsFrom_eq]
      exact fin (numbered s.toks _) _ ((numbered_texts _ _).trans e3.symm)
end
end L2
local macro_rules
  | `(sortPriv% $n:ident) => do
    if n.getId == `rn then return Lean.mkCIdent (Lean.mkPrivateNameCore `PySem.Builtin.Int.W0All `PySem.Builtin.readNumeral)
    if n.getId == `vl then return Lean.mkCIdent (Lean.mkPrivateNameCore `PySem.Builtin.Int.W0All `PySem.Builtin.Numeral.value)
    if n.getId == `nd then return Lean.mkCIdent (Lean.mkPrivateNameCore `PySem.Builtin.Int.W0All `PySem.Builtin.numeralDigits?)
    if n.getId == `bl then return Lean.mkCIdent (Lean.mkPrivateNameCore `PySem.Builtin.Int.W0All `PySem.Builtin.isBlank)
    Lean.Macro.throwUnsupported
namespace L2
open PySem
theorem nd_step (f:Array Nat × Bool → Nat → Option (Array Nat × Bool)) (hf:∀ ds b c,48 ≤ c → c ≤ 57 → f (ds,b) c = some (ds.push (c - 48),true)) :
    ∀ (cs:List Nat) (ds:Array Nat) (b:Bool),(∀ c ∈ cs,48 ≤ c ∧ c ≤ 57) → List.foldlM f (ds,b) cs = some (ds ++ (cs.map (· - 48)).toArray,b || !cs.isEmpty)
  | [],ds,b,_ => by simp
  | c :: cs,ds,b,h => by
    obtain ⟨h1,h2⟩:=h c List.mem_cons_self
    rw [List.foldlM_cons,hf ds b c h1 h2]
    show List.foldlM f (ds.push (c - 48),true) cs = _
    rw [nd_step f hf cs _ _ fun d hd => h d (List.mem_cons_of_mem _ hd)]
    simp
theorem nd_digits (cs:List Nat) (hne:cs ≠ []) (h:∀ c ∈ cs,48 ≤ c ∧ c ≤ 57):(sortPriv% nd) 10 cs = some (cs.map (· - 48)).toArray:=by
  show (List.foldlM _ (#[],false) cs >>= _) = _
  rw [nd_step _ (fun ds b c h1 h2 => ?_) cs #[] false h]
  · cases cs with
    | nil => exact absurd rfl hne
    | cons c r =>
      show some _ = some _
      simp
  · have:c = 48 ∨ c = 49 ∨ c = 50 ∨ c = 51 ∨ c = 52 ∨ c = 53 ∨ c = 54 ∨ c = 55 ∨ c = 56 ∨ c = 57:=by omega
    rcases this with rfl | rfl | rfl | rfl | rfl | rfl | rfl | rfl | rfl | rfl <;> rfl
theorem bl_digit (c:Nat) (h:48 ≤ c ∧ c ≤ 57):(sortPriv% bl) c = false:=by
  have:c = 48 ∨ c = 49 ∨ c = 50 ∨ c = 51 ∨ c = 52 ∨ c = 53 ∨ c = 54 ∨ c = 55 ∨ c = 56 ∨ c = 57:=by omega
  rcases this with rfl | rfl | rfl | rfl | rfl | rfl | rfl | rfl | rfl | rfl <;> rfl
theorem drop_none {p:Nat → Bool}:∀ {cs:List Nat},(∀ c ∈ cs,p c = false) → cs.dropWhile p = cs
  | [],_ => rfl
  | c :: r,h => by rw [List.dropWhile_cons,h c List.mem_cons_self]; rfl
noncomputable def numOf (cs:List Nat):Nat:=cs.foldl (fun a c => a * 10 + (c - 48)) 0
theorem rn_digits (c0:Nat) (r:List Nat) (h0:49 ≤ c0 ∧ c0 ≤ 57) (h:∀ c ∈ r,48 ≤ c ∧ c ≤ 57) (hl:r.length ≤ 100):(sortPriv% rn) 0 10 (c0 :: r) = (sortPriv% vl) (numOf (c0 :: r)):=by
  have hall:∀ c ∈ c0 :: r,48 ≤ c ∧ c ≤ 57:=fun c hc => by
    rcases List.mem_cons.mp hc with rfl | hc
    · omega
    · exact h c hc
  have e2:(List.dropWhile (sortPriv% bl) (c0 :: r).reverse).reverse = c0 :: r:=by
    rw [drop_none fun c hc => bl_digit c (hall c (List.mem_reverse.mp hc)),List.reverse_reverse]
  have e1:(sortPriv% nd) 10 (List.dropWhile (sortPriv% bl) (c0 :: r).reverse).reverse = some ((c0 :: r).map (· - 48)).toArray:=by
    rw [e2]
    exact nd_digits _ (by simp) hall
  have sz:¬ ((c0 :: r).map (· - 48)).toArray.size > 6000:=by
    rw [List.size_toArray,List.length_map,List.length_cons]
    omega
  have fin:((c0 :: r).map (· - 48)).toArray.foldl (fun acc d => acc * 10 + d) 0 = numOf (c0 :: r):=by
    rw [List.foldl_toArray,List.foldl_map]
    rfl
  have:c0 = 49 ∨ c0 = 50 ∨ c0 = 51 ∨ c0 = 52 ∨ c0 = 53 ∨ c0 = 54 ∨ c0 = 55 ∨ c0 = 56 ∨ c0 = 57:=by omega
  rcases this with rfl | rfl | rfl | rfl | rfl | rfl | rfl | rfl | rfl
  all_goals
    conv => lhs; whnf
    rw [drop_none (cs:=_ :: r) fun c hc => bl_digit c (hall c hc),e1]
    dsimp only
    rw [if_neg (by simp),if_neg (by rw [Bool.and_eq_true]; exact fun z => sz (of_decide_eq_true z.2)),fin]
    rfl
noncomputable def NumTx (cs:List Nat):Prop:=cs = [48] ∨ ∃ c0 r,cs = c0 :: r ∧ (49 ≤ c0 ∧ c0 ≤ 57) ∧ (∀ c ∈ r,48 ≤ c ∧ c ≤ 57) ∧ r.length ≤ 100
theorem NumTx.all {cs:List Nat} (h:NumTx cs):(∀ c ∈ cs,48 ≤ c ∧ c ≤ 57) ∧ cs.length ≤ 101:=by
  rcases h with rfl | ⟨c0,r,rfl,h0,hr,hl⟩
  · exact ⟨by decide,by decide⟩
  · refine ⟨fun c hc => ?_,by rw [List.length_cons]; omega⟩
    rcases List.mem_cons.mp hc with rfl | hc
    · omega
    · exact hr c hc
theorem rn_num {cs:List Nat} (h:NumTx cs):(sortPriv% rn) 0 10 cs = (sortPriv% vl) (numOf cs):=by
  rcases h with rfl | ⟨c0,r,rfl,h0,hr,hl⟩
  · rfl
  · exact rn_digits c0 r h0 hr hl
theorem take_all {p:Nat → Bool}:∀ {cs:List Nat},(∀ c ∈ cs,p c = true) → cs.takeWhile p = cs
  | [],_ => rfl
  | c :: r,h => by rw [List.takeWhile_cons,h c List.mem_cons_self,take_all fun d hd => h d (List.mem_cons_of_mem _ hd)]; rfl
theorem nolook_str_int:typeLookup (.type "str") "__int__" = pure none:=by rw [typeLookup_type,builtinLookup_eq_fast]; kernel_rfl
theorem nolook_str_index:typeLookup (.type "str") "__index__" = pure none:=by rw [typeLookup_type,builtinLookup_eq_fast]; kernel_rfl
theorem nolook_str_trunc:typeLookup (.type "str") "__trunc__" = pure none:=by rw [typeLookup_type,builtinLookup_eq_fast]; kernel_rfl
set_option maxHeartbeats 0 in
theorem meets_int_new_str (z:Str) (u:Tok) (h:NumTx z.cps.toList):Meets (Builtin.«int.__new__» ⟨[.type "int",.str z u],[]⟩) (Made.int (numOf z.cps.toList)).spec :=
  Meets.of_wp fun prog w A R s hs => by
    obtain ⟨hp,g,d,tk,os⟩:=s
    have f1:=F.conv_sub_int
    have f2:=F.madeHere_int
    have hT:(⟨hp,g,d,tk,os⟩:Shared).TypeIs (.str z u) "str":=rfl
    have f3:=nolook_str_int
    have f4:=nolook_str_index
    have f5:=nolook_str_trunc
    obtain ⟨ha,hl⟩:=h.all
    have e1:(z.cps.all fun x => decide (x < 128)) = true:=by
      rw [Array.all_eq_true_iff_forall_mem]
      intro x hx
      have:=ha x (by simpa using hx)
      exact decide_eq_true (by omega)
    have e2:List.takeWhile (fun x => x != 0) z.cps.toList = z.cps.toList:=take_all fun c hc => by
      have:=ha c hc
      rw [bne_iff_ne]
      omega
    repeat (any_goals (first | assumption | wp_step))
    rw [if_pos e1,e2,if_pos (by omega)]
    repeat (any_goals (first | assumption | wp_step))
    rw [rn_num h]
    dsimp only
    rw [if_pos (beq_self_eq_true _)]
    repeat (any_goals (first | assumption | wp_step))
    all_goals first | exact ⟨_,rfl,hs⟩ | skip
theorem digit_code {k:Nat} (h:k < 10):(Nat.digitChar k).toNat = 48 + k:=by
  have:k = 0 ∨ k = 1 ∨ k = 2 ∨ k = 3 ∨ k = 4 ∨ k = 5 ∨ k = 6 ∨ k = 7 ∨ k = 8 ∨ k = 9:=by omega
  rcases this with rfl | rfl | rfl | rfl | rfl | rfl | rfl | rfl | rfl | rfl <;> rfl
noncomputable def figs (n:Nat):List Nat:=(Nat.toDigits 10 n).map Char.toNat
theorem figs_lt {n:Nat} (h:n < 10):figs n = [48 + n]:=by
  unfold figs
  rw [Nat.toDigits_of_lt_base h]
  show [(Nat.digitChar n).toNat] = _
  rw [digit_code h]
theorem figs_ge {n:Nat} (h:¬ n < 10):figs n = figs (n / 10) ++ [48 + n % 10]:=by
  unfold figs
  rw [Nat.toDigits_eq_if (by decide),if_neg h,List.map_append]
  show _ ++ [(Nat.digitChar (n % 10)).toNat] = _
  rw [digit_code (Nat.mod_lt _ (by decide))]
theorem numOf_snoc (xs:List Nat) (c:Nat):numOf (xs ++ [c]) = numOf xs * 10 + (c - 48):=by
  unfold numOf
  rw [List.foldl_append]
  rfl
theorem numOf_figs (n:Nat):numOf (figs n) = n:=by
  induction n using Nat.strongRecOn with
  | ind n ih =>
    by_cases h:n < 10
    · rw [figs_lt h]
      show 0 * 10 + (48 + n - 48) = n
      omega
    · rw [figs_ge h,numOf_snoc,ih (n / 10) (by omega)]
      omega
theorem figs_head (n:Nat) (h1:1 ≤ n):∃ c0 r,figs n = c0 :: r ∧ (49 ≤ c0 ∧ c0 ≤ 57) ∧ ∀ c ∈ r,48 ≤ c ∧ c ≤ 57:=by
  induction n using Nat.strongRecOn with
  | ind n ih =>
    by_cases h:n < 10
    · exact ⟨48 + n,[],figs_lt h,⟨by omega,by omega⟩,fun c hc => nomatch hc⟩
    · obtain ⟨c0,r,e,h0,hr⟩:=ih (n / 10) (by omega) (by omega)
      refine ⟨c0,r ++ [48 + n % 10],by rw [figs_ge h,e]; rfl,h0,fun c hc => ?_⟩
      rcases List.mem_append.mp hc with z | z
      · exact hr c z
      · rw [List.mem_singleton.mp z]
        omega
theorem figs_num {n:Nat} (h:n < 10 ^ 101):NumTx (figs n):=by
  by_cases h1:1 ≤ n
  · obtain ⟨c0,r,e,h0,hr⟩:=figs_head n h1
    refine .inr ⟨c0,r,e,h0,hr,?_⟩
    have hl:(Nat.toDigits 10 n).length ≤ 101:=(Nat.length_toDigits_le_iff (by decide) (by decide)).mpr h
    have:=congrArg List.length e
    unfold figs at this
    rw [List.length_map,List.length_cons] at this
    omega
  · have:n = 0:=by omega
    subst this
    exact .inl (figs_lt (by decide))
theorem figs_of (n:Nat):(Str.ofString (toString (n:Int))).cps.toList = figs n:=by
  have e:toString (n:Int) = String.ofList (Nat.toDigits 10 n):=Nat.repr_eq_ofList_toDigits
  rw [e,Str.ofString_eq_toList]
  simp [figs]
section
variable {prog:Program} {w:World} {A:Around} {E:Value → Shared → Prop} {s:Shared}
theorem int_of_text {z:Str} {u:Tok} {Q:Value → Shared → Prop} (hz:NumTx z.cps.toList) (h:Q (.int (numOf z.cps.toList) s.toks) { s with toks:=s.toks + 1 }):wpAny (model prog w) A (call (.type "int") [.str z u]) Q E s :=
  call_int_1 (meets_int_new_str z u hz) (show (Made.int (numOf z.cps.toList)).post _ s from ⟨rfl,h⟩)
end
theorem call_intT {X:Cx}:CallR X (.type "int") (fun xs H Q => ∃ z,xs = [.str z] ∧ NumTx z.cps.toList ∧ Q (.int (numOf z.cps.toList)) H):=by
  intro pins s σ H xs us Q I r h
  obtain ⟨z,rfl,hz,q⟩:=h
  obtain ⟨u,rfl,t,rfl⟩:=vals1 r
  exact int_of_text hz ⟨.int _,H,I.tok _,⟨_,rfl⟩,q⟩
end L2
namespace L2
open PySem PySem.Spec PyProof.Rows
section
variable {X:Cx} {pos:Pos} {e:Expr} {es:List Expr} {te:TE}
noncomputable abbrev TJE:=St → Hp → Str → (Str → Hp → Prop) → Prop
noncomputable def PJE (X:Cx) (es:List Expr) (t:TJE):Prop :=
  ∀ (pins:List (Addr × Obj)) (s:Shared) (σ:St) (H:Hp) (acc:Str) (Z:Str → Hp → Prop),acc.length + 2000000 * es.length ≤ sizeLine → Inv X pins σ H s → t σ H acc Z →
    Joins (model X.prog X.w) X.A X.xe (evalEach es X.env) acc (fun out s1 => out.length ≤ sizeLine ∧ ∃ H1,Inv X pins σ H1 s1 ∧ Z out H1) s
theorem pje_nil:PJE X [] (fun _ H acc Z => Z acc H):=fun _ _ _ H _ _ hz I h => ⟨Nat.le_trans (Nat.le_add_right _ _) hz,H,I,h⟩
theorem pje_cons {tj:TJE} (he:PE X e te) (hr:PJE X es tj):PJE X (e :: es) (fun σ H acc Z => te σ H fun v H1 => ∃ y:Str,v = .str y ∧ y.length ≤ 2000000 ∧ tj σ H1 (acc ++ y) Z):=by
  intro pins s σ H acc Z hz I h
  refine thn (he pins s σ H _ I h) fun u s1 ⟨v,H1,I1,r,y,hv,hy,q⟩ => ?_
  subst hv
  obtain ⟨t,rfl⟩:=r
  have e1:(acc ++ y).length = acc.length + y.length:=by
    show Array.size (acc.cps ++ y.cps) = _
    rw [Array.size_append]
    rfl
  have e2:(e :: es).length = es.length + 1:=rfl
  rw [e2] at hz
  exact ⟨y,t,rfl,by omega,hr pins s1 σ H1 (acc ++ y) Z (by omega) I1 q⟩
theorem pe_fstrE {v1 v2:Expr} {rest:List Expr} {tj:TJE} (hj:PJE X (v1 :: v2 :: rest) tj) (hl:(v1 :: v2 :: rest).length ≤ 8) :
    PE X (.JoinedStr (v1 :: v2 :: rest) pos) (fun σ H Q => tj σ H Str.empty fun out H1 => Q (.str out) H1):=by
  intro pins s σ H Q I h
  have hz:Str.empty.length + 2000000 * (v1 :: v2 :: rest).length ≤ sizeLine:=by
    have e0:Str.empty.length = 0:=rfl
    rw [sizeLine_eq,e0]
    rw [Nat.zero_add]
    exact Nat.le_trans (Nat.mul_le_mul_left _ hl) (Nat.le_of_ble_eq_true rfl)
  refine wpAny_JoinedStr ?_
  have j:=hj pins s σ H Str.empty _ hz I h
  exact pe_fstr.joins_mono _ _ (fun out s1 ⟨h1,H1,I1,q⟩ => ⟨h1,.str out,H1,I1.tok _,⟨_,rfl⟩,q⟩) _ j
end
end L2
namespace L2
open PySem PySem.Spec PyProof.Rows
section
variable {prog:Program} {w:World} {A:Around} {R:Result → Shared → Prop} {I S:Addr} {fp wr:List Addr} {n:Nat} {P:Nat → Value → Prop} {St:Nat → Heap → Prop} {d:Value}
end
section
variable {X:Cx} {e:Expr} {es:List Expr} {kws:List Keyword} {t tk:TA} {p pos:Pos}
end
end L2
namespace L2
open PySem PySem.Spec PyProof.Rows
inductive EntOk (w:World):List DictEntry → List (Str × Int) → Prop
  | nil:EntOk w [] []
  | cons {h:Int} {s:Str} {n:Int} {t t':Tok} {es:List DictEntry} {ps:List (Str × Int)}:h = hashStr w s → EntOk w es ps → EntOk w (⟨h,.str s t,.int n t'⟩ :: es) ((s,n) :: ps)
structure DKt (K:PySem.W.Frag) (w:World) (a:Addr) (ps:List (Str × Int)):Prop where
  ns:(a == sysModules) = false
  at_:∀ (P:Program) (h:Heap),K.In h → ∃ vs:List (Key × Value),KV (ps.map fun p => ((Sum.inr p.1:Key),V.int p.2)) vs ∧ h.DictOf (mixKind P w) a vs
theorem ent_ok {P:Program} {w:World} {es:List DictEntry} {ps:List (Str × Int)} (h:EntOk w es ps):∃ vs:List (Key × Value),KV (ps.map fun p => ((Sum.inr p.1:Key),V.int p.2)) vs ∧ Pairs (mixKind P w) es vs ∧ (∀ e ∈ es,∃ k:Key,(mixKind P w).is k e.key = true ∧ e.hash = (mixKind P w).hash k) ∧ vs.map (·.1) = ps.map fun p => (Sum.inr p.1:Key):=by
  induction h with
  | nil => exact ⟨[],.nil,.nil,(fun e he => by cases he),rfl⟩
  | @cons hh s n t t' es ps e _ ih =>
    obtain ⟨vs,a,b,c,d⟩:=ih
    refine ⟨(Sum.inr s,.int n t') :: vs,.cons ⟨rfl,⟨t',rfl⟩⟩ a,.cons (mixKind_str P w s t) rfl b,fun e2 he => ?_,?_⟩
    · rcases List.mem_cons.mp he with rfl | he
      · exact ⟨Sum.inr s,mixKind_str P w s t,e⟩
      · exact c e2 he
    · rw [List.map_cons,List.map_cons,d]
theorem dkt_of {K:PySem.W.Frag} {w:World} {a:Addr} {ps:List (Str × Int)} {es:Array DictEntry} {ep:Nat} (hl:K.lookup a = some ⟨.type "dict",none,.dict es ep,#[]⟩) (hs:(a == sysModules) = false) (he:EntOk w es.toList ps) (nd:(ps.map (·.1)).Nodup):DKt K w a ps:=by
  refine ⟨hs,fun P h hK => ?_⟩
  obtain ⟨vs,v1,v2,v3,v4⟩:=ent_ok (P:=P) he
  refine ⟨vs,v1,_,es,ep,hK _ _ hl,⟨rfl,rfl,rfl⟩,rfl,fun e h2 => v3 e (Array.mem_toList_iff.mpr h2),v2,?_⟩
  rw [v4]
  have:(ps.map fun p => (Sum.inr p.1:Key)) = (ps.map (·.1)).map Sum.inr:=by rw [List.map_map]; rfl
  rw [this]
  exact List.Pairwise.map _ (fun _ _ h z => h (Sum.inr.inj z)) nd
noncomputable def numAtS (ps:List (Str × Int)) (s:Str):Option Int:=(ps.find? fun p => decide (p.1 = s)).map (·.2)
theorem valV_num (ps:List (Str × Int)) (s:Str):valV (ps.map fun p => ((Sum.inr p.1:Key),V.int p.2)) (Sum.inr s) = (numAtS ps s).map V.int:=by
  induction ps with
  | nil => rfl
  | cons p r ih =>
    unfold valV numAtS at ih ⊢
    rw [List.map_cons,List.find?_cons,List.find?_cons]
    by_cases e:p.1 = s
    · rw [decide_eq_true (show (Sum.inr p.1:Key) = Sum.inr s by rw [e]),decide_eq_true e]
      rfl
    · rw [decide_eq_false (show ¬ (Sum.inr p.1:Key) = Sum.inr s from fun z => e (Sum.inr.inj z)),decide_eq_false e]
      exact ih
section
variable {X:Cx} {o i:Expr} {pos:Pos} {td ty:TE}
noncomputable def tDGetK (K:PySem.W.Frag) (w:World) (td ty:TE):TE:=fun σ H Q => td σ H fun x H1 => ty σ H1 fun y H2 => ∃ a ps s n,x = .ref a ∧ DKt K w a ps ∧ y = .str s ∧ numAtS ps s = some n ∧ Q (.int n) H2
noncomputable def tDInK (K:PySem.W.Frag) (w:World) (ty td:TE):TE:=fun σ H Q => ty σ H fun y H1 => td σ H1 fun x H2 => ∃ a ps s,x = .ref a ∧ DKt K w a ps ∧ y = .str s ∧ Q (.bl (numAtS ps s).isSome) H2
theorem pe_dgetK (ho:PE X o td) (hi:PE X i ty) (hs:NoSl i):PE X (.Subscript o i pos) (tDGetK X.K X.w td ty):=by
  intro pins s σ H Q I h
  refine subD_of PySem.F.slot_dict_getitem.lookup hs (thn (ho pins s σ H _ I h) fun u s1 ⟨x,H1,I1,rx,q1⟩ => thn (hi pins s1 σ H1 _ I1 q1) fun iv s2 ⟨y,H2,I2,ry,a,ps,z,n,ex,g,ey,en,q2⟩ => ?_)
  subst ex ey
  obtain rfl:u = Value.ref a:=rx
  obtain ⟨vs,rel,dd⟩:=g.at_ X.prog s2.heap I2.kIn
  obtain ⟨w',hw,rw'⟩:=RelO.some_of (v:=.int n) (o:=valueAt vs (Sum.inr z)) (by have:=rel.val (Sum.inr z); rw [valV_num,en] at this; exact this)
  exact ⟨dd.typeIs,wpAny_getItem_of (kV_is (k:=Sum.inr z) ry) dd.mapOf hw ⟨.int n,H2,I2.tok _,rw',q2⟩⟩
theorem pc_dinK (hi:PE X i ty) (ho:PE X o td):PC X .In i o (tDInK X.K X.w ty td):=by
  intro pins s σ H Q I h
  refine thn (hi pins s σ H _ I h) fun iv s1 ⟨y,H1,I1,ry,q1⟩ => thn (ho pins s1 σ H1 _ I1 q1) fun u s2 ⟨x,H2,I2,rx,a,ps,z,ex,g,ey,q2⟩ => ?_
  subst ex ey
  obtain rfl:u = Value.ref a:=rx
  obtain ⟨vs,rel,dd⟩:=g.at_ X.prog s2.heap I2.kIn
  refine wpAny_in_of (kV_is (k:=Sum.inr z) ry) g.ns dd.mapOf ?_
  have e:=(rel.val (Sum.inr z)).isSome_eq
  rw [valV_num,Option.isSome_map] at e
  rw [← e]
  exact ⟨.bl _,H2,I2.tok _,rfl,q2⟩
end
end L2
namespace L2
open PySem PySem.Spec PyProof.Rows
section
variable {P:Program} {w:World} {K:PySem.W.Frag} {mg:Str → Option Value} {base:Heap}
end
end L2
namespace L2
open PySem PySem.Spec PyProof.Rows
section
variable {prog:Program} {w:World} {A:Around} {E:Value → Shared → Prop} {s:Shared}
end
end L2
namespace L2
open PySem PySem.Spec PyProof.Rows
section
variable {X:Cx}
end
end L2
namespace L2
open PySem PySem.Spec PyProof.Rows
section
variable {X:Cx}
end
end L2
namespace L2
open PySem PySem.Spec PyProof.Rows PySem.Calls
section
variable {prog:Program} {w:World} {K:Type} [DecidableEq K] {knd:HeapKind prog w K} {A:Around} {E:Value → Shared → Prop} {s:Shared}
end
section
variable {X:Cx}
end
end L2
namespace L2
open PySem PySem.Spec PyProof.Rows PySem.W
section
variable {prog:Program} {w:World} {A:Around} {E:Value → Shared → Prop} {s:Shared}
structure RawG (es:Array DictEntry) (lo:Addr) (h:Heap) (as:List Addr):Prop where
  rise:as.Pairwise (· < ·)
  up:∀ a ∈ as,lo < a
  at':∀ (j:Nat) (a:Addr),as[j]? = some a → ∃ en,es[j]? = some en ∧ h.get? a = some { cls:=.type "tuple",data:=.seq #[en.key,en.val] }
end
section
variable {prog:Program} {w:World} {A:Around} {s:Shared} {R:Result → Shared → Prop} {es:Array DictEntry} {ep:Nat}
end
section
variable {prog:Program} {w:World} {A:Around} {E:Value → Shared → Prop} {s:Shared} {r d:Addr} {es:Array DictEntry} {ep:Nat}
end
end L2
namespace L2
open PySem PySem.Spec PyProof.Rows
section
variable {X:Cx}
end
section
variable {prog:Program} {w:World} {A:Around} {E:Value → Shared → Prop} {s:Shared}
end
section
variable {X:Cx} {l:Expr} {tl:TE} {p p2 pos pos2:Pos}
end
end L2
namespace L2
open PySem PySem.Spec PyProof.Rows
section
variable {X:Cx}
end
end L2
namespace L2
open PySem PySem.Spec PyProof.Rows
section
variable {prog:Program} {w:World} {A:Around} {E:Value → Shared → Prop} {s:Shared} {a:Addr} {xs:Array Value} {k:Nat} {sl:Array (Option Value)}
end
section
variable {X:Cx} {pins:List (Addr × Obj)} {σ:St}
end
end L2
namespace L2
open PySem PySem.Spec PyProof.Rows
section
variable {prog:Program} {w:World} {A:Around} {E:Value → Shared → Prop} {s:Shared} {K:Type} [DecidableEq K] {knd:HeapKind prog w K}
end
section
variable {X:Cx}
end
end L2
namespace L2
open PySem PySem.Spec PyProof.Rows
section
variable {M:Model} {A:Around} {E:Value → Shared → Prop} {s:Shared}
theorem leaves_any {base:Heap} {env:Env} {outer:List Env} {L e:Addr} {cls a0 fl:Value} {Q:Unit → Shared → Prop} (hfr:A.frames = some (env :: outer)) (hf:env.frame = some L) (k1:base.StaysIn s.heap) (k2:base.get? e = none) (k3:s.heap.FunFrames base (env :: outer)) (k4:s.heap.TracedAtW base e cls a0 fl)
    (hQ:∀ h',Heap.FlyingW base outer e cls a0 h' → s.heap.UpToSlots h' → Q () { s with heap:=h' }):wpAny M A (leaving env (.ref e)) Q E s:=by
  by_cases hfl:(fl == rawInt L) = true
  · have hfl':fl = rawInt L:=by simpa using hfl
    rw [hfl'] at k4
    unfold leaving
    refine wpAny_bind (wpAny_noteFrame_againW hf k4 ?_)
    refine wpAny_landsW ⟨k1,k2,k3,k4⟩ fun h' hF up => ?_
    obtain ⟨j1,j2,⟨_,_,j3⟩,j4⟩:=hF
    exact hQ h' ⟨j1,j2,j3,j4⟩ up
  · obtain ⟨oe,vs,T,oT,ts,he,⟨hcls,h0⟩,hd,h1,hnT,hTe,hT,hdT,h3⟩:=k4
    subst hcls
    unfold leaving noteFrame
    simp only [hf]
    refine wpAny_bind (wpAny_bind (wpAny_field he hd h1 ?_))
    rw [if_pos (show (Value.ref T != Value.none) = true from by simp)]
    refine wpAny_bind (wpAny_field hT hdT h3 ?_)
    rw [if_neg hfl]
    refine wpAny_bind (wpAny_setField hT hdT (Array.getElem?_eq_some_iff.mp h3).1 ?_)
    have other:∀ b,b ≠ T → (s.heap.update T (Obj.mapFields (·.setIfInBounds 3 Value.none))).get? b = s.heap.get? b:=fun b hb => Heap.get?_update_other _ _ (Ne.symm hb)
    have noRecord:∀ b o,s.heap.get? b = some o → (∀ vs,o.data ≠ .fields vs) → b ≠ T:=fun b o hb hnf q => by
      rw [q,hT] at hb; injection hb with hb; subst hb; exact hnf ts hdT
    refine wpAny_newEntryW hfr (k3.of_keeps fun b o hb hnf => ⟨o,(other b (noRecord b o hb hnf)).trans hb,rfl⟩) hf ((other e (Ne.symm hTe)).trans he)
      (fun b o hbo => (other b fun q => by rw [q,hnT] at hbo; cases hbo).trans (k1 b o hbo)) k2 hd (Array.getElem?_eq_some_iff.mp h1).1 h0
      fun h' ⟨x1,x2,x3,x4⟩ => hQ h' ⟨x1,k2,x2.2.2,x3⟩ fun b o hb hnf => x4 b o ((other b (noRecord b o hb hnf)).trans hb) hnf
theorem setFlight_any {base:Heap} {l:List Env} {e:Addr} {cls a0 fl:Value} {fr:Option Addr} {Q:Unit → Shared → Prop}
    (hkb:base.StaysIn s.heap) (hl:s.heap.FunFrames base l) (ht:s.heap.TracedAtW base e cls a0 fl)
    (h:∀ h',base.StaysIn h' → h'.FunFrames base l → h'.TracedAtW base e cls a0 (fr.elim Value.none fun f => rawInt f) → (∀ b o,s.heap.get? b = some o → (∀ vs,o.data ≠ .fields vs) → h'.get? b = some o) → Q () { s with heap:=h' }) :
    wpAny M A (setFlight (.ref e) fr) Q E s:=by
  obtain ⟨oe,vs,T,oT,ts,he,hcls,hd,h1,hnT,hTe,hT,hdT,h3⟩:=ht
  have hsz3:3 < ts.size:=(Array.getElem?_eq_some_iff.mp h3).1
  have other:∀ b,b ≠ T → (s.heap.update T (Obj.mapFields (·.setIfInBounds 3 (fr.elim Value.none fun f => rawInt f)))).get? b = s.heap.get? b :=
    fun b hb => Heap.get?_update_other _ _ (Ne.symm hb)
  have noRecord:∀ b o,s.heap.get? b = some o → (∀ vs,o.data ≠ .fields vs) → b ≠ T:=fun b o hb hnf q => by
    rw [q,hT] at hb; injection hb with hb; subst hb; exact hnf ts hdT
  unfold setFlight
  refine wpAny_bind (wpAny_field he hd h1 ?_)
  rw [if_pos (show (Value.ref T != Value.none) = true from by simp)]
  refine wpAny_setField hT hdT hsz3 (h _ (fun b o hbo => (other b fun q => by rw [q,hnT] at hbo; cases hbo).trans (hkb b o hbo))
    (hl.of_keeps fun b o hb hnf => ⟨o,(other b (noRecord b o hb hnf)).trans hb,rfl⟩) ?_ fun b o hb hnf => (other b (noRecord b o hb hnf)).trans hb)
  exact ⟨oe,vs,T,_,_,(other e (Ne.symm hTe)).trans he,hcls,hd,h1,hnT,hTe,Heap.get?_update_self _ hT (Obj.isFreed_of_fields (Obj.data_mapFields hdT _)),Obj.data_mapFields hdT _,by simp [hsz3]⟩
end
theorem frames_but {B h1 h2:Heap} {C:Addr} (sb:Heap.SameBut C h1 h2):∀ {l:List Env},h1.FunFrames B l → C ∉ frs l → h2.FunFrames (PySem.W.hideAll B [C]) l
  | [],_,_ => trivial
  | env :: r,⟨hk,⟨L,o,hf,hn,ho,hd⟩,hr⟩,hne => by
    have eq:frs (env :: r) = L :: frs r:=by
      unfold frs
      rw [List.filterMap_cons,hf]
    rw [eq] at hne
    refine ⟨hk,⟨L,o,hf,?_,(sb.2 L fun z => hne (by rw [z]; exact .head _)).trans ho,hd⟩,frames_but sb hr fun z => hne (.tail _ z)⟩
    cases q:(PySem.W.hideAll B [C]).get? L with
    | none => rfl
    | some u => rw [PySem.W.of_hideAll _ q] at hn; cases hn
section
variable {X:Cx} {pins:List (Addr × Obj)} {σ:St} {H H':Hp} {s s':Shared} {x C:Addr} {cls:Value} {d:Option Addr}
theorem Fly.comp {m0:Str → Option Value} {cenv0:Env} (I:Inv X pins σ H s) (hst:X.stack = X.env :: X.outer) (hfr:X.env.frame = some X.env.locals) (hex:X.ex = []) (f:Fly X.prog X.w X.stack H s x cls H' s') (hdi:DictIs x d s')
    (hC0:X.s₀.heap.get? C = none) (hCs:s.heap.Ns C m0) (hCn:H C = none) (hCf:C ∉ frs X.stack) (hcf:cenv0.frame = X.env.frame)
    (hxe:∀ s,wpAny (model X.prog X.w) X.A (leaving X.env (.ref x)) (fun _ s'' => Fly X.prog X.w X.outer X.H₀ X.s₀ x cls H' s'' ∧ DictIs x d s'') (fun _ _ => False) s → X.xe (.ref x) s) {Qe:Value → Shared → Prop} {acc:Value} :
    notedBy (model X.prog X.w) X.A cenv0 (fun x' s'' => compPost (model X.prog X.w) X.A X.xe none Qe acc C (.error x') s'') (.ref x) s':=by
  obtain ⟨B,a0,fl,c1,c2⟩:=f.fl
  rw [hst] at fl
  have nx:∀ b:Addr,b ∉ X.ex:=fun b => by rw [hex]; simp
  obtain ⟨oC,es,ep,hoC,hdC,rC⟩:=hCs
  have keepC:s'.heap.get? C = some oC:=f.un.keep C oC hoC hCn hCf (by simp)
  have hCH':H' C = none:=f.un.free C oC hoC hCn (by simp)
  obtain ⟨uC,huC⟩:=c2 C oC hoC hCf
  have hxC:x ≠ C:=fun z => by have q:=fl.2.1; rw [z,huC] at q; cases q
  unfold notedBy
  rw [show noteFrame (.ref x) cenv0 = noteFrame (.ref x) X.env from by unfold noteFrame PySem.frameOf; rw [hcf]]
  refine wpAny_mono (Keeps.note.wpAny (Q:=fun _ s'' => ∃ h1,s'' = { s' with heap:=h1 } ∧ Heap.HeldW B (X.env :: X.outer) x cls a0 X.env.locals h1 ∧ s'.heap.UpToSlots h1) (E:=fun _ _ => False) hdi (wpAny_looks_onW (by rw [I.ok.frames,hst]) hfr fl fun h1 hh up => ⟨h1,rfl,hh,up⟩)) (fun _ s'' ⟨⟨h1,e1,hh,up⟩,hdi1⟩ => ?_) (fun _ _ z => z.1.elim)
  subst e1
  refine ⟨m0,up.ns ⟨oC,es,ep,keepC,hdC,rC⟩,fun h2 sb cenv _ => ?_⟩
  obtain ⟨g1,g2,g3,g4⟩:=hh
  have stB:(PySem.W.hideAll B [C]).StaysIn h2:=fun b o e => by
    have hb:b ≠ C:=fun z => by rw [z,PySem.W.hideAll_none _ (.head _)] at e; cases e
    exact (sb.2 b hb).trans (g1 b o (PySem.W.of_hideAll _ e))
  have nB:∀ b,B.get? b = none → (PySem.W.hideAll B [C]).get? b = none:=fun b hb => by
    cases q:(PySem.W.hideAll B [C]).get? b with
    | none => rfl
    | some u => rw [PySem.W.of_hideAll _ q] at hb; cases hb
  have fr2:h2.FunFrames (PySem.W.hideAll B [C]) (X.env :: X.outer):=frames_but sb g3 (by rw [← hst]; exact hCf)
  obtain ⟨oe,vs,T,oT,ts,he,hcl,hd,q1,hnT,hTe,hT,hdT,q3⟩:=g4
  have hTC:T ≠ C:=fun z => by rw [z,huC] at hnT; cases hnT
  have tr2:h2.TracedAtW (PySem.W.hideAll B [C]) x cls a0 (rawInt X.env.locals):=⟨oe,vs,T,oT,ts,(sb.2 x hxC).trans he,hcl,hd,q1,nB T hnT,hTe,(sb.2 T hTC).trans hT,hdT,q3⟩
  have hdi2:DictIs x d { s' with heap:=h2 }:=by
    obtain ⟨ob,e,hb⟩:=hdi1
    exact ⟨ob,(sb.2 x hxC).trans e,hb⟩
  unfold PySem.passOn
  refine wpAny_bind (wpAny_field (s:={ s' with heap:=h2 }) ((sb.2 x hxC).trans he) hd q1 ?_)
  rw [if_neg (show ¬ ((Value.ref T == Value.none) = true) from by simp)]
  refine wpAny_bind (wpAny_mono (Keeps.flight.wpAny (Q:=fun _ s3 => ∃ h3 fl3,s3 = { s' with heap:=h3 } ∧ (PySem.W.hideAll B [C]).StaysIn h3 ∧ h3.FunFrames (PySem.W.hideAll B [C]) (X.env :: X.outer) ∧ h3.TracedAtW (PySem.W.hideAll B [C]) x cls a0 fl3 ∧ h2.UpToSlots h3) (E:=fun _ _ => False) hdi2 (setFlight_any stB fr2 tr2 fun h3 j1 j2 j3 j4 => ⟨h3,_,rfl,j1,j2,j3,fun b o e hn => ⟨o.slots,j4 b o e hn⟩⟩)) (fun _ s3 ⟨⟨h3,fl3,e3,j1,j2,j3,j4⟩,hdi3⟩ => ?_) (fun _ _ z => z.1.elim))
  subst e3
  refine wpAny_throw (hxe _ ?_)
  refine wpAny_mono (Keeps.leave.wpAny (Q:=fun _ s4 => Fly X.prog X.w X.outer X.H₀ X.s₀ x cls H' s4) (E:=fun _ _ => False) hdi3 (leaves_any (by rw [I.ok.frames,hst]) hfr j1 (nB x g2) j2 j3 fun h4 fl4 up4 => ?_)) (fun _ s4 z => z) (fun _ _ z => z.1)
  have st:∀ b o,B.get? b = some o → b ≠ C → h4.get? b = some o:=fun b o e hb => fl4.1 b o (PySem.W.hideAll_get _ e (by simpa using hb))
  have same:∀ b u v,B.get? b = some u → s'.heap.get? b = some v → u = v:=fun b u v h1 h2 => by
    have h3:=fl.1 b u h1
    rw [h2] at h3
    exact (Option.some.inj h3).symm
  have oldC:∀ b o,X.s₀.heap.get? b = some o → b ≠ C:=fun b o e z => by rw [z,hC0] at e; cases e
  have trkC:∀ b o,H' b = some o → b ≠ C:=fun b o e z => by rw [z,hCH'] at e; cases e
  have upAll:∀ b o,b ≠ C → s'.heap.get? b = some o → (∀ vs,o.data ≠ .fields vs) → ∃ sl,h4.get? b = some { o with slots:=sl }:=fun b o hb e hn => by
    obtain ⟨s1,e1⟩:=up b o e hn
    obtain ⟨s2,e2⟩:=j4 b _ ((sb.2 b hb).trans e1) hn
    obtain ⟨s3,e3⟩:=up4 b _ e2 hn
    exact ⟨s3,e3⟩
  have slot:∀ b o,X.s₀.heap.get? b = some o → X.H₀ b = none → b ∈ X.fs → ∃ sl,h4.get? b = some { o with slots:=sl }:=fun b o e n hb => by
    obtain ⟨sl,e1⟩:=I.base.slot b o e n hb (nx b)
    obtain ⟨sl2,e2⟩:=f.un.any e1 (I.base.free b o e n (nx b)) (by simp)
    obtain ⟨_,of,ho,hnf⟩:=I.ok.funs.mem hb
    rw [e] at ho
    cases ho
    obtain ⟨sl3,e3⟩:=upAll b _ (oldC b o e) e2 hnf
    exact ⟨sl3,e3⟩
  refine ⟨f.os.trans I.os,f.bare,⟨fun b o e n hb _ => ?_,fun b o e n hb _ => slot b o e n hb,fun b o e n _ => ?_,fun b o e _ => ?_,fun b xs e => f.un.tups b xs (I.base.tups b xs e),fun b o u e => f.un.frzs b o u (I.base.frzs b o u e),fun b ps e => ?_⟩,fun a o e => ?_,⟨_,a0,fl4,fun b o e => ?_,fun b o e hb => ?_⟩,f.free⟩
  · have e1:=I.base.keep b o e n hb (nx b)
    have n1:=I.base.free b o e n (nx b)
    have hb':=I.notSt (I.oldL e) hb
    have e2:=f.un.keep b o e1 n1 hb' (by simp)
    obtain ⟨u,hu⟩:=c2 b o e1 hb'
    exact same b u o hu e2 ▸ st b u hu (oldC b o e)
  · obtain ⟨o',e1⟩:=I.base.there b o e (nx b)
    exact f.un.free b o' e1 (I.base.free b o e n (nx b)) (by simp)
  · by_cases hb:b ∈ X.fs
    · obtain ⟨sl,e1⟩:=slot b o e (I.ok.frf b hb) hb
      exact ⟨_,e1⟩
    · obtain ⟨o',e1⟩:=I.base.there b o e (nx b)
      obtain ⟨u,hu⟩:=c2 b o' e1 (I.notSt (I.oldL e) hb)
      exact ⟨u,st b u hu (oldC b o e)⟩
  · obtain ⟨m1,e1⟩:=I.base.tbls b ps e
    obtain ⟨m2,e2⟩:=f.un.tbls b _ e1
    exact ⟨m1 ++ m2,by rw [e2,Array.append_assoc]⟩
  · refine (f.hok a o e).stay (fun b u hb q => ?_) (fun _ q => q) fun _ _ q => q
    have t:∃ o',H' b = some o':=by
      rcases hb with z | z
      · exact ⟨o,by rw [z]; exact e⟩
      · exact ⟨_,z⟩
    obtain ⟨o',e'⟩:=t
    obtain ⟨v,hv⟩:=c1 b o' e'
    exact same b v u hv q ▸ st b v hv (trkC b o' e')
  · obtain ⟨u,hu⟩:=c1 b o e
    exact ⟨u,PySem.W.hideAll_get _ hu (by simpa using trkC b o e)⟩
  · obtain ⟨o',e1⟩:=I.base.there b o e (nx b)
    obtain ⟨u,hu⟩:=c2 b o' e1 (I.notSt (I.oldL e) hb)
    exact ⟨u,PySem.W.hideAll_get _ hu (by simpa using oldC b o e)⟩
theorem Inv.unblock0 {own caps:List Str} {sc:Scope} {cl:List (Str × Addr)} {fp:List Addr} {H':Hp} {s4:Shared} {σ':St} {pins':List (Addr × Obj)} {hp:Heap} {ol:Obj} (I:Inv X pins σ H s)
    (f2:∀ b ∈ fp,FpOk X pins H b) (ehp:hp = s.heap.push ol)
    (J:Inv (blk X (own ++ caps) sc cl { s with heap:=hp } H hp.objs.size (s.heap.objs.size :: fp)) pins' σ' H' s4):Inv X pins σ H' s4:=by
  have up:∀ b o,s.heap.get? b = some o → hp.get? b = some o:=fun b o e => by rw [ehp]; exact Heap.get?_push_of_some _ e
  have neD:∀ b o,s.heap.get? b = some o → b ≠ s.heap.objs.size:=fun b o e => Nat.ne_of_lt (Heap.lt_size e)
  have nex:∀ b o,s.heap.get? b = some o → b ∉ fp → b ∉ s.heap.objs.size :: fp:=fun b o e hb z => (List.mem_cons.mp z).elim (neD b o e) hb
  have u:=J.base
  refine I.call' (ch:=fp) J.os ⟨fun b o e n hb hx => u.keep b o (up _ _ e) n hb (nex b o e hx),fun b o e n hb hx => u.slot b o (up _ _ e) n hb (nex b o e hx),fun b o e n hx => u.free b o (up _ _ e) n (nex b o e hx),fun b o e hx => u.there b o (up _ _ e) (nex b o e hx),u.tups,u.frzs,u.tbls⟩ J.hok J.bare fun b hb => ?_
  obtain ⟨_,f1,_,f3,f4,f5⟩:=f2 b hb
  exact ⟨f3,f1,f4,f5⟩
end
section
variable {X:Cx}
theorem pe_compGX {tg elt iter:Expr} {ifs:List Expr} {own caps:List Str} {κ:List Nat} {sc:Scope} {cl:List (Str × Addr)} {pos:Pos} {wi:TI} {g:TG} {tc:TT} {te:TE} {E:XK} (hst:X.stack = X.env :: X.outer) (hfr:X.env.frame = some X.env.locals) (hex:X.ex = []) (hpn:X.pn = [])
    (hxe:∀ (x:Addr) (cls:Value) (d:Option Addr) (H':Hp) (s:Shared),E cls d H' → wpAny (model X.prog X.w) X.A (leaving X.env (.ref x)) (fun _ s'' => Fly X.prog X.w X.outer X.H₀ X.s₀ x cls H' s'' ∧ DictIs x d s'') (fun _ _ => False) s → X.xe (.ref x) s) (hcalm:X.calm = true) (S:BlkSc X caps sc cl) (hκ:κ.map (fun k => X.N[k]?) = caps.map some)
    (hi:PI X tg iter wi) (hg:∀ s₀ H₀ C ex xe,PG ((blk X (own ++ caps) sc cl s₀ H₀ C ex).wish xe) tg g)
    (hc:∀ s₀ H₀ C ex xe (pins:List (Addr × Obj)) (s:Shared) (σ:St) (H:Hp) (Q:Bool → Hp → Prop),Inv ((blk X (own ++ caps) sc cl s₀ H₀ C ex).wish xe) pins σ H s → tc σ H Q →
      wpAny (model X.prog X.w) X.A (forIn ifs true fun c r => if r = true then do let ok ← isTrue c (compEnvC sc cl C X.env) (eval c (compEnvC sc cl C X.env)); pure (ForInStep.yield ok) else pure (ForInStep.yield r)) (TP ((blk X (own ++ caps) sc cl s₀ H₀ C ex).wish xe) pins σ Q) (fun _ _ => False) s)
    (he:∀ s₀ H₀ C ex xe,Passes (CX1 X.prog X.w) ((blk X (own ++ caps) sc cl s₀ H₀ C ex).wish xe) E → PE ((blk X (own ++ caps) sc cl s₀ H₀ C ex).wish xe) elt te)
    (hs:∀ x,foldedSetIterable iter X.env x = pure x:=by intro _; rfl):PE X (.ListComp elt [⟨tg,iter,ifs,0⟩] sc pos) (tComp own.length κ wi g tc te):=by
  intro pins s σ H Q I h
  rw [eval_ListComp]
  refine wpAny_comprehension_free (use:=none) rfl hs S.clos S.kind S.names (thn (hi pins s σ H _ I h) fun v s1 h1 => thn h1 fun itv s2 h2 => ?_)
  obtain ⟨it,fp,tn,J,H2,e,I2,T,st2,f2,W,⟨m0,w0⟩,turn⟩:=h2
  subst e
  have hfp:∀ b ∈ fp,b < s2.heap.objs.size:=fun b hb => by
    obtain ⟨o,e,_⟩:=T.obj _ _ st2 b hb
    exact Heap.lt_size e
  refine wpAny_newObj_type (wpAny_newFunctionEnv S.nocell (fun y hy => nomatch hy) (fun h₁ hns hsb => ?_) S.kind)
  generalize ehp:s2.heap.push { cls:=.type "list",dict:=none,data:=.seq ([]:List Value).toArray } = hp at hns hsb ⊢
  have hsz:hp.objs.size = s2.heap.objs.size + 1:=by rw [← ehp,Heap.size_push]
  have hDC:s2.heap.objs.size ≠ hp.objs.size:=by rw [hsz]; exact Nat.ne_of_lt (Nat.lt_succ_self _)
  have old:∀ b o,hp.get? b = some o → h₁.get? b = some o:=fun b o e => (hsb.2 b (Nat.ne_of_lt (Heap.lt_size e))).trans (Heap.get?_push_of_some _ e)
  have eD:h₁.get? s2.heap.objs.size = some { cls:=.type "list",data:=.seq ([]:List Value).toArray }:=old _ _ (by rw [← ehp]; exact Heap.get?_push_size _ rfl)
  obtain ⟨xe0,hx0⟩:∃ xe0,xe0 = notedBy (model X.prog X.w) X.A (compEnvC sc cl hp.objs.size X.env) (fun x s' => compPost (model X.prog X.w) X.A X.xe none (EP X pins σ Q) (.ref s2.heap.objs.size) hp.objs.size (.error x) s'):=⟨_,rfl⟩
  have I0:=(Inv.block (own:=own) (h₁:=h₁) (tk:=s2.toks + ([]:List (Str × Value)).length) S hκ I2 f2 hfp ehp.symm hns old).wish xe0
  have stkD:s2.heap.objs.size ∉ frs X.stack:=fun z => (List.mem_cons.mp (I2.stkSub _ z)).elim (Nat.ne_of_gt I2.lt) (I2.nofs (Nat.le_refl _))
  have cellD:∀ x c,cl.lookup x = some c → c ≠ s2.heap.objs.size:=fun x c q => by
    obtain ⟨v,z⟩:=I2.cell x c (S.subc q)
    exact Nat.ne_of_lt z.lt
  have pinD:∀ p ∈ X.pn ++ pins,p.1 ≠ s2.heap.objs.size:=fun p hp => Nat.ne_of_lt (Heap.lt_size (I2.pin p hp).1)
  have stkF:∀ b ∈ fp,b ∉ frs X.stack:=fun b hb z => (List.mem_cons.mp (I2.stkSub _ z)).elim (f2 b hb).2.1 (f2 b hb).2.2.1
  have hps:Passes (CX1 X.prog X.w) ((blk X (own ++ caps) sc cl { s2 with heap:=hp } H2 hp.objs.size (s2.heap.objs.size :: fp)).wish xe0) E:=by
    intro pins' σ' H1 s1 e s' J z
    obtain ⟨x,cls,d,H',rfl,fl,hdi,hE⟩:=z
    obtain ⟨m,hm,_⟩:=J.loc
    have hsz0:X.s₀.heap.objs.size ≤ s2.heap.objs.size:=I2.sz
    rw [hx0]
    exact Fly.comp (C:=hp.objs.size) (cenv0:=compEnvC sc cl hp.objs.size X.env) (Inv.unblock0 I2 f2 ehp.symm J.unwish) hst hfr hex fl hdi (by
      cases q:X.s₀.heap.get? hp.objs.size with
      | none => rfl
      | some o => exact absurd (Nat.lt_of_lt_of_le (Heap.lt_size q) hsz0) (by rw [hsz]; exact Nat.not_lt.mpr (Nat.le_succ _))) hm J.free (fun z => by
        have:=(List.mem_cons.mp (I2.stkSub _ z)).elim (fun e => Nat.ne_of_gt (Nat.lt_trans I2.lt (by rw [hsz]; exact Nat.lt_succ_self _)) e) (I2.nofs (by rw [hsz]; exact Nat.le_succ _))
        exact this) rfl (fun s h => hxe x cls d H' s hE h)
  have loop:codeAny (model X.prog X.w) X.A (.compLoop (.ListComp elt [⟨tg,iter,ifs,0⟩] sc pos) 0 (.ref it) (.ref s2.heap.objs.size) (compEnvC sc cl hp.objs.size X.env))
      (compPost (model X.prog X.w) X.A X.xe none (EP X pins σ Q) (.ref s2.heap.objs.size) hp.objs.size) { s2 with heap:=h₁,toks:=s2.toks + ([]:List (Str × Value)).length }:=by
    refine codeAny_loop rfl (fun n s' => ∃ (i:Nat) (ys:List V) (its:List Value) (cap:Nat) (H':Hp),Inv ((blk X (own ++ caps) sc cl { s2 with heap:=hp } H2 hp.objs.size (s2.heap.objs.size :: fp)).wish xe0) pins (blkSt own.length κ σ) H' s' ∧ tn i s'.heap ∧ (∀ b ∈ fp,H' b = none) ∧
      s'.heap.get? s2.heap.objs.size = some { cls:=.type "list",data:=.seq its.toArray cap } ∧ H' s2.heap.objs.size = none ∧ Vals ys its ∧ ys.length ≤ sizeLine ∧ W i n ys H') (fun n s3 hI => ?_) m0
      ⟨0,[],[],0,H2,I0,T.keep _ _ _ st2 fun b hb o e => old _ _ (by rw [← ehp]; exact Heap.get?_push_of_some _ e),fun b hb => (f2 b hb).1,eD,I2.hok.fresh (Nat.le_refl _),.nil,Nat.zero_le _,w0⟩
    obtain ⟨i,ys,its,cap,H3,I3,st3,fr3,eD3,nD3,rv,hz,w3⟩:=hI
    show wpAny _ X.A ((compTurn (.ListComp elt [⟨tg,iter,ifs,0⟩] sc pos) 0 (.ref it) (.ref s2.heap.objs.size) (compEnvC sc cl hp.objs.size X.env)).onRaise fun x => do noteFrame x (compEnvC sc cl hp.objs.size X.env); theTreesLotGoes x) _ _ s3
    refine wpAny_noted ?_
    rw [compTurn_list]
    have I3':Inv ((blk X (own ++ caps) sc cl { s2 with heap:=hp } H2 hp.objs.size (s2.heap.objs.size :: fp)).wish xe0) (pins ++ [(s2.heap.objs.size,{ cls:=.type "list",data:=.seq its.toArray cap })]) (blkSt own.length κ σ) H3 s3:=by
      refine I3.pins_of fun p hp => (List.mem_append.mp hp).elim (fun z => I3.pin p (List.mem_append_right _ z)) fun z => ?_
      obtain rfl:=List.mem_singleton.mp z
      exact ⟨eD3,nD3,hDC,stkD,fun v q => by cases q⟩
    have fpk:∀ {H':Hp},(∀ b ∈ fp,H' b = none) → ∀ b ∈ fp,FpOk ((blk X (own ++ caps) sc cl { s2 with heap:=hp } H2 hp.objs.size (s2.heap.objs.size :: fp)).wish xe0) (pins ++ [(s2.heap.objs.size,{ cls:=.type "list",data:=.seq its.toArray cap })]) H' b:=fun {H'} hn b hb =>
      ⟨hn b hb,by show b ≠ hp.objs.size; rw [hsz]; exact Nat.ne_of_lt (Nat.lt_succ_of_lt (hfp b hb)),stkF b hb,.inl (List.mem_cons_of_mem _ hb),fun x c q => (f2 b hb).2.2.2.2.1 x c (S.subc q),fun p hp => by
        rw [← List.append_assoc] at hp
        rcases List.mem_append.mp hp with z | z
        · exact (f2 b hb).2.2.2.2.2 p z
        · obtain rfl:=List.mem_singleton.mp z
          exact Nat.ne_of_gt (hfp b hb)⟩
    rcases turn i n ys H3 w3 with ⟨stop,fin⟩ | ⟨go,hlt,step⟩
    · refine wpAny_bind (wpAny_standAt (wpAny_bind (thn (T.done ((blk X (own ++ caps) sc cl { s2 with heap:=hp } H2 hp.objs.size (s2.heap.objs.size :: fp)).wish xe0) rfl rfl rfl hcalm i _ s3 _ H3 _ I3' (fpk fr3) st3 stop) fun r s4 ⟨hr,I4⟩ => ?_)))
      subst hr
      refine wpAny_pure ?_
      obtain ⟨m,hm,_⟩:=I4.loc
      refine ⟨m,hm,fun h' sb => ?_⟩
      have eD4:=(I4.pin (s2.heap.objs.size,{ cls:=.type "list",data:=.seq its.toArray cap }) (List.mem_append_right _ (List.mem_append_right _ (List.mem_singleton.mpr rfl)))).1
      exact ⟨.ref s2.heap.objs.size,_,Inv.unblock I2 f2 ehp.symm I4.unwish eD4 nD3 rv hz sb,rfl,fin _ nD3⟩
    · refine wpAny_bind (wpAny_standAt (wpAny_bind (thn (T.item ((blk X (own ++ caps) sc cl { s2 with heap:=hp } H2 hp.objs.size (s2.heap.objs.size :: fp)).wish xe0) rfl rfl rfl hcalm i _ s3 _ H3 _ I3' (fpk fr3) st3 go) fun r s4 ⟨u,hr,h4⟩ => ?_)))
      subst hr
      refine wpAny_bind (thn h4 fun _ s5 ⟨x,H5,I5,r5,y5,st5,fr5⟩ => ?_)
      have I5':=I5.pinned (fpk fr5) (T.obj _ _ st5)
      refine wpAny_bind (wpAny_mono (hg _ _ _ _ _ _ s5 _ H5 x u _ I5' r5 (step x H5 y5)) (fun _ s6 ⟨σ6,H6,I6,eσ,q6⟩ => ?_) fun _ _ z => hx0 ▸ z)
      refine wpAny_bind (wpAny_mono (hc _ _ _ _ _ _ s6 σ6 H6 _ I6 q6) (fun ok s7 ⟨H7,I7,q7⟩ => ?_) fun _ _ z => z.elim)
      have back:∀ {s8:Shared} {H8:Hp},Inv ((blk X (own ++ caps) sc cl { s2 with heap:=hp } H2 hp.objs.size (s2.heap.objs.size :: fp)).wish xe0) ((pins ++ [(s2.heap.objs.size,{ cls:=.type "list",data:=.seq its.toArray cap })]) ++ pinsAt fp s5.heap) σ6 H8 s8 →
          Inv ((blk X (own ++ caps) sc cl { s2 with heap:=hp } H2 hp.objs.size (s2.heap.objs.size :: fp)).wish xe0) pins (blkSt own.length κ σ) H8 s8 ∧ tn (i + 1) s8.heap ∧ (∀ b ∈ fp,H8 b = none) ∧ s8.heap.get? s2.heap.objs.size = some { cls:=.type "list",data:=.seq its.toArray cap } ∧ H8 s2.heap.objs.size = none:=by
        intro s8 H8 I8
        have pk:∀ b ∈ fp,∀ o,s5.heap.get? b = some o → s8.heap.get? b = some o ∧ H8 b = none:=fun b hb o e => by
          have z:=I8.pin (b,o) (List.mem_append_right _ (List.mem_append_right _ (mem_pinsAt hb e)))
          exact ⟨z.1,z.2.1⟩
        have zD:=I8.pin (s2.heap.objs.size,{ cls:=.type "list",data:=.seq its.toArray cap }) (List.mem_append_right _ (List.mem_append_left _ (List.mem_append_right _ (List.mem_singleton.mpr rfl))))
        refine ⟨(I8.pins_of fun p hp => I8.pin p (List.mem_append_right _ (List.mem_append_left _ (List.mem_append_left _ hp)))).weak ?_ fun j v e => ?_,T.keep _ _ _ st5 fun b hb o e => (pk b hb o e).1,fun b hb => ?_,zD.1,zD.2.1⟩
        · exact I3.len.trans I8.len.symm
        · have hge:own.length ≤ j:=by
            refine Nat.le_of_not_lt fun q => ?_
            unfold blkSt at e
            rw [List.getElem?_append_left (by rw [List.length_replicate]; exact q),List.getElem?_replicate,if_pos q] at e
            cases e
          have z:=congrArg (fun l => l[j - own.length]?) eσ
          simp only [List.getElem?_drop] at z
          rw [show own.length + (j - own.length) = j by omega] at z
          rw [z]
          exact e
        · obtain ⟨o,e,_⟩:=T.obj _ _ st5 b hb
          exact (pk b hb o e).2
      cases ok with
      | false =>
        obtain ⟨m',hm,w7⟩:=(if_neg Bool.false_ne_true) ▸ q7
        obtain ⟨I8,st8,fr8,e8,n8⟩:=back I7
        exact wpAny_pure ⟨rfl,m',hm,i + 1,ys,its,cap,H7,I8,st8,fr8,e8,n8,rv,hz,w7⟩
      | true =>
        have q7':=(if_pos rfl) ▸ q7
        refine wpAny_bind (wpAny_bind (wpAny_mono (he _ _ _ _ _ hps _ s7 σ6 H7 _ I7 q7') (fun y s8 ⟨v8,H8,I8,r8,m',hm,w8⟩ => ?_) fun _ _ z => hx0 ▸ z))
        obtain ⟨I9,st9,fr9,e9,n9⟩:=back I8
        have hl:=rv.length
        refine wpAny_bind (wpAny_list_append_plain (items:=its.toArray) ⟨cap,e9⟩ (fun h' hl' sb => ?_) (by rw [List.size_toArray,← hl]; exact hz))
        obtain ⟨cap',e'⟩:=hl'
        refine wpAny_pure (wpAny_pure ⟨rfl,m',hm,i + 1,ys ++ [v8],its ++ [y],cap',H8,?_,?_,fr9,?_,n9,Vals.append rv (.cons r8 .nil),?_,w8⟩)
        · exact I9.turned (t':=s8.toks) (fun b o hb e => (sb.2 b hb).trans e) n9 hDC (.inl List.mem_cons_self) cellD pinD
        · exact T.keep _ _ _ st9 fun b hb o e => (sb.2 b (Nat.ne_of_lt (hfp b hb))).trans e
        · rw [e']
          congr 3
          simp
        · rw [List.length_append]
          exact hlt
  exact codeAny_compStart_list loop (T.self _ 0 _ _ _ (T.keep _ _ _ st2 fun b hb o e => old _ _ (by rw [← ehp]; exact Heap.get?_push_of_some _ e)) loop)
end
section
variable {P:Program} {w:World} {K:PySem.W.Frag} {mg:Str → Option Value} {base:Heap} {N:List Str} {qual:Str} {scope:Scope} {f:Addr} {cd:Value} {A:Around} {outer:List Env} {s:Shared} {H:Hp} {E:XK}
theorem pe_compX {tg elt iter:Expr} {own caps:List Str} {κ:List Nat} {sc:Scope} {cl:List (Str × Addr)} {pos:Pos} {wi:TI} {g:TG} {te:TE} (S:BlkSc (cxOf (CX1 P w) P w K mg base N qual scope f cd A outer s H E) caps sc cl) (hκ:κ.map (fun k => N[k]?) = caps.map some)
    (hi:PI (cxOf (CX1 P w) P w K mg base N qual scope f cd A outer s H E) tg iter wi) (hg:∀ s₀ H₀ C ex xe,PG ((blk (cxOf (CX1 P w) P w K mg base N qual scope f cd A outer s H E) (own ++ caps) sc cl s₀ H₀ C ex).wish xe) tg g)
    (he:∀ s₀ H₀ C ex xe,Passes (CX1 P w) ((blk (cxOf (CX1 P w) P w K mg base N qual scope f cd A outer s H E) (own ++ caps) sc cl s₀ H₀ C ex).wish xe) E → PE ((blk (cxOf (CX1 P w) P w K mg base N qual scope f cd A outer s H E) (own ++ caps) sc cl s₀ H₀ C ex).wish xe) elt te)
    (hs:∀ x,foldedSetIterable iter (envOfC qual scope s.heap.objs.size f cd) x = pure x:=by intro _; rfl):PE (cxOf (CX1 P w) P w K mg base N qual scope f cd A outer s H E) (.ListComp elt [⟨tg,iter,[],0⟩] sc pos) (tComp own.length κ wi g tYes te) :=
  pe_compGX (X:=cxOf (CX1 P w) P w K mg base N qual scope f cd A outer s H E) (E:=E) rfl rfl rfl rfl (fun x cls d H' s hE h => wpAny_mono h (fun _ s'' z => ⟨x,cls,d,H',rfl,z.1,z.2,hE⟩) (fun _ _ z => z.elim)) rfl S hκ hi hg (fun s₀ H₀ C ex xe pins s σ H Q I h => wpAny_tests_nil ⟨H,I,h⟩) he hs
end
end L2
namespace L2
open PySem PySem.Spec PyProof.Rows
section
variable {X:Cx}
end
section
variable {X:Cx} {pins:List (Addr × Obj)} {σ:St}
end
end L2
namespace HT
open PySem PySem.Spec PyProof.Rows
section
variable {prog:Program} {w:World} {A:Around} {E:Value → Shared → Prop} {s:Shared}
theorem getItem_tuple_all {t sl:Addr} {items:Array Value} {vl vu:Value} {lo hi:Option Int} {Q:Value → Shared → Prop} (ht:IsTup s.heap t items) (hs:s.heap.IsSliceOf sl vl vu .none) (pl:IsPart vl lo) (pu:IsPart vu hi)
    (hw:sIx items.size 0 lo = 0 ∧ sIx items.size items.size hi = items.size) (h:Q (.ref t) s):wpAny (model prog w) A (getItem (.ref t) (.ref sl)) Q E s:=by
  obtain ⟨os,hos,hcs,hds⟩:=id hs
  have hTs:s.TypeIs (.ref sl) "slice":=⟨os,hos,hcs⟩
  unfold getItem
  try with_reducible refine wpAny_holding ?_
  first | refine wpAny_bind (wpAny_pure ?_) | skip
  refine wpAny_bind (wpAny_sequenceKey ht.typeIs (by decide) ?_)
  refine wpAny_bind (wpAny_callSpecial?_slot (name:=Str.ofString "__getitem__") ht.typeIs PyProof.Rows.slot_tuple_getitem
    (wpAny_call_entry PyProof.Rows.slot_tuple_getitem ht.typeIs entry_tuple_getitem ?_ (args_tuple_getitem _ _)))
  show wpAny _ _ (Builtin.Tuple.tupleItemsOf (.ref t) >>= _) _ _ s
  refine wpAny_bind (tupleItemsOf_ ht ?_)
  refine wpAny_bind (wpAny_typeOf hTs ?_)
  rw [if_pos (by decide)]
  refine wpAny_bind (sliceApplied_gen hs pl pu ?_)
  have hyes:(((sIx items.size 0 lo:Nat):Int) == 0 && (1:Int) == 1 && (sIx items.size items.size hi - sIx items.size 0 lo) == items.size) = true:=by
    rw [hw.1,hw.2]
    simp
  show wpAny _ _ (if (((sIx items.size 0 lo:Nat):Int) == 0 && (1:Int) == 1 && (sIx items.size items.size hi - sIx items.size 0 lo) == items.size) = true then _ else _) _ _ s
  rw [if_pos hyes]
  refine wpAny_bind ?_
  unfold Builtin.Tuple.tupleIsExact
  refine wpAny_bind (wpAny_typeOf ht.typeIs (wpAny_pure ?_))
  rw [if_pos (by decide)]
  refine wpAny_bind (wpAny_rule ?_)
  exact wpAny_pure ⟨_,rfl,wpAny_pure h⟩
end
end HT
namespace L2
open PySem PySem.Spec PyProof.Rows
section
variable {X:Cx}
noncomputable def rSlTA (K:PySem.W.Frag):V → Option Int → Option Int → Hp → VK → Prop:=fun x lo hi H Q => ∃ a xs,x = .ref a ∧ SqT K H a xs ∧
  ((HT.sIx xs.length 0 lo = 0 ∧ HT.sIx xs.length xs.length hi = xs.length) → Q (.ref a) H) ∧ (¬ (HT.sIx xs.length 0 lo = 0 ∧ HT.sIx xs.length xs.length hi = xs.length) → ∀ p,H p = none → Q (.ref p) (upd H p (.tup (cutV xs lo hi))))
theorem sl_tupA:SlR X (rSlTA X.K):=by
  intro pins s σ H x v vl vu lo hi sl Q I rx hs pl pu h
  obtain ⟨a,xs,rfl,hx,q1,q2⟩:=h
  by_cases hw:HT.sIx xs.length 0 lo = 0 ∧ HT.sIx xs.length xs.length hi = xs.length
  · cases rx
    obtain ⟨its,r,ht,hz⟩:=I.tuple hx
    have hlen:its.toArray.size = xs.length:=by rw [List.size_toArray]; exact r.length.symm
    refine ⟨"tuple",_,PyProof.Rows.slot_tuple_getitem.lookup,ht.typeIs,?_⟩
    exact HT.getItem_tuple_all ht hs pl pu (by rw [hlen]; exact hw) ⟨.ref a,H,I,rfl,q1 hw⟩
  · exact sl_tup pins s σ H _ v vl vu lo hi sl Q I rx hs pl pu ⟨a,xs,rfl,hx,hw,q2 hw⟩
end
end L2
namespace L2
open PySem PySem.Spec PyProof.Rows
end L2
namespace L2
open PySem PySem.Spec PyProof.Rows
section
variable {X:Cx} {tg:Expr}
noncomputable def rInDT (K:PySem.W.Frag):R2:=fun x y H Q => ∃ p xs ds d,y = .ref p ∧ SqT K H p xs ∧ Dats K H xs ds ∧ Dat K H x d ∧ PyData.canLayAll0 ds = true ∧ d.canLay0 = true ∧ d.depth ≤ 60 ∧ Q (.bl (ds.any fun e => PyData.eqv e d)) H
theorem op_inDT (hu:X.A.units + 64 < cLine):OpR X (compareOp .In) (rInDT X.K):=by
  intro pins s σ H x y v u Q I rx ry h
  obtain ⟨p,xs,ds,d,rfl,hq,hds,hd,hl,hl2,hdp,q⟩:=h
  cases ry
  obtain ⟨its,rv,pl,_⟩:=I.tuple hq
  obtain ⟨as,ra⟩:=Dats.reads I hds rv
  obtain ⟨bs,rb⟩:=Dat.reads I hd rx
  have he:∀ y,y ∈ its.toArray → SeqAt.EqAt X.A.in1 s y v (eqAtD s.heap d y):=fun y hy => by
    obtain ⟨e,he,cs,re⟩:=readsAll_get ra y (by simpa using hy)
    have hle:=canLayAll_mem hl he
    rw [eqAtD_of hle re]
    refine SeqAt.eqAt_reads e d X.A.in1 s y v cs bs re rb hle hl2 ?_
    have h1:min e.depth d.depth ≤ d.depth:=Nat.min_le_right _ _
    have h2:X.A.in1.units ≤ X.A.units + 1:=by first | exact Nat.le_refl _ | (show X.A.units + 1 ≤ X.A.units + 1; exact Nat.le_refl _) | (show X.A.units ≤ X.A.units + 1; exact Nat.le_succ _)
    omega
  refine SeqAt.in_tupleAt (eqAtD s.heap d) pl he ⟨.bl _,H,I,rfl,?_⟩
  rw [show its.toArray.any (eqAtD s.heap d) = its.any (eqAtD s.heap d) by simp,any_eqAtD ra hl]
  exact q
noncomputable def iSeq (K:PySem.W.Frag) (tl:TE):TI:=fun σ H R => tl σ H fun x H1 => ∃ a,x = .ref a ∧ (((∃ xs,SqL K H1 a xs) ∧ R (Itl K a) H1) ∨ ((∃ xs,SqT K H1 a xs) ∧ R (Itt K a) H1))
theorem pi_seq {l:Expr} {tl:TE} (hl:PE X l tl):PI X tg l (iSeq X.K tl):=by
  intro pins s σ H R I h
  refine thn (hl pins s σ H _ I h) fun v s1 ⟨x,H1,I1,r1,q1⟩ => ?_
  obtain ⟨a,e,q⟩:=q1
  have hb:∀ b ∈ [s1.heap.objs.size],FpOk X pins H1 b:=fun b hb => by
    have e:b = s1.heap.objs.size:=by simpa using hb
    subst e
    exact I1.fpOk (Nat.le_refl _) (I1.hok.fresh (Nat.le_refl _))
  subst e
  cases r1
  rcases q with ⟨⟨xs,hq⟩,q⟩ | ⟨⟨xs,hq⟩,q⟩
  · obtain ⟨its,rv,p,hz⟩:=I1.list hq
    refine wpAny_pyIter_list p.isList ?_
    exact ⟨s1.heap.objs.size,[s1.heap.objs.size],_,_,H1,rfl,I1.kept (t':=s1.toks) fun b o e => Heap.get?_push_of_some _ e,turn_list a _,⟨_,Heap.get?_push_size _ rfl,rfl,rfl⟩,hb,q⟩
  · obtain ⟨its,rv,p,hz⟩:=I1.tuple hq
    refine wpAny_pyIter_tuple (show s1.heap.IsTuple a its.toArray from p) ?_
    exact ⟨s1.heap.objs.size,[s1.heap.objs.size],_,_,H1,rfl,I1.kept (t':=s1.toks) fun b o e => Heap.get?_push_of_some _ e,turn_tuple a _,⟨_,Heap.get?_push_size _ rfl,rfl,rfl⟩,hb,q⟩
end
end L2
namespace Tk
open PySem
noncomputable def spl (c:Nat):List Nat → List (List Nat)
  | [] => [[]]
  | a :: r => if a = c then [] :: spl c r else
    match spl c r with
    | [] => [[a]]
    | p :: ps => (a :: p) :: ps
noncomputable def glue (z:List Nat):List (List Nat) → List Nat
  | [] => []
  | [p] => p
  | p :: q :: r => p ++ z ++ glue z (q :: r)
theorem spl_ne (c:Nat):∀ xs,spl c xs ≠ []
  | [] => by simp [spl]
  | a :: r => by
    unfold spl
    split
    · simp
    · cases h:spl c r with
      | nil => simp
      | cons p ps => simp
theorem spl_free {c:Nat}:∀ {w:List Nat},c ∉ w → spl c w = [w]
  | [],_ => rfl
  | a :: r,h => by
    have h1:a ≠ c:=fun e => h (e ▸ List.mem_cons_self)
    have h2:=spl_free (w:=r) fun m => h (List.mem_cons_of_mem _ m)
    unfold spl
    rw [if_neg h1,h2]
theorem spl_app (c:Nat) (b:List Nat):∀ a:List Nat,spl c (a ++ c :: b) = spl c a ++ spl c b
  | [] => by
    show spl c (c :: b) = [] :: spl c b
    rw [spl,if_pos rfl]
  | x :: a => by
    have ih:=spl_app c b a
    show spl c (x :: (a ++ c :: b)) = spl c (x :: a) ++ spl c b
    rw [spl,spl,ih]
    split
    · rfl
    · cases h:spl c a with
      | nil => exact absurd h (spl_ne c a)
      | cons p ps => rfl
theorem spl_glue {c:Nat}:∀ {ps:List (List Nat)},ps ≠ [] → (∀ p ∈ ps,c ∉ p) → spl c (glue [c] ps) = ps
  | [],h,_ => absurd rfl h
  | [p],_,h => spl_free (h p List.mem_cons_self)
  | p :: q :: r,_,h => by
    have ih:=spl_glue (c:=c) (ps:=q :: r) (by simp) fun x hx => h x (List.mem_cons_of_mem _ hx)
    show spl c (p ++ [c] ++ glue [c] (q :: r)) = _
    rw [List.append_assoc]
    show spl c (p ++ c :: glue [c] (q :: r)) = _
    rw [spl_app,ih,spl_free (h p List.mem_cons_self)]
    rfl
noncomputable def rep (c:Nat) (z:List Nat) (a:Nat):List Nat:=if a = c then z else [a]
theorem glue_cons {z p:List Nat}:∀ {ps:List (List Nat)},ps ≠ [] → glue z (p :: ps) = p ++ z ++ glue z ps
  | [],h => absurd rfl h
  | _ :: _,_ => rfl
theorem glue_push {z:List Nat} {a:Nat} {p:List Nat}:∀ {ps:List (List Nat)},glue z ((a :: p) :: ps) = a :: glue z (p :: ps)
  | [] => rfl
  | _ :: _ => rfl
theorem glue_spl (c:Nat) (z:List Nat):∀ xs,glue z (spl c xs) = xs.flatMap (rep c z)
  | [] => rfl
  | a :: r => by
    have ih:=glue_spl c z r
    rw [List.flatMap_cons,spl,rep]
    split
    · rw [glue_cons (spl_ne c r),ih]
      rfl
    · cases h:spl c r with
      | nil => exact absurd h (spl_ne c r)
      | cons p ps =>
        rw [h] at ih
        show glue z ((a :: p) :: ps) = [a] ++ _
        rw [glue_push,ih]
        rfl
noncomputable abbrev lst (x:Str):List Nat:=x.cps.toList
theorem lst_app (a b:Str):lst (a ++ b) = lst a ++ lst b:=by
  show (a.cps ++ b.cps).toList = _
  rw [Array.toList_append]
theorem lst_join (z:Str):∀ ps:List Str,lst (Str.join z ps) = glue (lst z) (ps.map lst)
  | [] => by
    show (Str.empty).cps.toList = []
    rfl
  | [p] => rfl
  | p :: q :: r => by
    have ih:=lst_join z (q :: r)
    show lst (p ++ z ++ Str.join z (q :: r)) = lst p ++ lst z ++ glue (lst z) ((q :: r).map lst)
    rw [lst_app,lst_app,ih]
theorem lst_inj {a b:Str} (h:lst a = lst b):a = b:=by
  obtain ⟨⟨x⟩⟩:=a
  obtain ⟨⟨y⟩⟩:=b
  have e:x = y:=h
  rw [e]
theorem split_lst (x:Str) (c:Nat):(Txt.split x ⟨#[c]⟩).map lst = spl c (lst x):=by
  have h1:=StrLaws.join_split x ⟨#[c]⟩
  have h2:=StrLaws.split_free x c
  have h3:Txt.split x ⟨#[c]⟩ ≠ []:=fun e => by
    have h5:=PyProof.Rows.split_pos x ⟨#[c]⟩
    rw [e] at h5
    exact absurd h5 (by decide)
  have h4:=congrArg lst h1
  rw [lst_join] at h4
  rw [← h4]
  refine (spl_glue (by simpa using h3) fun p hp => ?_).symm
  obtain ⟨q,hq,rfl⟩:=List.mem_map.mp hp
  exact h2 q hq
theorem replace_lst (x z:Str) (c:Nat):lst (Txt.replace x ⟨#[c]⟩ z) = (lst x).flatMap (rep c (lst z)):=by
  rw [StrLaws.replace_one,lst_join,split_lst,glue_spl]
noncomputable def gap (a:Nat):List Nat:=if a = 40 then [32,40,32] else if a = 41 then [32,41,32] else if a = 10 then [32] else [a]
theorem gap_eq (xs:List Nat):((xs.flatMap (rep 40 [32,40,32])).flatMap (rep 41 [32,41,32])).flatMap (rep 10 [32]) = xs.flatMap gap:=by
  rw [List.flatMap_assoc,List.flatMap_assoc]
  congr 1
  funext a
  unfold gap rep
  by_cases h1:a = 40
  · subst h1; rfl
  · by_cases h2:a = 41
    · subst h2; rfl
    · by_cases h3:a = 10
      · subst h3; rfl
      · simp [h1,h2,h3]
noncomputable def toks (xs:List Nat):List (List Nat):=(spl 32 (xs.flatMap gap)).filter fun p => decide (p ≠ [])
theorem toks_sp (a b:List Nat):toks (a ++ 32 :: b) = toks a ++ toks b:=by
  unfold toks
  rw [List.flatMap_append,List.flatMap_cons]
  show List.filter _ (spl 32 (a.flatMap gap ++ 32 :: b.flatMap gap)) = _
  rw [spl_app,List.filter_append]
theorem toks_nl (a b:List Nat):toks (a ++ 10 :: b) = toks a ++ toks b:=by
  unfold toks
  rw [List.flatMap_append,List.flatMap_cons]
  show List.filter _ (spl 32 (a.flatMap gap ++ 32 :: b.flatMap gap)) = _
  rw [spl_app,List.filter_append]
theorem toks_op (a b:List Nat):toks (a ++ 40 :: b) = toks a ++ [40] :: toks b:=by
  unfold toks
  rw [List.flatMap_append,List.flatMap_cons]
  show List.filter _ (spl 32 (a.flatMap gap ++ 32 :: ([40] ++ 32 :: b.flatMap gap))) = _
  rw [spl_app,spl_app,List.filter_append,List.filter_append,spl_free (w:=[40]) (by decide)]
  rfl
theorem toks_cl (a b:List Nat):toks (a ++ 41 :: b) = toks a ++ [41] :: toks b:=by
  unfold toks
  rw [List.flatMap_append,List.flatMap_cons]
  show List.filter _ (spl 32 (a.flatMap gap ++ 32 :: ([41] ++ 32 :: b.flatMap gap))) = _
  rw [spl_app,spl_app,List.filter_append,List.filter_append,spl_free (w:=[41]) (by decide)]
  rfl
noncomputable def Word (w:List Nat):Prop:=w ≠ [] ∧ ∀ c ∈ w,c ≠ 40 ∧ c ≠ 41 ∧ c ≠ 10 ∧ c ≠ 32
theorem gap_word:∀ {w:List Nat},(∀ c ∈ w,c ≠ 40 ∧ c ≠ 41 ∧ c ≠ 10 ∧ c ≠ 32) → w.flatMap gap = w
  | [],_ => rfl
  | a :: r,h => by
    obtain ⟨h1,h2,h3,_⟩:=h a List.mem_cons_self
    rw [List.flatMap_cons,gap_word fun c hc => h c (List.mem_cons_of_mem _ hc)]
    unfold gap
    rw [if_neg h1,if_neg h2,if_neg h3]
    rfl
theorem toks_word {w:List Nat} (h:Word w):toks w = [w]:=by
  unfold toks
  rw [gap_word h.2,spl_free fun m => (h.2 _ m).2.2.2 rfl]
  simp [h.1]
end Tk
namespace K18
open PySem L2
noncomputable def top (i:Nat):Stmt:=PySem.Challenge.pw_sealhouse_k18_no_kind_no_expression.main.body.getD i (.Pass ⟨0,0,0,0⟩)
noncomputable abbrev sTrees:Stmt:=top 6
noncomputable abbrev sPiecesOf:Stmt:=top 7
noncomputable abbrev sTextOf:Stmt:=top 8
noncomputable abbrev sTreeText:Stmt:=top 9
noncomputable abbrev sPieces:Stmt:=top 10
noncomputable abbrev sName:Stmt:=top 22
noncomputable abbrev sNum:Stmt:=top 23
noncomputable abbrev sReadKind:Stmt:=top 24
noncomputable abbrev sReadEx:Stmt:=top 25
noncomputable abbrev sSingle:Stmt:=top 26
noncomputable abbrev sBracket:Stmt:=top 27
noncomputable abbrev sAhead:Stmt:=top 28
noncomputable abbrev sNameOf:Stmt:=top 29
noncomputable abbrev sNumberOf:Stmt:=top 30
noncomputable abbrev sSizeOf:Stmt:=top 31
noncomputable abbrev sNearFar:Stmt:=top 32
noncomputable abbrev sKindOf:Stmt:=top 33
noncomputable abbrev sExOf:Stmt:=top 34
noncomputable abbrev sExsOf:Stmt:=top 35
noncomputable abbrev sLitOf:Stmt:=top 36
noncomputable abbrev sCallOf:Stmt:=top 37
noncomputable abbrev sWithin:Stmt:=top 40
noncomputable abbrev sKindText:Stmt:=top 42
noncomputable abbrev sExText:Stmt:=top 43
noncomputable abbrev sNearFarW:Stmt:=top 44
noncomputable abbrev sKindTree:Stmt:=top 45
noncomputable abbrev sExTree:Stmt:=top 46
noncomputable abbrev sWords:Stmt:=top 47
noncomputable abbrev sCell:Stmt:=top 49
noncomputable abbrev sNameL:Stmt:=top 50
noncomputable abbrev sSizeL:Stmt:=top 51
noncomputable abbrev sKindOv:Stmt:=top 52
noncomputable abbrev sExOv:Stmt:=top 53
noncomputable abbrev sTokens:Stmt:=top 54
noncomputable abbrev sWritten:Stmt:=top 55
noncomputable abbrev sLoose:Stmt:=top 56
noncomputable abbrev sSpoil:Stmt:=top 57
noncomputable abbrev sTreesL:Stmt:=top 58
noncomputable abbrev sIsName:Stmt:=top 59
noncomputable abbrev sIsFar:Stmt:=top 60
noncomputable abbrev sNumL:Stmt:=top 61
noncomputable abbrev sIsSize:Stmt:=top 62
noncomputable abbrev sIsKind:Stmt:=top 63
noncomputable abbrev sRest:Stmt:=top 64
noncomputable abbrev sIsEx:Stmt:=top 65
noncomputable abbrev sRead:Stmt:=top 66
noncomputable abbrev sOfTree:Stmt:=top 67
noncomputable abbrev sFits:Stmt:=top 68
noncomputable abbrev sLaw:Stmt:=top 69
theorem small {n:Nat} (h:n ≤ 1000):n ≤ sizeLine:=Nat.le_of_lt (small1000 h)
theorem mid {n:Nat} (h:n ≤ 1000000):n < sizeLine:=Nat.lt_of_le_of_lt h (by rw [sizeLine_eq]; decide)
theorem same_new {H:Hp} {p:Addr} (h:H p = none) (o:HO):Same H (upd H p o):=fun b u q => by rw [upd_ne (ne_of_none q h)]; exact q
theorem sput {H H2:Hp} {a:Addr} {o:HO} (e:Same H H2) (h:H a = none):Same H (upd H2 a o):=fun b u q => by rw [upd_ne (ne_of_none q h)]; exact e b u q
theorem Same.free {H H':Hp} {a:Addr} (e:Same H H') (h:H' a = none):H a = none:=by
  cases q:H a with
  | none => rfl
  | some o => rw [e a o q] at h; cases h
noncomputable abbrev cps (x:Str):List Nat:=Tk.lst x
theorem cps_len (a:Str):(cps a).length = a.length:=by simp [Str.length]
inductive Tr where
  | w (s:Str)
  | n (ts:List Tr)
mutual
noncomputable def Tr.flat:Tr → List (List Nat)
  | .w s => [cps s]
  | .n ts => [40] :: (flats ts ++ [[41]])
noncomputable def flats:List Tr → List (List Nat)
  | [] => []
  | t :: ts => t.flat ++ flats ts
end
mutual
noncomputable def Tr.text:Tr → List Nat
  | .w s => cps s
  | .n ts => 40 :: (inner ts ++ [41])
noncomputable def inner:List Tr → List Nat
  | [] => []
  | t :: ts => t.text ++ tails ts
noncomputable def tails:List Tr → List Nat
  | [] => []
  | t :: ts => 32 :: (t.text ++ tails ts)
end
mutual
noncomputable def Tr.ok:Tr → Prop
  | .w s => Tk.Word (cps s)
  | .n ts => oks ts
noncomputable def oks:List Tr → Prop
  | [] => True
  | t :: ts => t.ok ∧ oks ts
end
mutual
noncomputable def Tr.wt:Tr → Nat
  | .w _ => 1
  | .n ts => 3 + wts ts
noncomputable def wts:List Tr → Nat
  | [] => 0
  | t :: ts => t.wt + 1 + wts ts
end
theorem flats_app:∀ a b:List Tr,flats (a ++ b) = flats a ++ flats b
  | [],b => rfl
  | t :: a,b => by
    show t.flat ++ flats (a ++ b) = (t.flat ++ flats a) ++ flats b
    rw [flats_app a b,List.append_assoc]
theorem flats_one (t:Tr):flats [t] = t.flat:=List.append_nil _
theorem oks_app:∀ {a b:List Tr},oks a → oks b → oks (a ++ b)
  | [],_,_,h => h
  | _ :: _,_,⟨h1,h2⟩,h => ⟨h1,oks_app h2 h⟩
mutual
theorem toks_text:∀ {t:Tr},t.ok → Tk.toks t.text = t.flat
  | .w s,h => Tk.toks_word h
  | .n ts,h => by
    show Tk.toks ([] ++ 40 :: (inner ts ++ 41 :: [])) = [40] :: (flats ts ++ [[41]])
    rw [Tk.toks_op,Tk.toks_cl,toks_inner h]
    rfl
theorem toks_inner:∀ {ts:List Tr},oks ts → Tk.toks (inner ts) = flats ts
  | [],_ => rfl
  | t :: ts,⟨h1,h2⟩ => by
    show Tk.toks (t.text ++ tails ts) = t.flat ++ flats ts
    rw [toks_tails h2,toks_text h1]
theorem toks_tails:∀ {ts:List Tr},oks ts → ∀ {a:List Nat},Tk.toks (a ++ tails ts) = Tk.toks a ++ flats ts
  | [],_,a => by
    show Tk.toks (a ++ []) = Tk.toks a ++ []
    rw [List.append_nil,List.append_nil]
  | t :: ts,⟨h1,h2⟩,a => by
    show Tk.toks (a ++ 32 :: (t.text ++ tails ts)) = Tk.toks a ++ (t.flat ++ flats ts)
    rw [Tk.toks_sp,toks_tails h2,toks_text h1]
end
noncomputable def lines:List Tr → List Nat
  | [] => []
  | [t] => t.text
  | t :: u :: r => t.text ++ 10 :: lines (u :: r)
mutual
theorem text_wt:∀ t:Tr,t.text.length ≤ (t.flat.map List.length).sum + t.wt
  | .w s => by
    show (cps s).length ≤ ([cps s].map List.length).sum + 1
    simp
  | .n ts => by
    have h:=inner_wt ts
    show (40 :: (inner ts ++ [41])).length ≤ (([40] :: (flats ts ++ [[41]])).map List.length).sum + (3 + wts ts)
    simp only [List.length_cons,List.length_append,List.map_cons,List.map_append,List.sum_cons,List.sum_append,List.map_nil,List.sum_nil,List.length_nil]
    omega
theorem inner_wt:∀ ts:List Tr,(inner ts).length ≤ ((flats ts).map List.length).sum + wts ts
  | [] => Nat.zero_le _
  | t :: ts => by
    have h1:=text_wt t
    have h2:=tails_wt ts
    show (t.text ++ tails ts).length ≤ ((t.flat ++ flats ts).map List.length).sum + (t.wt + 1 + wts ts)
    rw [List.length_append,List.map_append,List.sum_append]
    omega
theorem tails_wt:∀ ts:List Tr,(tails ts).length ≤ ((flats ts).map List.length).sum + wts ts
  | [] => Nat.zero_le _
  | t :: ts => by
    have h1:=text_wt t
    have h2:=tails_wt ts
    show (32 :: (t.text ++ tails ts)).length ≤ ((t.flat ++ flats ts).map List.length).sum + (t.wt + 1 + wts ts)
    rw [List.length_cons,List.length_append,List.map_append,List.sum_append]
    omega
end
mutual
theorem wt_flat:∀ t:Tr,t.wt + 1 ≤ 3 * t.flat.length
  | .w s => by show 2 ≤ 3 * 1; decide
  | .n ts => by
    have h:=wts_flat ts
    show 3 + wts ts + 1 ≤ 3 * ([40] :: (flats ts ++ [[41]])).length
    rw [List.length_cons,List.length_append]
    show 3 + wts ts + 1 ≤ 3 * ((flats ts).length + 1 + 1)
    omega
theorem wts_flat:∀ ts:List Tr,wts ts ≤ 3 * (flats ts).length
  | [] => Nat.zero_le _
  | t :: ts => by
    have h1:=wt_flat t
    have h2:=wts_flat ts
    show t.wt + 1 + wts ts ≤ 3 * (t.flat ++ flats ts).length
    rw [List.length_append]
    omega
end
mutual
inductive TrAt (K:PySem.W.Frag) (H:Hp):V → Tr → Prop
  | w (s:Str):TrAt K H (.str s) (.w s)
  | n {a:Addr} {xs:List V} {ts:List Tr}:H a = some (.tup xs) → TrsAt K H xs ts → TrAt K H (.ref a) (.n ts)
inductive TrsAt (K:PySem.W.Frag) (H:Hp):List V → List Tr → Prop
  | nil:TrsAt K H [] []
  | cons {x:V} {t:Tr} {xs:List V} {ts:List Tr}:TrAt K H x t → TrsAt K H xs ts → TrsAt K H (x :: xs) (t :: ts)
end
mutual
theorem TrAt.keep {K:PySem.W.Frag} {H H':Hp} (e:∀ a xs,H a = some (.tup xs) → H' a = some (.tup xs)):∀ {x:V} {t:Tr},TrAt K H x t → TrAt K H' x t
  | _,_,.w s => .w s
  | _,_,.n h r => .n (e _ _ h) (TrsAt.keep e r)
theorem TrsAt.keep {K:PySem.W.Frag} {H H':Hp} (e:∀ a xs,H a = some (.tup xs) → H' a = some (.tup xs)):∀ {xs:List V} {ts:List Tr},TrsAt K H xs ts → TrsAt K H' xs ts
  | _,_,.nil => .nil
  | _,_,.cons h r => .cons (TrAt.keep e h) (TrsAt.keep e r)
end
theorem TrsAt.append {K:PySem.W.Frag} {H:Hp}:∀ {xs ys:List V} {ts us:List Tr},TrsAt K H xs ts → TrsAt K H ys us → TrsAt K H (xs ++ ys) (ts ++ us)
  | _,_,_,_,.nil,h => h
  | _,_,_,_,.cons a r,h => .cons a (r.append h)
theorem TrsAt.length {K:PySem.W.Frag} {H:Hp}:∀ {xs:List V} {ts:List Tr},TrsAt K H xs ts → xs.length = ts.length
  | _,_,.nil => rfl
  | _,_,.cons _ r => congrArg (· + 1) r.length
theorem TrsAt.snoc {K:PySem.W.Frag} {H:Hp}:∀ {us:List V} {v:V} {ts:List Tr},TrsAt K H (us ++ [v]) ts → ∃ ls t,ts = ls ++ [t] ∧ TrsAt K H us ls ∧ TrAt K H v t
  | [],_,_,.cons h .nil => ⟨[],_,rfl,.nil,h⟩
  | _ :: _,_,_,.cons h r => by
    obtain ⟨ls,t,rfl,h1,h2⟩:=r.snoc
    exact ⟨_ :: ls,t,rfl,.cons h h1,h2⟩
theorem TrsAt.get {K:PySem.W.Frag} {H:Hp}:∀ {xs:List V} {ts:List Tr},TrsAt K H xs ts → ∀ {i:Nat} {x:V},xs[i]? = some x → ∃ t,ts[i]? = some t ∧ TrAt K H x t
  | _,_,.cons h r,0,x,e => by
    cases (show some _ = some x from e)
    exact ⟨_,rfl,h⟩
  | _,_,.cons h r,i + 1,x,e => r.get (i:=i) e
theorem TrsAt.rev {K:PySem.W.Frag} {H:Hp}:∀ {xs:List V} {ts:List Tr},TrsAt K H xs ts → TrsAt K H xs.reverse ts.reverse
  | _,_,.nil => .nil
  | _,_,.cons h r => by
    rw [List.reverse_cons,List.reverse_cons]
    exact r.rev.append (.cons h .nil)
theorem TrAt.same {K:PySem.W.Frag} {H H':Hp} (e:Same H H') {x:V} {t:Tr} (h:TrAt K H x t):TrAt K H' x t:=h.keep fun _ _ q => e _ _ q
theorem TrsAt.same {K:PySem.W.Frag} {H H':Hp} (e:Same H H') {xs:List V} {ts:List Tr} (h:TrsAt K H xs ts):TrsAt K H' xs ts:=h.keep fun _ _ q => e _ _ q
end K18
namespace K18
open PySem L2
noncomputable def rowV:List V → List V
  | [] => []
  | x :: xs => x :: xs.flatMap fun u => [V.str " ",u]
noncomputable def rowT:List Tr → List Tr
  | [] => []
  | t :: ts => t :: ts.flatMap fun u => [.w " ",u]
theorem rowV_snoc (xs:List V) (u:V):rowV (xs ++ [u]) = rowV xs ++ (if 0 < xs.length then [V.str " ",u] else [u]):=by
  cases xs with
  | nil => rfl
  | cons x r =>
    rw [if_pos (by simp)]
    show x :: (r ++ [u]).flatMap _ = (x :: r.flatMap _) ++ _
    rw [List.flatMap_append]
    rfl
theorem rowV_len:∀ xs:List V,(rowV xs).length ≤ 2 * xs.length
  | [] => Nat.le_refl _
  | x :: xs => by
    have h:∀ l:List V,(l.flatMap fun u => [V.str " ",u]).length = 2 * l.length:=fun l => by
      induction l with
      | nil => rfl
      | cons a r ih => rw [List.flatMap_cons,List.length_append,ih]; simp only [List.length_cons,List.length_nil]; omega
    show (x :: xs.flatMap fun u => [V.str " ",u]).length ≤ _
    rw [List.length_cons,h]
    simp only [List.length_cons]
    omega
theorem row_at {K:PySem.W.Frag} {H:Hp}:∀ {xs:List V} {ts:List Tr},TrsAt K H xs ts → TrsAt K H (rowV xs) (rowT ts)
  | _,_,.nil => .nil
  | _,_,.cons (xs:=r) (ts:=us) h t => by
    refine .cons h ?_
    have go:∀ {xs:List V} {ts:List Tr},TrsAt K H xs ts → TrsAt K H (xs.flatMap fun u => [V.str " ",u]) (ts.flatMap fun u => [.w " ",u]):=by
      intro xs ts q
      induction xs generalizing ts with
      | nil => cases q; exact .nil
      | cons y ys ih =>
        cases q with
        | cons q1 q2 => exact .cons (.w _) (.cons q1 (ih q2))
    exact go t
noncomputable def cat (is:List Tr):List Nat:=is.flatMap Tr.text
noncomputable def wsum (is:List Tr):Nat:=(is.map Tr.wt).sum
theorem cat_app (a b:List Tr):cat (a ++ b) = cat a ++ cat b:=List.flatMap_append ..
theorem cat_one (t:Tr):cat [t] = t.text:=List.append_nil _
theorem wsum_app (a b:List Tr):wsum (a ++ b) = wsum a + wsum b:=by
  unfold wsum
  rw [List.map_append,List.sum_append]
theorem wsum_one (t:Tr):wsum [t] = t.wt:=Nat.add_zero _
theorem wsum_rev (a:List Tr):wsum a.reverse = wsum a:=by
  unfold wsum
  rw [List.map_reverse,List.sum_reverse]
theorem wt_pos:∀ t:Tr,0 < t.wt
  | .w _ => Nat.one_pos
  | .n ts => by show 0 < 3 + wts ts; omega
theorem len_wsum:∀ is:List Tr,is.length ≤ wsum is
  | [] => Nat.le_refl _
  | t :: r => by
    have h1:=len_wsum r
    have h2:=wt_pos t
    show r.length + 1 ≤ t.wt + wsum r
    omega
theorem tails_row:∀ ts:List Tr,cat (ts.flatMap fun u => [.w " ",u]) = tails ts
  | [] => rfl
  | t :: ts => by
    have ih:=tails_row ts
    show cat ([.w " ",t] ++ ts.flatMap _) = 32 :: (t.text ++ tails ts)
    rw [cat_app,ih]
    show (cps " " ++ (t.text ++ [])) ++ _ = _
    rw [List.append_nil]
    rfl
theorem cat_row:∀ ts:List Tr,cat (rowT ts) = inner ts
  | [] => rfl
  | t :: ts => by
    show t.text ++ cat (ts.flatMap _) = t.text ++ tails ts
    rw [tails_row]
theorem wsum_tails:∀ ts:List Tr,wsum (ts.flatMap fun u => [.w " ",u]) = wts ts
  | [] => rfl
  | t :: ts => by
    have ih:=wsum_tails ts
    show wsum ([.w " ",t] ++ ts.flatMap _) = t.wt + 1 + wts ts
    rw [wsum_app,ih]
    show 1 + (t.wt + 0) + wts ts = _
    omega
theorem wsum_row:∀ ts:List Tr,wsum (rowT ts) ≤ wts ts
  | [] => Nat.le_refl _
  | t :: ts => by
    show t.wt + wsum (ts.flatMap _) ≤ t.wt + 1 + wts ts
    rw [wsum_tails]
    omega
noncomputable def bits (ts:List Tr):List Tr:=.w "(" :: (rowT ts ++ [.w ")"])
noncomputable def bitsV (xs:List V):List V:=.str "(" :: (rowV xs ++ [.str ")"])
theorem cat_bits (ts:List Tr):cat (bits ts) = (Tr.n ts).text:=by
  show cps "(" ++ cat (rowT ts ++ [.w ")"]) = 40 :: (inner ts ++ [41])
  rw [cat_app,cat_row,cat_one]
  rfl
theorem wsum_bits (ts:List Tr):wsum (bits ts) < (Tr.n ts).wt:=by
  have h:=wsum_row ts
  show 1 + wsum (rowT ts ++ [.w ")"]) < 3 + wts ts
  rw [wsum_app,wsum_one]
  show 1 + (wsum (rowT ts) + 1) < _
  omega
theorem bits_at {K:PySem.W.Frag} {H:Hp} {xs:List V} {ts:List Tr} (h:TrsAt K H xs ts):TrsAt K H (bitsV xs) (bits ts):=.cons (.w _) ((row_at h).append (.cons (.w _) .nil))
noncomputable def spPieces (K:PySem.W.Frag):Sp:=fun vs H Q _ => ∃ (p:Addr) (xs:List V),vs = [.ref p] ∧ SqT K H p xs ∧ xs.length ≤ 10000 ∧ ∀ H' (l:Addr),Same H H' → H l = none → H' l = some (.lst (bitsV xs)) → Q (.ref l) H'
section
variable {P:Program} {w:World} {K:PySem.W.Frag} {mg:Str → Option Value} {base:Heap}
theorem scPieces:FnScope ["trees","pieces","place","tree"] ["trees"] (defScope sPieces):=⟨rfl,rfl,rfl,by decide +kernel,rfl,by decide +kernel,by decide +kernel⟩
set_option maxHeartbeats 0 in
theorem ok_pieces {f:Addr} {fd:FuncData} (F:Fun K "bracket_pieces" "bracket_pieces" sPieces f fd) (me:mg "enumerate" = none):FnOk P w K mg base CX0 1 f fd ["trees"] (spPieces K):=by
  refine F.ok scPieces (fun vs H Q E h => ?_) (fun cdv A outer s H vs Q E hr h => ?_)
  · obtain ⟨p,xs,rfl,_⟩:=h
    rfl
  obtain ⟨p,xs,rfl,hp,hx,q⟩:=h
  refine ⟨_,pss_cons (ps_set (i:=1) scPieces.nd rfl (Or.inl rfl) (pe_lst (pa_cons pe_str pa_nil)))
    (pss_cons (ps_for PassesOwn.never rfl (pi_enT rfl me (pa_cons (pv 0) pa_nil)) (pg_tup rfl (pgs_cons (pg_name (i:=2) scPieces.nd rfl (Or.inl rfl)) (pgs_cons (pg_name (i:=3) scPieces.nd rfl (Or.inl rfl)) pgs_nil)))
      (pss_cons (ps_if (pt_cmpR op_gt (pv 2) pe_int (nomark _)) (pss_one (ps_expr (pe_bm PySem.F.plainAttrs_list PySem.F.slot_list_append PySem.F.type_list_append mt_append (pv 1) (pa_cons pe_str pa_nil)))) pss_nil)
      (pss_one (ps_expr (pe_bm PySem.F.plainAttrs_list PySem.F.slot_list_append PySem.F.type_list_append mt_append (pv 1) (pa_cons (pv 3) pa_nil))))))
    (pss_cons (ps_expr (pe_bm PySem.F.plainAttrs_list PySem.F.slot_list_append PySem.F.type_list_append mt_append (pv 1) (pa_cons pe_str pa_nil)))
    (pss_one (ps_ret (pv 1))))),?_⟩
  refine ⟨(by show 1 ≤ sizeLine; decide),fun l hl => ?_⟩
  refine ⟨_,rfl,p,xs,rfl,(same_new hl _).tup hp,for_enT (K:=K) (a:=p) (xs:=xs) (fun i σ H2 => ∃ (v2 v3:Option V),σ = [some (.ref p),some (.ref l),v2,v3] ∧ Same H H2 ∧ H2 l = some (.lst (.str "(" :: rowV (xs.take i))))
    ⟨none,none,rfl,same_new hl _,upd_same⟩ ?_ ?_ ?_⟩
  · rintro i σ H2 _ ⟨v2,v3,rfl,sH,_⟩
    exact sH.tup hp
  · rintro i u b σ H2 hu hb ⟨v2,v3,rfl,sH,hL⟩
    have hi:i < xs.length:=(List.getElem?_eq_some_iff.mp hu).1
    have sb:=same_new hb (.tup [.int i,u])
    have hL1:=sb _ _ hL
    have pl:=rowV_len (xs.take i)
    rw [List.length_take] at pl
    have et:xs.take (i + 1) = xs.take i ++ [u]:=by rw [List.take_add_one,hu]; rfl
    have el:(xs.take i).length = i:=by rw [List.length_take]; omega
    refine ⟨b,_,rfl,SqT.of upd_same,rfl,_,_,rfl,_,_,rfl,rfl,?_⟩
    refine ⟨_,rfl,_,_,rfl,rfl,_,rfl,?_⟩
    refine ite2 (fun c => ?_) (fun c => ?_)
    · have c':(0:Int) < (i:Int):=of_decide_eq_true c
      refine ⟨_,rfl,.inl ⟨rfl,_,SqL.of hL1⟩,l,_,_,rfl,rfl,hL1,mid (by rw [List.length_cons]; omega),?_⟩
      refine ⟨_,rfl,.inl ⟨rfl,_,SqL.of upd_same⟩,_,rfl,l,_,_,rfl,rfl,upd_same,?_,?_⟩
      · rw [List.length_append,List.length_cons]
        exact mid (by show (rowV (xs.take i)).length + 1 + 1 ≤ 1000000; omega)
      · refine ⟨_,_,rfl,sput (sput (sH.trans sb) hl) hl,?_⟩
        rw [upd_same,et,rowV_snoc,el,if_pos (by omega)]
        simp
    · have c':¬ (0:Int) < (i:Int):=of_decide_eq_false (Bool.eq_false_iff.mpr c)
      refine ⟨_,rfl,.inl ⟨rfl,_,SqL.of hL1⟩,_,rfl,l,_,_,rfl,rfl,hL1,mid (by rw [List.length_cons]; omega),?_⟩
      refine ⟨_,_,rfl,sput (sH.trans sb) hl,?_⟩
      rw [upd_same,et,rowV_snoc,el,if_neg (by omega)]
      simp
  · rintro σ H2 ⟨v2,v3,rfl,sH,hL⟩
    rw [List.take_length] at hL
    have pl:=rowV_len xs
    refine ⟨_,rfl,.inl ⟨rfl,_,SqL.of hL⟩,l,_,_,rfl,rfl,hL,mid (by rw [List.length_cons]; omega),?_⟩
    exact ⟨_,rfl,q _ l (sput sH hl) hl (by rw [upd_same]; rfl)⟩
end
end K18
namespace K18
open PySem L2
noncomputable def codes (ws:List Str):List Nat:=(ws.map cps).flatten
theorem codes_snoc (ws:List Str) (s:Str):codes (ws ++ [s]) = codes ws ++ cps s:=by
  unfold codes
  rw [List.map_append,List.flatten_append]
  show _ ++ (cps s ++ []) = _
  rw [List.append_nil]
theorem codes_len:∀ ws:List Str,(codes ws).length = (ws.map (·.length)).sum
  | [] => rfl
  | w :: ws => by
    show (cps w ++ codes ws).length = w.length + (ws.map (·.length)).sum
    rw [List.length_append,codes_len ws,cps_len]
theorem glue0:∀ ps:List (List Nat),Tk.glue [] ps = ps.flatten
  | [] => rfl
  | [p] => by show p = p ++ []; rw [List.append_nil]
  | p :: q :: r => by
    have ih:=glue0 (q :: r)
    show p ++ [] ++ Tk.glue [] (q :: r) = p ++ (q :: r).flatten
    rw [List.append_nil,ih]
theorem cps_join (z:Str) (ps:List Str):cps (Txt.join z ps) = Tk.glue (cps z) (ps.map cps):=by
  unfold Txt.join
  rw [StrLaws.glued_eq_join]
  exact Tk.lst_join z ps
theorem cps_join0 (ps:List Str):cps (Txt.join (Str.ofString "") ps) = codes ps:=by
  rw [cps_join]
  exact glue0 _
theorem glue_lines:∀ ts:List Tr,Tk.glue [10] (ts.map Tr.text) = lines ts
  | [] => rfl
  | [t] => rfl
  | t :: u :: r => by
    have ih:=glue_lines (u :: r)
    show t.text ++ [10] ++ Tk.glue [10] ((u :: r).map Tr.text) = t.text ++ 10 :: lines (u :: r)
    rw [ih,List.append_assoc]
    rfl
theorem while_rel {c:TT} {tb:TS} {D:Ends} {σ:St} {H:Hp} (W:Nat → St → Hp → Prop) (m:Nat) (h0:W m σ H)
    (hs:∀ m σ H,W m σ H → c σ H fun b H1 => if b = true then tb { D with nx:=fun σ' H' => ∃ m',m' < m ∧ W m' σ' H',ct:=fun σ' H' => ∃ m',m' < m ∧ W m' σ' H',bk:=D.nx } σ H1 else D.nx σ H1)
    (mono:∀ σ H Q Q',(∀ b H1,Q b H1 → Q' b H1) → c σ H Q → c σ H Q'):tWhile c tb D σ H:=by
  refine ⟨W,⟨m,h0⟩,fun m σ H p => mono σ H _ _ (fun b H1 q => ?_) (hs m σ H p)⟩
  cases b with
  | true => exact ⟨_,fun σ' H' z => z,q⟩
  | false => exact q
theorem snoc_get {us:List V} {v:V}:(us ++ [v])[(us ++ [v]).length - 1]? = some v:=by simp
theorem call_isi {X:Cx}:CallR X (.builtin "isinstance") (fun xs H Q => ∃ x T t b,xs = [x,.ty T] ∧ TyOf X.K H x t ∧ PySem.W.kitOne X.K t (.type T) = some b ∧ Q (.bl b) H):=by
  intro pins s σ H xs us Q I rv h
  obtain ⟨x,T,t,b,rfl,ty,e,q⟩:=h
  obtain ⟨u,v,rfl,r1,r2⟩:=rv.two
  cases r2
  exact isinst_ok I r1 ty e fun tk => ⟨.bl b,H,I.tok _,rfl,q⟩
theorem kit_ss (K:PySem.W.Frag):PySem.W.kitOne K (.type "str") (.type "str") = some true:=rfl
theorem kit_ts (K:PySem.W.Frag):PySem.W.kitOne K (.type "tuple") (.type "str") = some false:=rfl
theorem bootList:bootBuiltins "list" = some (.type "list"):=by decide +kernel
theorem bootTuple:bootBuiltins "tuple" = some (.type "tuple"):=by decide +kernel
theorem bootInt:bootBuiltins "int" = some (.type "int"):=by decide +kernel
noncomputable def spTreeText (K:PySem.W.Frag):Sp:=fun vs H Q _ => ∃ (v:V) (t:Tr),vs = [v] ∧ t.wt ≤ 9000 ∧ t.text.length ≤ 100000 ∧ TrAt K H v t ∧ ∀ H' (z:Str),Same H H' → cps z = t.text → Q (.str z) H'
noncomputable def spTextOf (K:PySem.W.Frag):Sp:=fun vs H Q _ => ∃ (p:Addr) (xs:List V) (ts:List Tr),vs = [.ref p] ∧ SqL K H p xs ∧ TrsAt K H xs ts ∧ ts.length ≤ 9000 ∧ (∀ t ∈ ts,t.wt ≤ 9000 ∧ t.text.length ≤ 100000) ∧ (lines ts).length ≤ 100000 ∧ ∀ H' (z:Str),Same H H' → cps z = lines ts → Q (.str z) H'
section
variable {P:Program} {w:World} {K:PySem.W.Frag} {mg:Str → Option Value} {base:Heap}
theorem scTreeText:FnScope ["tree","written","left","here","piece"] ["tree"] (defScope sTreeText):=⟨rfl,rfl,rfl,by decide +kernel,rfl,by decide +kernel,by decide +kernel⟩
theorem bitsV_len (xs:List V):(bitsV xs).length ≤ 2 * xs.length + 2:=by
  have:=rowV_len xs
  show (V.str "(" :: (rowV xs ++ [V.str ")"])).length ≤ _
  simp only [List.length_cons,List.length_append,List.length_nil]
  omega
theorem len_wts:∀ ts:List Tr,ts.length ≤ wts ts
  | [] => Nat.le_refl _
  | t :: r => by
    have h1:=len_wts r
    show r.length + 1 ≤ t.wt + 1 + wts r
    omega
set_option maxHeartbeats 0 in
theorem ok_treeText {f fp:Addr} {fd fdp:FuncData} (F:Fun K "tree_text" "tree_text" sTreeText f fd)
    (GP:FnOk P w K mg base CX0 1 fp fdp ["trees"] (spPieces K)) (bP:Binds K fdp ["trees"] []) (kP:PySem.W.keepIn K (.ref fp) = true) (mP:mg "bracket_pieces" = some (.ref fp))
    (ml:mg "len" = none) (mi:mg "isinstance" = none) (ms:mg "str" = none) (mr:mg "reversed" = none):FnOk P w K mg base CX0 2 f fd ["tree"] (spTreeText K):=by
  refine F.ok scTreeText (fun vs H Q E h => ?_) (fun cdv A outer s H vs Q E hr h => ?_)
  · obtain ⟨v,t,rfl,_⟩:=h
    rfl
  obtain ⟨x,t,rfl,h9,htl,hx,q⟩:=h
  refine ⟨_,pss_cons (ps_set (i:=1) scTreeText.nd rfl (Or.inl rfl) (pe_lst pa_nil))
    (pss_cons (ps_set (i:=2) scTreeText.nd rfl (Or.inl rfl) (pe_lst (pa_cons (pv 0) pa_nil)))
    (pss_cons (ps_while PassesOwn.never (pt_cmpR op_gt (pe_callB call_len_seq rfl ml PySem.boot_len (pa_cons (pv 2) pa_nil)) pe_int (nomark _))
      (pss_cons (ps_set (i:=3) scTreeText.nd rfl (Or.inl rfl) (pe_bm0 PySem.F.plainAttrs_list PySem.F.slot_list_pop PySem.F.type_list_pop mt_pop (pv 2)))
      (pss_one (ps_if (pt_val (pe_callB call_isi rfl mi bootIsi (pa_cons (pv 3) (pa_cons (pe_bltn rfl ms bootStr (v:=.ty "str") rfl) pa_nil))))
        (pss_one (ps_expr (pe_bm PySem.F.plainAttrs_list PySem.F.slot_list_append PySem.F.type_list_append mt_append (pv 1) (pa_cons (pv 3) pa_nil))))
        (pss_one (ps_for PassesOwn.never rfl (pi_rev rfl mr (pa_cons (pe_call GP hr rfl mP kP bP .nil pass0 (pa_cons (pv 3) pa_nil)) pa_nil)) (pg_name (i:=4) scTreeText.nd rfl (Or.inl rfl))
          (pss_one (ps_expr (pe_bm PySem.F.plainAttrs_list PySem.F.slot_list_append PySem.F.type_list_append mt_append (pv 2) (pa_cons (pv 4) pa_nil))))))))))
    (pss_one (ps_ret (pe_bm PySem.F.plainAttrs_str PySem.F.slot_str_join PySem.F.type_str_join mt_join pe_str (pa_cons (pv 1) pa_nil)))))),?_⟩
  refine ⟨(by show 0 ≤ sizeLine; decide),fun wl hwl => ⟨_,rfl,(by show 1 ≤ sizeLine; decide),fun l hl => ?_⟩⟩
  have hlw:l ≠ wl:=fun e => by rw [e,upd_same] at hl; cases hl
  have hl0:H l = none:=by rw [upd_ne hlw] at hl; exact hl
  refine while_rel (fun m σ H2 => ∃ (ws:List Str) (vs:List V) (is:List Tr) (h pc:Option V),σ = [some x,some (.ref wl),some (.ref l),h,pc] ∧ Same H H2 ∧ H2 wl = some (.lst (ws.map V.str)) ∧ H2 l = some (.lst vs) ∧ TrsAt K H vs is ∧
      codes ws ++ cat is.reverse = t.text ∧ ws.length + wsum is ≤ t.wt ∧ m = wsum is) (wsum [t])
    ⟨[],[x],[t],none,none,rfl,sput (same_new hwl _) hl0,by rw [upd_ne (Ne.symm hlw)]; exact upd_same,upd_same,.cons hx .nil,by show [] ++ cat [t] = _; rw [cat_one]; rfl,by rw [wsum_one]; show 0 + t.wt ≤ _; omega,rfl⟩ ?_ ?_
  · rintro m σ H2 ⟨ws,vs,is,h,pc,rfl,sH,hW,hL,hv,ht,hn,rfl⟩
    refine ⟨_,rfl,l,_,rfl,.inl (SqL.of hL),_,_,rfl,rfl,_,rfl,?_⟩
    refine ite2 (fun c => ?_) (fun c => ?_)
    · have c':(0:Int) < (vs.length:Int):=of_decide_eq_true c
      have hne:vs ≠ []:=fun e => by rw [e] at c'; exact absurd c' (by decide)
      obtain ⟨us,v,rfl⟩:∃ us v,vs = us ++ [v]:=⟨_,_,(List.dropLast_concat_getLast hne).symm⟩
      obtain ⟨ls,i,rfl,hus,hi⟩:=hv.snoc
      rw [List.reverse_concat] at ht
      have ht':codes ws ++ (i.text ++ cat ls.reverse) = t.text:=ht
      rw [wsum_app,wsum_one] at hn ⊢
      have hip:=wt_pos i
      have lw:=len_wsum ls
      have ull:=hus.length
      refine ⟨_,rfl,.inl ⟨rfl,_,SqL.of hL⟩,l,_,v,rfl,rfl,hL,snoc_get,?_⟩
      rw [List.dropLast_concat]
      have sH1:Same H (upd H2 l (.lst us)):=sput sH hl0
      have hW1:upd H2 l (.lst us) wl = some (.lst (ws.map V.str)):=by rw [upd_ne (Ne.symm hlw)]; exact hW
      cases hi with
      | w z =>
        refine ⟨_,rfl,_,_,_,_,rfl,.str z,kit_ss _,_,rfl,iteT ?_⟩
        refine ⟨_,rfl,.inl ⟨rfl,_,SqL.of hW1⟩,_,rfl,wl,_,_,rfl,rfl,hW1,?_,?_⟩
        · rw [List.length_map]
          exact mid (by omega)
        · refine ⟨wsum ls,by omega,ws ++ [z],us,ls,_,_,rfl,sput sH1 hwl,?_,?_,hus,?_,?_,rfl⟩
          · rw [upd_same,List.map_append]
            rfl
          · rw [upd_ne hlw,upd_same]
          · rw [codes_snoc,List.append_assoc]
            exact ht'
          · rw [List.length_append]
            show ws.length + 1 + wsum ls ≤ _
            omega
      | @n p xs ts hp hts =>
        have hb:=wsum_bits ts
        have hxl:xs.length ≤ 9000:=by
          have e1:=hts.length
          have e2:=len_wts ts
          have e3:(Tr.n ts).wt = 3 + wts ts:=rfl
          omega
        refine ⟨_,rfl,_,_,_,_,rfl,.tup (sH1 _ _ hp),kit_ts _,_,rfl,iteF ?_⟩
        refine ⟨_,rfl,p,xs,rfl,SqT.of (sH1 _ _ hp),by omega,fun H3 pl s3 hpl0 hpl => ?_⟩
        have hL3:H3 l = some (.lst us):=s3 _ _ upd_same
        have hW3:=s3 _ _ hW1
        have hlp:pl ≠ l:=fun e => by rw [e,upd_same] at hpl0; cases hpl0
        have hpw:pl ≠ wl:=fun e => by rw [e,hW1] at hpl0; cases hpl0
        have bl:=bitsV_len xs
        refine ⟨pl,_,rfl,SqL.of hpl,for_rev (K:=K) (a:=pl) (xs:=bitsV xs) (fun i σ H4 => ∃ pc:Option V,σ = [some x,some (.ref wl),some (.ref l),some (.ref p),pc] ∧ Same H H4 ∧ H4 wl = some (.lst (ws.map V.str)) ∧
            H4 l = some (.lst (us ++ (bitsV xs).reverse.take i)) ∧ H4 pl = some (.lst (bitsV xs)) ∧ i ≤ (bitsV xs).length)
          ⟨pc,rfl,sH1.trans s3,hW3,by rw [hL3]; show _ = some (HO.lst (us ++ [])); rw [List.append_nil],hpl,Nat.zero_le _⟩ ?_ ?_ ?_⟩
        · rintro i σ H4 _ ⟨pc,rfl,_,_,_,h4,_⟩
          exact SqL.of h4
        · rintro i u σ H4 hu ⟨pc,rfl,s4,w4,l4,p4,i7⟩
          have hi7:i < (bitsV xs).reverse.length:=(List.getElem?_eq_some_iff.mp hu).1
          rw [List.length_reverse] at hi7
          refine ⟨_,rfl,.inl ⟨rfl,_,SqL.of l4⟩,_,rfl,l,_,_,rfl,rfl,l4,?_,?_⟩
          · rw [List.length_append,List.length_take]
            exact mid (by omega)
          · refine ⟨_,rfl,sput s4 hl0,?_,?_,?_,hi7⟩
            · rw [upd_ne (Ne.symm hlw)]
              exact w4
            · rw [upd_same,List.take_add_one,hu,List.append_assoc]
              rfl
            · rw [upd_ne hlp]
              exact p4
        · rintro σ H4 ⟨pc,rfl,s4,w4,l4,p4,_⟩
          rw [List.take_of_length_le (by rw [List.length_reverse]; exact Nat.le_refl _)] at l4
          refine ⟨wsum (ls ++ (bits ts).reverse),?_,ws,us ++ (bitsV xs).reverse,ls ++ (bits ts).reverse,_,pc,rfl,s4,w4,l4,hus.append (bits_at hts).rev,?_,?_,rfl⟩
          · rw [wsum_app,wsum_rev]
            omega
          · rw [List.reverse_append,List.reverse_reverse,cat_app,cat_bits]
            exact ht'
          · rw [wsum_app,wsum_rev]
            omega
    · have c':¬ (0:Int) < (vs.length:Int):=of_decide_eq_false (Bool.eq_false_iff.mpr c)
      have hv0:vs = []:=List.length_eq_zero_iff.mp (by omega)
      subst hv0
      cases hv
      have ht':codes ws = t.text:=by
        have:codes ws ++ [] = t.text:=ht
        rw [List.append_nil] at this
        exact this
      have e0:(Str.ofString "").length = 0:=by decide +kernel
      have cl:=codes_len ws
      rw [ht'] at cl
      refine ⟨rfl,_,rfl,_,wl,ws,rfl,rfl,SqL.of hW,?_,q _ _ sH (by rw [cps_join0,ht'])⟩
      rw [← cl,e0]
      omega
  · rintro σ H2 Q1 Q2 hq ⟨v,e1,a,xs,e2,hs,i,j,e3,e4,b,e5,h⟩
    exact ⟨v,e1,a,xs,e2,hs,i,j,e3,e4,b,e5,hq _ _ h⟩
theorem scTextOf:FnScope ["trees"] ["trees"] (defScope sTextOf):=⟨rfl,rfl,rfl,by decide +kernel,rfl,by decide +kernel,by decide +kernel⟩
theorem lines_sum:∀ ts:List Tr,((ts.map Tr.text).map List.length).sum + (ts.length - 1) ≤ (lines ts).length
  | [] => Nat.le_refl _
  | [t] => by show t.text.length + 0 + 0 ≤ t.text.length; omega
  | t :: u :: r => by
    have ih:=lines_sum (u :: r)
    show t.text.length + (((u :: r).map Tr.text).map List.length).sum + (r.length + 1) ≤ (t.text ++ 10 :: lines (u :: r)).length
    rw [List.length_append,List.length_cons]
    have e:(u :: r).length - 1 = r.length:=rfl
    rw [e] at ih
    omega
set_option maxHeartbeats 0 in
theorem ok_textOf {f ft:Addr} {fd fdt:FuncData} (F:Fun K "text_of" "text_of" sTextOf f fd)
    (GT:FnOk P w K mg base CX0 2 ft fdt ["tree"] (spTreeText K)) (bT:Binds K fdt ["tree"] []) (kT:PySem.W.keepIn K (.ref ft) = true) (mT:mg "tree_text" = some (.ref ft)):FnOk P w K mg base CX0 3 f fd ["trees"] (spTextOf K):=by
  refine F.ok scTextOf (fun vs H Q E h => ?_) (fun cdv A outer s H vs Q E hr h => ?_)
  · obtain ⟨p,xs,ts,rfl,_⟩:=h
    rfl
  obtain ⟨p,xs,ts,rfl,hp,hts,hl9,h9,hl,q⟩:=h
  refine ⟨_,pss_one (ps_ret (pe_bm PySem.F.plainAttrs_str PySem.F.slot_str_join PySem.F.type_str_join mt_join pe_str (pa_cons (pe_comp (own:=["tree"]) (caps:=[]) (κ:=[]) (cl:=[]) rfl ⟨rfl,by decide +kernel,by decide +kernel,rfl,rfl,(fun y hy => nomatch hy),(fun y hy => nomatch hy)⟩ rfl (pi_list (pv 0))
    (fun _ _ _ _ => pg_name (i:=0) (show (["tree"]:List Str).Nodup from by decide +kernel) rfl (Or.inl rfl)) (fun _ _ _ _ => pe_call GT hr rfl mT kT bT .nil pass0 (pa_cons (pv 0) pa_nil))) pa_nil))),?_⟩
  have xl:=hts.length
  refine ⟨rfl,_,rfl,p,rfl,⟨_,hp⟩,?_⟩
  refine comp_by (J:=Itl K p) (xs:=xs) (fun n ys H3 => Same H H3 ∧ ∃ zs:List Str,ys = zs.map V.str ∧ zs.length = n ∧ zs.map cps = (ts.take n).map Tr.text) ⟨Same.refl _,[],rfl,rfl,rfl⟩ (Nat.le_of_lt (mid (by omega))) ?_ ?_ ?_ ?_ ?_ ?_
  · rintro n ys H3 ⟨_,zs,rfl,h,_⟩
    rw [List.length_map]
    exact Nat.le_of_eq h
  · rintro n u ys H3 hu ⟨s3,_⟩
    exact ⟨_,_,s3.seq hp,hu⟩
  · rintro n ys u H3 H' hn ⟨s3,_⟩ hy
    exact ⟨hy.1,hy.2 _ (s3.seq hp)⟩
  · rintro ys H3 ⟨s3,_⟩
    exact ⟨_,s3.seq hp,Nat.le_refl _⟩
  · rintro n u ys H3 N hN hu ⟨s3,zs,rfl,hz,hzs⟩
    obtain ⟨t,ht,hat⟩:=hts.get hu
    obtain ⟨b1,b2⟩:=h9 t (List.mem_of_getElem? ht)
    refine ⟨rfl,tYes_go ⟨_,rfl,u,t,rfl,b1,b2,hat.same s3,fun H4 z s4 ez => hN _ _ ⟨s3.trans s4,zs ++ [z],?_,?_,?_⟩⟩⟩
    · rw [List.map_append]
      rfl
    · rw [List.length_append,hz]
      rfl
    · rw [List.map_append,hzs,List.take_add_one,ht,List.map_append]
      exact congrArg (_ ++ [·]) ez
  · rintro ys H3 D ⟨s3,zs,rfl,hz,hzs⟩ hD
    rw [xl,List.take_length] at hzs
    have e1:(Str.ofString "\n").length = 1:=by decide +kernel
    have ls:=lines_sum ts
    have zl:zs.length = ts.length:=by rw [hz,xl]
    have sm:(zs.map (·.length)).sum = ((ts.map Tr.text).map List.length).sum:=by
      rw [← hzs,List.map_map]
      congr 1
    refine ⟨_,D,zs,rfl,rfl,SqL.of upd_same,?_,q _ _ (s3.trans (same_new hD _)) ?_⟩
    · rw [sm,e1]
      omega
    · rw [cps_join,hzs]
      exact glue_lines ts
end
end K18
namespace K18
open PySem L2
noncomputable def Pc (p:List Nat):Prop:=p = [40] ∨ p = [41] ∨ Tk.Word p
theorem pc_ne {p:List Nat} (h:Pc p):1 ≤ p.length:=by
  rcases h with rfl | rfl | h
  · decide
  · decide
  · cases p with
    | nil => exact absurd rfl h.1
    | cons _ _ => exact Nat.succ_le_succ (Nat.zero_le _)
theorem cut_first:∀ xs:List Nat,(∀ c ∈ xs,c ≠ 40 ∧ c ≠ 41 ∧ c ≠ 10 ∧ c ≠ 32) ∨ ∃ a c b,xs = a ++ c :: b ∧ (∀ d ∈ a,d ≠ 40 ∧ d ≠ 41 ∧ d ≠ 10 ∧ d ≠ 32) ∧ (c = 40 ∨ c = 41 ∨ c = 10 ∨ c = 32)
  | [] => .inl fun _ h => nomatch h
  | x :: r => by
    by_cases hx:x = 40 ∨ x = 41 ∨ x = 10 ∨ x = 32
    · exact .inr ⟨[],x,r,rfl,(fun _ h => nomatch h),hx⟩
    · have hx':x ≠ 40 ∧ x ≠ 41 ∧ x ≠ 10 ∧ x ≠ 32:=by omega
      rcases cut_first r with h | ⟨a,c,b,rfl,h1,h2⟩
      · refine .inl fun c hc => ?_
        rcases List.mem_cons.mp hc with rfl | hc
        · exact hx'
        · exact h c hc
      · refine .inr ⟨x :: a,c,b,rfl,fun d hd => ?_,h2⟩
        rcases List.mem_cons.mp hd with rfl | hd
        · exact hx'
        · exact h1 d hd
theorem toks_plain {a:List Nat} (h:∀ c ∈ a,c ≠ 40 ∧ c ≠ 41 ∧ c ≠ 10 ∧ c ≠ 32):Tk.toks a = if a = [] then [] else [a]:=by
  by_cases e:a = []
  · subst e; rfl
  · rw [if_neg e]
    exact Tk.toks_word ⟨e,h⟩
theorem toks_facts:∀ (n:Nat) (xs:List Nat),xs.length ≤ n → (∀ p ∈ Tk.toks xs,Pc p) ∧ ((Tk.toks xs).map List.length).sum ≤ xs.length
  | 0,xs,h => by
    obtain rfl:xs = []:=List.length_eq_zero_iff.mp (by omega)
    exact ⟨fun p hp => (nomatch hp),Nat.le_refl _⟩
  | n + 1,xs,h => by
    have plain:∀ {a:List Nat},(∀ c ∈ a,c ≠ 40 ∧ c ≠ 41 ∧ c ≠ 10 ∧ c ≠ 32) → (∀ p ∈ Tk.toks a,Pc p) ∧ ((Tk.toks a).map List.length).sum ≤ a.length:=fun {a} ha => by
      rw [toks_plain ha]
      split
      · exact ⟨fun p hp => (nomatch hp),Nat.zero_le _⟩
      · rename_i e
        refine ⟨fun p hp => ?_,by simp⟩
        rw [List.mem_singleton.mp hp]
        exact .inr (.inr ⟨e,ha⟩)
    rcases cut_first xs with ha | ⟨a,c,b,rfl,ha,hc⟩
    · exact plain ha
    · obtain ⟨p1,s1⟩:=plain ha
      rw [List.length_append,List.length_cons] at h ⊢
      obtain ⟨p2,s2⟩:=toks_facts n b (by omega)
      rcases hc with rfl | rfl | rfl | rfl
      · rw [Tk.toks_op]
        refine ⟨fun p hp => ?_,?_⟩
        · rcases List.mem_append.mp hp with hp | hp
          · exact p1 p hp
          · rcases List.mem_cons.mp hp with rfl | hp
            · exact .inl rfl
            · exact p2 p hp
        · simp only [List.map_append,List.map_cons,List.sum_append,List.sum_cons,List.length_cons,List.length_nil]
          omega
      · rw [Tk.toks_cl]
        refine ⟨fun p hp => ?_,?_⟩
        · rcases List.mem_append.mp hp with hp | hp
          · exact p1 p hp
          · rcases List.mem_cons.mp hp with rfl | hp
            · exact .inr (.inl rfl)
            · exact p2 p hp
        · simp only [List.map_append,List.map_cons,List.sum_append,List.sum_cons,List.length_cons,List.length_nil]
          omega
      · rw [Tk.toks_nl]
        refine ⟨fun p hp => ?_,?_⟩
        · rcases List.mem_append.mp hp with hp | hp
          · exact p1 p hp
          · exact p2 p hp
        · simp only [List.map_append,List.sum_append]
          omega
      · rw [Tk.toks_sp]
        refine ⟨fun p hp => ?_,?_⟩
        · rcases List.mem_append.mp hp with hp | hp
          · exact p1 p hp
          · exact p2 p hp
        · simp only [List.map_append,List.sum_append]
          omega
theorem sum_ge {ps:List (List Nat)} (h:∀ p ∈ ps,1 ≤ p.length):ps.length ≤ (ps.map List.length).sum:=by
  induction ps with
  | nil => exact Nat.le_refl _
  | cons p r ih =>
    have h1:=h p List.mem_cons_self
    have h2:=ih fun q hq => h q (List.mem_cons_of_mem _ hq)
    simp only [List.length_cons,List.map_cons,List.sum_cons]
    omega
theorem toks_len (xs:List Nat):(Tk.toks xs).length ≤ xs.length:=by
  obtain ⟨h1,h2⟩:=toks_facts _ xs (Nat.le_refl _)
  exact Nat.le_trans (sum_ge fun p hp => pc_ne (h1 p hp)) h2
noncomputable def spPcs:Sp:=fun vs H Q _ => ∃ z:Str,vs = [.str z] ∧ z.length ≤ 100000 ∧ ∀ H' (l:Addr) (ws:List Str),Same H H' → H l = none → H' l = some (.lst (ws.map V.str)) → ws.map cps = Tk.toks (cps z) → Q (.ref l) H'
theorem rep_len (c:Nat) (z:List Nat) (hz:z.length ≤ 3) (h1:1 ≤ z.length):∀ xs:List Nat,(xs.flatMap (Tk.rep c z)).length ≤ 3 * xs.length
  | [] => Nat.le_refl _
  | a :: r => by
    have ih:=rep_len c z hz h1 r
    rw [List.flatMap_cons,List.length_append,List.length_cons]
    have:(Tk.rep c z a).length ≤ 3:=by
      unfold Tk.rep
      split
      · exact hz
      · exact Nat.le_of_ble_eq_true rfl
    omega
theorem rep1_len (c:Nat) (z:List Nat) (hz:z.length = 1):∀ xs:List Nat,(xs.flatMap (Tk.rep c z)).length = xs.length
  | [] => rfl
  | a :: r => by
    have ih:=rep1_len c z hz r
    rw [List.flatMap_cons,List.length_append,List.length_cons,ih]
    have:(Tk.rep c z a).length = 1:=by
      unfold Tk.rep
      split
      · exact hz
      · rfl
    omega
noncomputable def apart (z:Str):Str:=Txt.replace (Txt.replace (Txt.replace z "(" " ( ") ")" " ) ") "\n" " "
theorem apart_cps (z:Str):cps (apart z) = (cps z).flatMap Tk.gap:=by
  show Tk.lst (Txt.replace (Txt.replace (Txt.replace z ⟨#[40]⟩ " ( ") ⟨#[41]⟩ " ) ") ⟨#[10]⟩ " ") = _
  rw [Tk.replace_lst,Tk.replace_lst,Tk.replace_lst,← Tk.gap_eq]
  rfl
theorem toks_split (z:Str):((Txt.split (apart z) " ").filter fun p => !decide (V.str p = V.str "")).map cps = Tk.toks (cps z):=by
  have h:=Tk.split_lst (apart z) 32
  have e:(Txt.split (apart z) " ").map cps = Tk.spl 32 ((cps z).flatMap Tk.gap):=by
    rw [← apart_cps]
    exact h
  unfold Tk.toks
  rw [← e]
  generalize Txt.split (apart z) " " = l
  induction l with
  | nil => rfl
  | cons p r ih =>
    rw [List.map_cons,List.filter_cons,List.filter_cons]
    have hp:(!decide (V.str p = V.str "")) = decide (cps p ≠ []):=by
      by_cases q:p = ""
      · subst q; rfl
      · have q1:¬ V.str p = V.str "":=fun z => q (V.str.inj z)
        have q2:cps p ≠ []:=fun z => q (Tk.lst_inj (z.trans (show ([]:List Nat) = Tk.lst "" from rfl)))
        rw [decide_eq_false q1,decide_eq_true q2]
        rfl
    rw [hp]
    split
    · rw [List.map_cons,ih]
    · exact ih
section
variable {P:Program} {w:World} {K:PySem.W.Frag} {mg:Str → Option Value} {base:Heap}
theorem scPcs:FnScope ["text","apart"] ["text"] (defScope sPiecesOf):=⟨rfl,rfl,rfl,by decide +kernel,rfl,by decide +kernel,by decide +kernel⟩
set_option maxHeartbeats 0 in
theorem ok_pcs {f:Addr} {fd:FuncData} (F:Fun K "pieces_of" "pieces_of" sPiecesOf f fd):FnOk P w K mg base CX0 1 f fd ["text"] spPcs:=by
  refine F.okP scPcs rfl (fun vs H Q E h => ?_) (fun cdv A outer s H vs Q E hr h => ?_)
  · obtain ⟨z,rfl,_⟩:=h
    rfl
  obtain ⟨z,rfl,hz,q⟩:=h
  refine ⟨_,psp_cons (psp_set (i:=1) scPcs.nd rfl (Or.inl rfl) (pep_replace (pep_replace (pep_replace (pep_var (i:=0) rfl rfl) (by decide +kernel) (by decide +kernel)) (by decide +kernel) (by decide +kernel)) (by decide +kernel) (by decide +kernel)))
    (pss_one (ps_ret (pe_comp_if (own:=["piece"]) (caps:=[]) (κ:=[]) (cl:=[]) rfl ⟨rfl,by decide +kernel,by decide +kernel,rfl,rfl,(fun y hy => nomatch hy),(fun y hy => nomatch hy)⟩ rfl (pi_list (pe_bm PySem.F.plainAttrs_str PySem.F.slot_str_split PySem.F.type_str_split mt_split (pv 1) (pa_cons pe_str pa_nil)))
      (fun _ _ _ _ => pg_name (i:=0) (show (["piece"]:List Str).Nodup from by decide +kernel) rfl (Or.inl rfl)) (fun _ _ _ _ => pt_cmpR op_ne (pv 0) pe_str (nomark _)) (fun _ _ _ _ => pv 0)))),?_⟩
  have l1:(cps (Txt.replace z "(" " ( ")).length ≤ 300000:=by
    show (Tk.lst (Txt.replace z ⟨#[40]⟩ " ( ")).length ≤ _
    rw [Tk.replace_lst]
    have:=rep_len 40 (Tk.lst " ( ") (by decide +kernel) (by decide +kernel) (cps z)
    rw [cps_len] at this
    exact Nat.le_trans this (by omega)
  have l2:(cps (Txt.replace (Txt.replace z "(" " ( ") ")" " ) ")).length ≤ 900000:=by
    show (Tk.lst (Txt.replace (Txt.replace z "(" " ( ") ⟨#[41]⟩ " ) ")).length ≤ _
    rw [Tk.replace_lst]
    have:=rep_len 41 (Tk.lst " ) ") (by decide +kernel) (by decide +kernel) (cps (Txt.replace z "(" " ( "))
    exact Nat.le_trans this (by omega)
  have l3:(apart z).length ≤ 900000:=by
    rw [← cps_len]
    show (Tk.lst (Txt.replace (Txt.replace (Txt.replace z "(" " ( ") ")" " ) ") ⟨#[10]⟩ " ")).length ≤ _
    rw [Tk.replace_lst,rep1_len 10 (Tk.lst " ") (by decide +kernel)]
    exact l2
  rw [cps_len] at l1 l2
  have l4:(Txt.split (apart z) " ").length ≤ 1000000:=by
    have:=PyProof.Rows.split_le (apart z) " "
    omega
  refine ⟨_,rfl,z,rfl,by omega,_,rfl,by omega,_,rfl,by omega,?_⟩
  refine ⟨_,rfl,rfl,apart z," ",rfl,rfl,by decide +kernel,by omega,l4,fun l hl => ⟨l,rfl,⟨_,SqL.of upd_same⟩,?_⟩⟩
  have sl:=same_new hl (.lst ((Txt.split (apart z) " ").map V.str))
  have hk:∀ (n:Nat) (u:V),((Txt.split (apart z) " ").map V.str)[n]? = some u → ∃ y,u = V.str y ∧ (Txt.split (apart z) " ")[n]? = some y:=fun n u e => by
    rw [List.getElem?_map] at e
    obtain ⟨y,hy,rfl⟩:=Option.map_eq_some_iff.mp e
    exact ⟨y,rfl,hy⟩
  refine comp_by (J:=Itl K l) (xs:=(Txt.split (apart z) " ").map V.str) (fun n ys H3 => H3 = upd H l (.lst ((Txt.split (apart z) " ").map V.str)) ∧ ys = (((Txt.split (apart z) " ").take n).filter fun p => !decide (V.str p = V.str "")).map V.str) ⟨rfl,rfl⟩ (Nat.le_of_lt (mid (by rw [List.length_map]; exact l4))) ?_ ?_ ?_ ?_ ?_ ?_
  · rintro n ys H3 ⟨_,rfl⟩
    rw [List.length_map]
    refine Nat.le_trans (List.length_filter_le _ _) ?_
    rw [List.length_take]
    exact Nat.min_le_left _ _
  · rintro n u ys H3 hu ⟨rfl,_⟩
    exact ⟨_,_,SqL.of upd_same,hu⟩
  · rintro n ys u H3 H' hn ⟨rfl,_⟩ hy
    exact ⟨hy.1,hy.2 _ (SqL.of upd_same)⟩
  · rintro ys H3 ⟨rfl,_⟩
    exact ⟨_,SqL.of upd_same,Nat.le_refl _⟩
  · rintro n u ys H3 N hN hu ⟨rfl,rfl⟩
    obtain ⟨y,rfl,hy⟩:=hk n u hu
    refine ⟨rfl,_,rfl,rfl,_,rfl,?_⟩
    have et:(((Txt.split (apart z) " ").take (n + 1)).filter fun p => !decide (V.str p = V.str "")).map V.str = (((Txt.split (apart z) " ").take n).filter fun p => !decide (V.str p = V.str "")).map V.str ++ (if (!decide (V.str y = V.str "")) = true then [V.str y] else []):=by
      rw [List.take_add_one,hy,List.filter_append,List.map_append]
      congr 1
      show (([y].filter fun p => !decide (V.str p = V.str "")).map V.str) = _
      rw [List.filter_cons]
      split <;> rfl
    refine ite2 (fun c => ?_) (fun c => ?_)
    · have c':(!decide (V.str y = V.str "")) = true:=c
      exact ⟨_,rfl,hN _ _ ⟨rfl,by rw [et,if_pos c']⟩⟩
    · have c':¬ (!decide (V.str y = V.str "")) = true:=c
      exact hN _ _ ⟨rfl,by rw [et,if_neg c',List.append_nil]⟩
  · rintro ys H3 D ⟨rfl,rfl⟩ hD
    rw [List.length_map,List.take_length]
    have hD0:H D = none:=Same.free sl hD
    exact q _ D _ (sl.trans (same_new hD _)) hD0 upd_same (toks_split z)
end
end K18
namespace K18
open PySem L2
noncomputable def hgt:Nat → List (List Nat) → Option Nat
  | h,[] => some h
  | h,p :: r => if p = [40] then (if h = 30 then none else hgt (h + 1) r) else if p = [41] then (if h = 0 then none else hgt (h - 1) r) else hgt h r
noncomputable def stFlat:List (Addr × List Tr) → List Tr → List (List Nat)
  | [],ts => flats ts
  | (_,us) :: st,ts => flats us ++ [40] :: stFlat st ts
theorem stFlat_snoc (a:Addr) (us vs:List Tr):∀ st:List (Addr × List Tr),stFlat (st ++ [(a,us)]) vs = stFlat st us ++ [40] :: flats vs
  | [] => rfl
  | (b,xs) :: st => by
    have ih:=stFlat_snoc a us vs st
    show flats xs ++ [40] :: stFlat (st ++ [(a,us)]) vs = (flats xs ++ [40] :: stFlat st us) ++ [40] :: flats vs
    rw [ih]
    simp
theorem stFlat_app (us vs:List Tr):∀ st:List (Addr × List Tr),stFlat st (us ++ vs) = stFlat st us ++ flats vs
  | [] => flats_app us vs
  | (b,xs) :: st => by
    have ih:=stFlat_app us vs st
    show flats xs ++ [40] :: stFlat st (us ++ vs) = (flats xs ++ [40] :: stFlat st us) ++ flats vs
    rw [ih]
    simp
noncomputable def spTrees (K:PySem.W.Frag) (CT:Addr):Sp:=fun vs H Q E => ∃ z:Str,vs = [.str z] ∧ z.length ≤ 9000 ∧ (hgt 0 (Tk.toks (cps z)) ≠ some 0 → ∀ H',Same H H' → E (.ref CT) none H') ∧
  (hgt 0 (Tk.toks (cps z)) = some 0 → ∀ H' (l:Addr) (xs:List V) (ts:List Tr),Same H H' → H l = none → H' l = some (.lst xs) → TrsAt K H' xs ts → oks ts → flats ts = Tk.toks (cps z) → Q (.ref l) H')
structure Mid (K:PySem.W.Frag) (H H3:Hp) (P O T:Addr) (ws:List Str) (st:List (Addr × List Tr)) (ts:List Tr) (ps:List (List Nat)) (i:Nat):Prop where
  same:Same H H3
  pl:H3 P = some (.lst (ws.map V.str))
  ol:H3 O = some (.lst (st.map fun p => .ref p.1))
  tl:∃ xs,H3 T = some (.lst xs) ∧ TrsAt K H3 xs ts
  sl:∀ p ∈ st,∃ ys,H3 p.1 = some (.lst ys) ∧ TrsAt K H3 ys p.2
  nd:(P :: O :: T :: st.map (·.1)).Nodup
  new:∀ a ∈ O :: T :: st.map (·.1),H a = none
  ok:oks ts
  oks:∀ p ∈ st,oks p.2
  hg:hgt st.length (ps.drop i) = hgt 0 ps
  fl:stFlat st ts = ps.take i
  l1:ts.length ≤ i
  l2:∀ p ∈ st,p.2.length ≤ i
  l3:st.length ≤ 30
theorem tup_upd {H:Hp} {l a:Addr} {ys xs:List V} {o:HO} (h:H l = some (.lst ys)) (t:H a = some (.tup xs)):upd H l o a = some (.tup xs):=by
  rw [upd_ne (fun e => by rw [e,h] at t; cases t)]
  exact t
theorem tup_new {H:Hp} {l a:Addr} {xs:List V} {o:HO} (h:H l = none) (t:H a = some (.tup xs)):upd H l o a = some (.tup xs):=by
  rw [upd_ne (ne_of_none t h)]
  exact t
section
variable {P:Program} {w:World} {K:PySem.W.Frag} {mg:Str → Option Value} {base:Heap}
theorem scTrees:FnScope ["text","outer","trees","piece","closed"] ["text"] (defScope sTrees):=⟨rfl,rfl,rfl,by decide +kernel,rfl,by decide +kernel,by decide +kernel⟩
set_option maxHeartbeats 0 in
theorem ok_trees {f fp CT:Addr} {fd fdp:FuncData} {tk:Tok} (F:Fun K "trees_of" "trees_of" sTrees f fd) (GP:FnOk P w K mg base CX0 1 fp fdp ["text"] spPcs) (bP:Binds K fdp ["text"] []) (kP:PySem.W.keepIn K (.ref fp) = true) (mP:mg "pieces_of" = some (.ref fp))
    (mD:mg "DEEPEST" = some (.int 30 tk)) (mT:mg "NoTree" = some (.ref CT)) (xT:PySem.W.excIn K CT bmVE "ValueError.__new__" = true) (ml:mg "len" = none) (mt:mg "tuple" = none):FnOk P w K mg base (CX1 P w) 2 f fd ["text"] (spTrees K CT):=by
  refine F.okX scTrees (fun vs H Q E h => ?_) (fun cdv A outer s H vs Q E hr h => ?_)
  · obtain ⟨z,rfl,_⟩:=h
    rfl
  obtain ⟨z,rfl,hz,qE,qQ⟩:=h
  have glD:∀ {X:Cx} {pos:Pos},Gl X "DEEPEST" → X.mg = mg → PE X (.Name "DEEPEST" pos) (tC (.int 30)):=fun {X pos} hg hm => pe_glob hg (by rw [hm]; exact mD) (v:=.int 30) ⟨tk,rfl⟩
  refine ⟨_,pss_cons (ps_set (i:=1) scTrees.nd rfl (Or.inl rfl) (pe_lst pa_nil))
    (pss_cons (ps_set (i:=2) scTrees.nd rfl (Or.inl rfl) (pe_lst pa_nil))
    (pss_cons (ps_for PassesOwn.leaving rfl (pi_list (pe_call GP hr rfl mP kP bP .nil pass0 (pa_cons (pv 0) pa_nil))) (pg_name (i:=3) scTrees.nd rfl (Or.inl rfl))
      (pss_one (ps_if (pt_cmpR op_eq (pv 3) pe_str (nomark _))
        (pss_cons (ps_if (pt_cmpR op_eq (pe_callB call_len_seq rfl ml PySem.boot_len (pa_cons (pv 1) pa_nil)) (glD rfl rfl) (nomark _)) (pss_one (ps_raise1 rfl mT xT (pa_cons (pe_fstr (pj_cons pe_str (pj_cons (pe_fv (glD rfl rfl)) (pj_cons pe_str pj_nil))) (by decide)) pa_nil))) pss_nil)
        (pss_cons (ps_expr (pe_bm PySem.F.plainAttrs_list PySem.F.slot_list_append PySem.F.type_list_append mt_append (pv 1) (pa_cons (pv 2) pa_nil)))
        (pss_one (ps_set (i:=2) scTrees.nd rfl (Or.inl rfl) (pe_lst pa_nil)))))
        (pss_one (ps_if (pt_cmpR op_eq (pv 3) pe_str (nomark _))
          (pss_cons (ps_if (pt_cmpR op_eq (pe_callB call_len_seq rfl ml PySem.boot_len (pa_cons (pv 1) pa_nil)) pe_int (nomark _)) (pss_one (ps_raise1 rfl mT xT (pa_cons pe_str pa_nil))) pss_nil)
          (pss_cons (ps_set (i:=4) scTrees.nd rfl (Or.inl rfl) (pe_callTy call_tuple_of rfl mt bootTuple (pa_cons (pv 2) pa_nil)))
          (pss_cons (ps_set (i:=2) scTrees.nd rfl (Or.inl rfl) (pe_bm0 PySem.F.plainAttrs_list PySem.F.slot_list_pop PySem.F.type_list_pop mt_pop (pv 1)))
          (pss_one (ps_expr (pe_bm PySem.F.plainAttrs_list PySem.F.slot_list_append PySem.F.type_list_append mt_append (pv 2) (pa_cons (pv 4) pa_nil)))))))
          (pss_one (ps_expr (pe_bm PySem.F.plainAttrs_list PySem.F.slot_list_append PySem.F.type_list_append mt_append (pv 2) (pa_cons (pv 3) pa_nil)))))))))
    (pss_cons (ps_if (pt_cmpR op_gt (pe_callB call_len_seq rfl ml PySem.boot_len (pa_cons (pv 1) pa_nil)) pe_int (nomark _)) (pss_one (ps_raise1 rfl mT xT (pa_cons pe_str pa_nil))) pss_nil)
    (pss_one (ps_ret (pv 2)))))),?_⟩
  have r1:∀ y:Str,([V.str y]:List V).length ≤ sizeLine:=fun y => by show 1 ≤ sizeLine; decide
  refine ⟨(by show 0 ≤ sizeLine; decide),fun O hO => ⟨(by show 0 ≤ sizeLine; decide),fun T0 hT0 => ?_⟩⟩
  have hTO:T0 ≠ O:=fun e => by rw [e,upd_same] at hT0; cases hT0
  have hT0':H T0 = none:=by rw [upd_ne hTO] at hT0; exact hT0
  have s0:=(same_new hO (.lst [])).trans (same_new hT0 (.lst []))
  refine ⟨_,rfl,z,rfl,by omega,fun H1 Pl ws s1 hPn hPl hws => ?_⟩
  have sH1:Same H H1:=s0.trans s1
  have hO1:H1 O = some (.lst []):=s1 _ _ (by rw [upd_ne (Ne.symm hTO)]; exact upd_same)
  have hT1:H1 T0 = some (.lst []):=s1 _ _ upd_same
  have hPO:Pl ≠ O:=fun e => by rw [e,upd_ne (Ne.symm hTO),upd_same] at hPn; cases hPn
  have hPT:Pl ≠ T0:=fun e => by rw [e,upd_same] at hPn; cases hPn
  have wl:ws.length ≤ 9000:=by
    have e1:=congrArg List.length hws
    rw [List.length_map] at e1
    have e2:=toks_len (cps z)
    rw [cps_len] at e2
    omega
  have hpc:∀ (i:Nat) (p:Str),ws[i]? = some p → (Tk.toks (cps z))[i]? = some (cps p) ∧ Pc (cps p):=fun i p hp => by
    have e:(Tk.toks (cps z))[i]? = some (cps p):=by rw [← hws,List.getElem?_map,hp]; rfl
    exact ⟨e,(toks_facts _ _ (Nat.le_refl _)).1 _ (List.mem_of_getElem? e)⟩
  refine ⟨Pl,rfl,⟨_,SqL.of hPl⟩,for_list (K:=K) (xs:=ws.map V.str) (fun i σ H3 => ∃ (T:Addr) (st:List (Addr × List Tr)) (ts:List Tr) (v3 v4:Option V),σ = [some (.str z),some (.ref O),some (.ref T),v3,v4] ∧ Mid K H H3 Pl O T ws st ts (Tk.toks (cps z)) i)
    ⟨T0,[],[],none,none,rfl,⟨sH1,hPl,hO1,⟨[],hT1,.nil⟩,(fun p hp => nomatch hp),?_,?_,True.intro,(fun p hp => nomatch hp),rfl,rfl,Nat.le_refl _,(fun p hp => nomatch hp),Nat.zero_le _⟩⟩ ?_ ?_ ?_⟩
  · simp only [List.map_nil,List.nodup_cons,List.mem_cons,List.not_mem_nil,or_false,not_or,List.nodup_nil,not_false_eq_true,and_true]
    exact ⟨⟨hPO,hPT⟩,Ne.symm hTO⟩
  · intro a ha
    simp only [List.map_nil,List.mem_cons,List.not_mem_nil,or_false] at ha
    rcases ha with rfl | rfl
    · exact hO
    · exact hT0'
  · rintro i σ H3 _ ⟨T,st,ts,v3,v4,rfl,M⟩
    exact SqL.of M.pl
  · rintro i y σ H3 hy ⟨T,st,ts,v3,v4,rfl,M⟩
    rw [List.getElem?_map] at hy
    obtain ⟨p,hp,rfl⟩:=Option.map_eq_some_iff.mp hy
    obtain ⟨hpi,hPc⟩:=hpc i p hp
    have hil:i < ws.length:=(List.getElem?_eq_some_iff.mp hp).1
    have hil2:i < (Tk.toks (cps z)).length:=(List.getElem?_eq_some_iff.mp hpi).1
    obtain ⟨xs,hT,hxs⟩:=M.tl
    have hdrop:(Tk.toks (cps z)).drop i = cps p :: (Tk.toks (cps z)).drop (i + 1):=by rw [List.drop_eq_getElem_cons hil2]; congr 1; exact Option.some.inj ((List.getElem?_eq_getElem hil2).symm.trans hpi)
    have htake:(Tk.toks (cps z)).take (i + 1) = (Tk.toks (cps z)).take i ++ [cps p]:=by rw [List.take_add_one,hpi]; rfl
    have hg:=M.hg
    rw [hdrop] at hg
    have nd:=M.nd
    simp only [List.nodup_cons,List.mem_cons,not_or] at nd
    obtain ⟨⟨nPO,nPT,nPs⟩,⟨nOT,nOs⟩,nTs,nss⟩:=nd
    have hOn:H O = none:=M.new O (.head _)
    have hTn:H T = none:=M.new T (.tail _ (.head _))
    have stl:(st.map fun p => V.ref p.1).length = st.length:=List.length_map _
    have tsl:xs.length = ts.length:=hxs.length
    have l1:=M.l1
    have l3:=M.l3
    refine ⟨_,rfl,rfl,_,rfl,ite2 (fun c1 => ?_) (fun c1 => ?_)⟩
    · have e1:p = "(":=V.str.inj (of_decide_eq_true c1)
      have ec:cps p = [40]:=by rw [e1]; rfl
      rw [ec,hgt,if_pos rfl] at hg
      refine ⟨_,rfl,O,_,rfl,.inl (SqL.of M.ol),rfl,_,rfl,ite2 (fun c2 => ?_) (fun c2 => ?_)⟩
      · have e2:((st.map fun p => V.ref p.1).length:Int) = 30:=V.int.inj (of_decide_eq_true c2)
        have e3:st.length = 30:=by rw [stl] at e2; omega
        rw [if_pos e3] at hg
        exact ⟨_,rfl,by decide +kernel,.inr ⟨30,rfl,by decide +kernel,_,rfl,by decide +kernel,_,rfl,by decide +kernel,fun zz _ => ⟨r1 zz,qE (by rw [← hg]; intro z; cases z) H3 M.same⟩⟩⟩
      · have e3:st.length ≠ 30:=fun e => c2 (decide_eq_true (by rw [stl,e]; rfl))
        rw [if_neg e3] at hg
        refine ⟨_,rfl,.inl ⟨rfl,_,SqL.of M.ol⟩,_,rfl,O,_,_,rfl,rfl,M.ol,mid (by rw [stl]; omega),?_⟩
        refine ⟨(by show 0 ≤ sizeLine; decide),fun T2 hT2 => ?_⟩
        have nT2O:T2 ≠ O:=fun e => by rw [e,upd_same] at hT2; cases hT2
        have hT2':H3 T2 = none:=by rw [upd_ne nT2O] at hT2; exact hT2
        have keep:∀ a us,H3 a = some (.tup us) → upd (upd H3 O (.lst ((st.map fun p => V.ref p.1) ++ [.ref T]))) T2 (.lst []) a = some (.tup us):=fun a us h => tup_new hT2 (tup_upd M.ol h)
        have hold:∀ {b:Addr} {u:HO},b ≠ O → H3 b = some u → upd (upd H3 O (.lst ((st.map fun p => V.ref p.1) ++ [.ref T]))) T2 (.lst []) b = some u:=fun {b u} nb h => by
          rw [upd_ne (ne_of_none h hT2'),upd_ne nb]
          exact h
        refine ⟨T2,st ++ [(T,ts)],[],_,_,rfl,⟨?_,hold nPO M.pl,?_,⟨[],upd_same,.nil⟩,fun q hq => ?_,?_,fun a ha => ?_,True.intro,fun q hq => ?_,?_,?_,Nat.zero_le _,fun q hq => ?_,?_⟩⟩
        · exact sput (sput M.same hOn) (Same.free M.same hT2')
        · rw [upd_ne (Ne.symm nT2O),upd_same,List.map_append]
          rfl
        · rcases List.mem_append.mp hq with hq | hq
          · obtain ⟨ys,h1,h2⟩:=M.sl q hq
            exact ⟨ys,hold (fun e => nOs (e ▸ List.mem_map_of_mem (f:=(·.1)) hq)) h1,h2.keep keep⟩
          · rw [List.mem_singleton.mp hq]
            exact ⟨xs,hold (Ne.symm nOT) hT,hxs.keep keep⟩
        · have nT2:∀ b,(∃ u,H3 b = some u) → T2 ≠ b:=fun b hb e => by
            obtain ⟨u,hu⟩:=hb
            rw [← e,hT2'] at hu
            cases hu
          rw [List.map_append]
          show (Pl :: O :: T2 :: (st.map (·.1) ++ [T])).Nodup
          simp only [List.nodup_cons,List.mem_cons,List.mem_append,List.not_mem_nil,or_false,not_or,List.nodup_append,List.nodup_nil,not_false_eq_true,and_true,true_and]
          refine ⟨⟨nPO,Ne.symm (nT2 Pl ⟨_,M.pl⟩),nPs,nPT⟩,⟨Ne.symm nT2O,nOs,nOT⟩,⟨fun hm => ?_,nT2 T ⟨_,hT⟩⟩,nss,fun a ha b hb => ?_⟩
          · obtain ⟨q,hq,e⟩:=List.mem_map.mp hm
            obtain ⟨ys,h1,_⟩:=M.sl q hq
            exact nT2 q.1 ⟨_,h1⟩ e.symm
          · rw [hb]
            exact fun e => nTs (e ▸ ha)
        · rw [List.map_append] at ha
          simp only [List.mem_cons,List.mem_append,List.map_cons,List.map_nil,List.not_mem_nil,or_false] at ha
          rcases ha with rfl | rfl | ha | rfl
          · exact hOn
          · exact Same.free M.same hT2'
          · exact M.new a (.tail _ (.tail _ ha))
          · exact hTn
        · rcases List.mem_append.mp hq with hq | hq
          · exact M.oks q hq
          · rw [List.mem_singleton.mp hq]
            exact M.ok
        · rw [List.length_append]
          exact hg
        · rw [stFlat_snoc,M.fl,htake,ec]
          rfl
        · rcases List.mem_append.mp hq with hq | hq
          · exact Nat.le_succ_of_le (M.l2 q hq)
          · rw [List.mem_singleton.mp hq]
            exact Nat.le_succ_of_le l1
        · rw [List.length_append]
          show st.length + 1 ≤ 30
          omega
    · have n1:cps p ≠ [40]:=fun e => c1 (decide_eq_true (congrArg V.str (Tk.lst_inj (e.trans (show ([40]:List Nat) = Tk.lst "(" from rfl)))))
      rw [hgt,if_neg n1] at hg
      refine ⟨_,rfl,rfl,_,rfl,ite2 (fun c2 => ?_) (fun c2 => ?_)⟩
      · have e1:p = ")":=V.str.inj (of_decide_eq_true c2)
        have ec:cps p = [41]:=by rw [e1]; rfl
        rw [ec,if_pos rfl] at hg
        refine ⟨_,rfl,O,_,rfl,.inl (SqL.of M.ol),rfl,_,rfl,ite2 (fun c3 => ?_) (fun c3 => ?_)⟩
        · have e2:((st.map fun p => V.ref p.1).length:Int) = 0:=V.int.inj (of_decide_eq_true c3)
          have e3:st.length = 0:=by rw [stl] at e2; omega
          rw [if_pos e3] at hg
          exact ⟨r1 _,qE (by rw [← hg]; intro z; cases z) H3 M.same⟩
        · have e3:st.length ≠ 0:=fun e => c3 (decide_eq_true (by rw [stl,e]; rfl))
          rw [if_neg e3] at hg
          have hne:st ≠ []:=fun e => e3 (by rw [e]; rfl)
          obtain ⟨st',⟨T2,us⟩,rfl⟩:∃ st' q,st = st' ++ [q]:=⟨_,_,(List.dropLast_concat_getLast hne).symm⟩
          obtain ⟨ys,hT2,hys⟩:=M.sl (T2,us) (List.mem_append_right _ (.head _))
          refine ⟨_,rfl,T,xs,rfl,.inl ⟨SqL.of hT,fun ta hta => ?_⟩⟩
          have sA:=same_new hta (.tup xs)
          have ol':upd H3 ta (.tup xs) O = some (.lst ((st'.map fun p => V.ref p.1) ++ [.ref T2])):=by
            have:=sA _ _ M.ol
            rw [List.map_append] at this
            exact this
          refine ⟨_,rfl,.inl ⟨rfl,_,SqL.of ol'⟩,O,_,.ref T2,rfl,rfl,ol',snoc_get,?_⟩
          rw [List.dropLast_concat]
          have nOT2:T2 ≠ O:=fun e => nOs (by rw [List.map_append]; exact List.mem_append_right _ (by rw [← e]; exact .head _))
          have hT2':upd (upd H3 ta (.tup xs)) O (.lst (st'.map fun p => V.ref p.1)) T2 = some (.lst ys):=by rw [upd_ne nOT2]; exact sA _ _ hT2
          have hul:ys.length ≤ 9000:=by
            have e:=M.l2 (T2,us) (List.mem_append_right _ (.head _))
            have e2:=hys.length
            have e3:us.length ≤ i:=e
            omega
          refine ⟨_,rfl,.inl ⟨rfl,_,SqL.of hT2'⟩,_,rfl,T2,_,_,rfl,rfl,hT2',mid (by omega),?_⟩
          have keep:∀ a zs,upd H3 ta (.tup xs) a = some (.tup zs) → upd (upd (upd H3 ta (.tup xs)) O (.lst (st'.map fun p => V.ref p.1))) T2 (.lst (ys ++ [.ref ta])) a = some (.tup zs):=fun a zs h => tup_upd hT2' (tup_upd ol' h)
          have keep0:∀ a zs,H3 a = some (.tup zs) → upd (upd (upd H3 ta (.tup xs)) O (.lst (st'.map fun p => V.ref p.1))) T2 (.lst (ys ++ [.ref ta])) a = some (.tup zs):=fun a zs h => keep a zs (sA _ _ h)
          have hold:∀ {b:Addr} {u:HO},b ≠ O → b ≠ T2 → H3 b = some u → upd (upd (upd H3 ta (.tup xs)) O (.lst (st'.map fun p => V.ref p.1))) T2 (.lst (ys ++ [.ref ta])) b = some u:=fun {b u} nb nb2 h => by
            rw [upd_ne nb2,upd_ne nb]
            exact sA _ _ h
          have hT2n:H T2 = none:=M.new T2 (.tail _ (.tail _ (by rw [List.map_append]; exact List.mem_append_right _ (.head _))))
          have nPT2:Pl ≠ T2:=fun e => nPs (by rw [List.map_append]; exact List.mem_append_right _ (by rw [e]; exact .head _))
          have ndS:(st'.map (·.1)).Nodup ∧ T2 ∉ st'.map (·.1):=by
            have h:=nss
            rw [List.map_append,List.nodup_append] at h
            exact ⟨h.1,fun hm => h.2.2 T2 hm T2 (.head _) rfl⟩
          refine ⟨T2,st',us ++ [.n ts],_,_,rfl,⟨?_,hold nPO nPT2 M.pl,?_,⟨ys ++ [.ref ta],upd_same,(hys.keep keep0).append (.cons (.n (keep _ _ upd_same) (hxs.keep keep0)) .nil)⟩,fun q hq => ?_,?_,fun a ha => ?_,?_,fun q hq => ?_,?_,?_,?_,fun q hq => ?_,?_⟩⟩
          · exact sput (sput (M.same.trans sA) hOn) hT2n
          · rw [upd_ne (Ne.symm nOT2),upd_same]
          · obtain ⟨zs,h1,h2⟩:=M.sl q (List.mem_append_left _ hq)
            exact ⟨zs,hold (fun e => nOs (by rw [List.map_append,← e]; exact List.mem_append_left _ (List.mem_map_of_mem (f:=(·.1)) hq))) (fun e => ndS.2 (e ▸ List.mem_map_of_mem (f:=(·.1)) hq)) h1,h2.keep keep0⟩
          · simp only [List.nodup_cons,List.mem_cons,not_or]
            refine ⟨⟨nPO,nPT2,fun hm => nPs (by rw [List.map_append]; exact List.mem_append_left _ hm)⟩,⟨Ne.symm nOT2,fun hm => nOs (by rw [List.map_append]; exact List.mem_append_left _ hm)⟩,ndS.2,ndS.1⟩
          · simp only [List.mem_cons] at ha
            rcases ha with rfl | rfl | ha
            · exact hOn
            · exact hT2n
            · exact M.new a (.tail _ (.tail _ (by rw [List.map_append]; exact List.mem_append_left _ ha)))
          · exact oks_app (M.oks (T2,us) (List.mem_append_right _ (.head _))) ⟨M.ok,True.intro⟩
          · exact M.oks q (List.mem_append_left _ hq)
          · rw [List.length_append] at hg
            exact hg
          · rw [stFlat_app,flats_one,htake,ec,← M.fl,stFlat_snoc]
            show _ ++ [40] :: (flats ts ++ [[41]]) = _
            simp
          · have e:=M.l2 (T2,us) (List.mem_append_right _ (.head _))
            have e2:us.length ≤ i:=e
            rw [List.length_append]
            show us.length + 1 ≤ i + 1
            omega
          · exact Nat.le_succ_of_le (M.l2 q (List.mem_append_left _ hq))
          · rw [List.length_append] at l3
            exact Nat.le_trans (Nat.le_add_right _ _) l3
      · have n2:cps p ≠ [41]:=fun e => c2 (decide_eq_true (congrArg V.str (Tk.lst_inj (e.trans (show ([41]:List Nat) = Tk.lst ")" from rfl)))))
        rw [if_neg n2] at hg
        have hW:Tk.Word (cps p):=hPc.elim (fun e => absurd e n1) fun h => h.elim (fun e => absurd e n2) id
        refine ⟨_,rfl,.inl ⟨rfl,_,SqL.of hT⟩,_,rfl,T,_,_,rfl,rfl,hT,mid (by omega),?_⟩
        have keep:∀ a zs,H3 a = some (.tup zs) → upd H3 T (.lst (xs ++ [.str p])) a = some (.tup zs):=fun a zs h => tup_upd hT h
        have hold:∀ {b:Addr} {u:HO},b ≠ T → H3 b = some u → upd H3 T (.lst (xs ++ [.str p])) b = some u:=fun {b u} nb h => by rw [upd_ne nb]; exact h
        refine ⟨T,st,ts ++ [.w p],_,_,rfl,⟨sput M.same hTn,hold nPT M.pl,hold nOT M.ol,⟨xs ++ [.str p],upd_same,(hxs.keep keep).append (.cons (.w p) .nil)⟩,fun q hq => ?_,M.nd,M.new,oks_app (b:=[.w p]) M.ok ⟨hW,True.intro⟩,M.oks,hg,?_,?_,fun q hq => Nat.le_succ_of_le (M.l2 q hq),l3⟩⟩
        · obtain ⟨zs,h1,h2⟩:=M.sl q hq
          exact ⟨zs,hold (fun e => nTs (e ▸ List.mem_map_of_mem (f:=(·.1)) hq)) h1,h2.keep keep⟩
        · rw [stFlat_app,flats_one,M.fl,htake]
          rfl
        · rw [List.length_append]
          exact Nat.succ_le_succ l1
  · rintro σ H3 ⟨T,st,ts,v3,v4,rfl,M⟩
    have ew:(ws.map V.str).length = (Tk.toks (cps z)).length:=by
      rw [List.length_map,← hws,List.length_map]
    have M2:=M
    rw [ew] at M2
    obtain ⟨xs,hT,hxs⟩:=M2.tl
    have hg:=M2.hg
    rw [List.drop_length] at hg
    have hg':some st.length = hgt 0 (Tk.toks (cps z)):=hg
    have stl:(st.map fun p => V.ref p.1).length = st.length:=List.length_map _
    refine ⟨_,rfl,O,_,rfl,.inl (SqL.of M2.ol),_,_,rfl,rfl,_,rfl,ite2 (fun c => ?_) (fun c => ?_)⟩
    · have c':(0:Int) < ((st.map fun p => V.ref p.1).length:Int):=of_decide_eq_true c
      rw [stl] at c'
      exact ⟨r1 _,qE (by rw [← hg']; intro z; have:=Option.some.inj z; omega) H3 M2.same⟩
    · have c':¬ (0:Int) < ((st.map fun p => V.ref p.1).length:Int):=of_decide_eq_false (Bool.eq_false_iff.mpr c)
      rw [stl] at c'
      have e0:st = []:=List.length_eq_zero_iff.mp (by omega)
      subst e0
      refine ⟨_,rfl,qQ hg'.symm H3 T xs ts M2.same (M2.new T (.tail _ (.head _))) hT hxs M2.ok ?_⟩
      have:=M2.fl
      rw [List.take_length] at this
      exact this
end
end K18
namespace K18
open PySem L2
mutual
noncomputable def Tr.dep:Tr → Nat
  | .w _ => 0
  | .n ts => 1 + deps ts
noncomputable def deps:List Tr → Nat
  | [] => 0
  | t :: ts => max t.dep (deps ts)
end
theorem word_ne {s:Str} (hw:Tk.Word (cps s)):cps s ≠ [40] ∧ cps s ≠ [41] :=
  ⟨fun z => (hw.2 40 (by rw [z]; exact .head _)).1 rfl,fun z => (hw.2 41 (by rw [z]; exact .head _)).2.1 rfl⟩
mutual
theorem hgt_tree:∀ {t:Tr},t.ok → ∀ {h:Nat} {r:List (List Nat)} {k:Nat},h ≤ 30 → hgt h (t.flat ++ r) = some k → h + t.dep ≤ 30 ∧ hgt h r = some k
  | .w s,hw,h,r,k,hl,e => by
    refine ⟨hl,?_⟩
    obtain ⟨n1,n2⟩:=word_ne (s:=s) hw
    have e':hgt h (cps s :: r) = some k:=e
    rw [hgt,if_neg n1,if_neg n2] at e'
    exact e'
  | .n ts,ho,h,r,k,hl,e => by
    have e':hgt h ([40] :: ((flats ts ++ [[41]]) ++ r)) = some k:=e
    rw [hgt,if_pos rfl] at e'
    split at e'
    · cases e'
    · rw [List.append_assoc] at e'
      obtain ⟨h1,h2⟩:=hgt_trees (ts:=ts) ho (by omega) e'
      have h3:hgt (h + 1) ([41] :: r) = some k:=h2
      rw [hgt,if_neg (by decide),if_pos rfl,if_neg (by omega)] at h3
      refine ⟨?_,h3⟩
      show h + (1 + deps ts) ≤ 30
      omega
theorem hgt_trees:∀ {ts:List Tr},oks ts → ∀ {h:Nat} {r:List (List Nat)} {k:Nat},h ≤ 30 → hgt h (flats ts ++ r) = some k → h + deps ts ≤ 30 ∧ hgt h r = some k
  | [],_,h,r,k,hl,e => ⟨hl,e⟩
  | t :: ts,⟨h1,h2⟩,h,r,k,hl,e => by
    have e':hgt h ((t.flat ++ flats ts) ++ r) = some k:=e
    rw [List.append_assoc] at e'
    obtain ⟨a1,a2⟩:=hgt_tree h1 hl e'
    obtain ⟨b1,b2⟩:=hgt_trees h2 hl a2
    refine ⟨?_,b2⟩
    show h + max t.dep (deps ts) ≤ 30
    omega
end
theorem deps_le {ts:List Tr} (h:oks ts) (e:hgt 0 (flats ts) = some 0):deps ts ≤ 30:=by
  have:=(hgt_trees (h:=0) (r:=[]) (k:=0) h (by decide) (by rw [List.append_nil]; exact e)).1
  omega
theorem dep_mem:∀ {ts:List Tr} {t:Tr},t ∈ ts → t.dep ≤ deps ts
  | u :: r,t,h => by
    show _ ≤ max u.dep (deps r)
    rcases List.mem_cons.mp h with rfl | z
    · omega
    · have:=dep_mem z
      omega
noncomputable def Shut (a:List Nat):Prop:=∀ b,Tk.toks (a ++ b) = Tk.toks a ++ Tk.toks b
theorem shut_nil:Shut []:=fun b => rfl
theorem shut_end {a:List Nat} {c:Nat} (h:c = 40 ∨ c = 41 ∨ c = 10 ∨ c = 32):Shut (a ++ [c]):=fun b => by
  rw [List.append_assoc]
  show Tk.toks (a ++ c :: b) = Tk.toks (a ++ c :: []) ++ Tk.toks b
  rcases h with rfl | rfl | rfl | rfl
  · rw [Tk.toks_op,Tk.toks_op,List.append_assoc]
    rfl
  · rw [Tk.toks_cl,Tk.toks_cl,List.append_assoc]
    rfl
  · rw [Tk.toks_nl,Tk.toks_nl,List.append_assoc]
    rfl
  · rw [Tk.toks_sp,Tk.toks_sp,List.append_assoc]
    rfl
noncomputable def Blank (g:List Nat):Prop:=∀ c ∈ g,c = 10 ∨ c = 32
theorem blank_end {a:List Nat}:∀ {g:List Nat},Blank g → Tk.toks (a ++ g) = Tk.toks a ∧ (g ≠ [] → Shut (a ++ g)):=by
  intro g
  induction g generalizing a with
  | nil =>
    intro _
    rw [List.append_nil]
    exact ⟨rfl,fun h => absurd rfl h⟩
  | cons c r ih =>
    intro h
    have hc:=h c List.mem_cons_self
    have sc:Shut (a ++ [c]):=shut_end (by omega)
    have e1:Tk.toks (a ++ [c]) = Tk.toks a:=by
      rcases hc with rfl | rfl
      · rw [Tk.toks_nl]
        exact List.append_nil _
      · rw [Tk.toks_sp]
        exact List.append_nil _
    obtain ⟨i1,i2⟩:=ih (a:=a ++ [c]) fun d hd => h d (List.mem_cons_of_mem _ hd)
    have ea:(a ++ [c]) ++ r = a ++ c :: r:=by rw [List.append_assoc]; rfl
    rw [ea] at i1 i2
    refine ⟨by rw [i1,e1],fun _ => ?_⟩
    by_cases hr:r = []
    · subst hr
      exact sc
    · exact i2 hr
theorem toks_next {a p:List Nat} (hp:Pc p) (h:Tk.Word p → Shut a):Tk.toks (a ++ p) = Tk.toks a ++ [p]:=by
  rcases hp with rfl | rfl | hw
  · rw [Tk.toks_op]
    rfl
  · rw [Tk.toks_cl]
    rfl
  · rw [h hw,Tk.toks_word hw]
end K18
namespace K18
open PySem L2
theorem at_ex {α:Type} {xs:List α} {i:Int} (h0:0 ≤ i) (h1:i < xs.length):∃ v,atI xs i = some v:=by
  have hk:i.toNat < xs.length:=by omega
  have e:i = ((i.toNat:Nat):Int):=by omega
  have q:atI xs ((i.toNat:Nat):Int) = some xs[i.toNat]:=atI_nat (by simp)
  rw [← e] at q
  exact ⟨_,q⟩
theorem at_int {ns:List Int} {i:Int} (h0:0 ≤ i) (h1:i < ns.length):∃ v:Int,atI (ns.map V.int) i = some (.int v):=by
  have hk:i.toNat < ns.length:=by omega
  have e:i = ((i.toNat:Nat):Int):=by omega
  have q:atI (ns.map V.int) ((i.toNat:Nat):Int) = some (.int ns[i.toNat]):=atI_nat (by simp [hk])
  rw [← e] at q
  exact ⟨_,q⟩
theorem mem_at {α:Type} {xs:List α} {i:Int} {g:α} (hm:atI xs i = some g):g ∈ xs:=by
  obtain ⟨j,_,h⟩:=Option.bind_eq_some_iff.mp (show ((ixN xs.length i).bind fun j => xs[j]?) = some g from hm)
  exact List.mem_of_getElem? h
noncomputable def spCell (K:PySem.W.Frag):Sp:=fun vs H Q _ => ∃ (a:Addr) (ns:List Int) (k:Int),vs = [.ref a,.int k] ∧ SqL K H a (ns.map V.int) ∧ ns.length ≤ 63 ∧ 0 ≤ k ∧ k ≤ 1000 ∧ ∀ c:Int,Q (.int c) H
noncomputable def TokL (s:Str):Prop:=s.length ≤ 25 ∧ Pc (cps s) ∧ ∀ c ∈ cps s,c < 0x110000
theorem hgt_app:∀ (a b:List (List Nat)) (h:Nat),hgt h (a ++ b) = (hgt h a).bind fun k => hgt k b
  | [],b,h => rfl
  | c :: a,b,h => by
    show hgt h (c :: (a ++ b)) = _
    rw [hgt,hgt]
    split
    · split
      · rfl
      · exact hgt_app a b _
    · split
      · split
        · rfl
        · exact hgt_app a b _
      · exact hgt_app a b h
theorem tok_op:TokL "(":=⟨by decide +kernel,.inl rfl,by decide +kernel⟩
theorem tok_cl:TokL ")":=⟨by decide +kernel,.inr (.inl rfl),by decide +kernel⟩
theorem len_app (a b:Str):(a ++ b).length = a.length + b.length:=by
  show (a.cps ++ b.cps).size = _
  rw [Array.size_append] <;> rfl
theorem cps_app (a b:Str):cps (a ++ b) = cps a ++ cps b:=Tk.lst_app a b
section
variable {P:Program} {w:World} {K:PySem.W.Frag} {mg:Str → Option Value} {base:Heap}
theorem scCell:FnScope ["_law_script","_law_k","_law_number_here"] ["_law_script","_law_k"] (defScope sCell):=⟨rfl,rfl,rfl,by decide +kernel,rfl,by decide +kernel,by decide +kernel⟩
theorem ok_cell {f:Addr} {fd:FuncData} (F:Fun K "_law_cell" "_law_cell" sCell f fd) (ml:mg "len" = none):FnOk P w K mg base CX0 1 f fd ["_law_script","_law_k"] (spCell K):=by
  refine F.ok scCell (fun vs H Q E h => ?_) (fun cdv A outer s H vs Q E hr h => ?_)
  · obtain ⟨a,ns,k,rfl,_⟩:=h
    rfl
  obtain ⟨a,ns,k,rfl,hS,h63,h0,h1,q⟩:=h
  refine ⟨_,pss_cons (ps_if (pt_cmpR op_lt (pv 1) (pe_callB call_len_seq rfl ml PySem.boot_len (pa_cons (pv 0) pa_nil)) (nomark _))
      (pss_one (ps_ret (pe_op op_add (pe_op op_mul (pe_ix ix_list (pv 0) (pv 1) (fun _ _ => rfl)) pe_int) (pe_op op_mul pe_int (pv 1))))) pss_nil)
    (pss_cons (ps_set (i:=2) scCell.nd rfl (Or.inl rfl) (pe_op op_add (pe_op op_mul pe_int (pv 1)) pe_int))
    (pss_cons (ps_if (pt_cmpR op_gt (pe_callB call_len_seq rfl ml PySem.boot_len (pa_cons (pv 0) pa_nil)) pe_int (nomark _))
      (pss_one (ps_set (i:=2) scCell.nd rfl (Or.inl rfl) (pe_op op_add (pe_op op_mul (pe_op op_mod (pe_ix ix_list (pv 0) (pe_op op_mod (pv 1) (pe_callB call_len_seq rfl ml PySem.boot_len (pa_cons (pv 0) pa_nil))) (fun _ _ => rfl)) pe_int) pe_int)
        (pe_op op_mul (pe_op op_mul pe_int (pv 1)) (pv 1))))) pss_nil)
    (pss_one (ps_ret (pe_op op_mod (pv 2) pe_int))))),?_⟩
  have hl:(ns.map V.int).length = ns.length:=List.length_map _
  refine ⟨_,rfl,_,rfl,a,_,rfl,.inl hS,_,_,rfl,rfl,_,rfl,?_⟩
  refine ite2 (fun c => ?_) (fun c => ?_)
  · have c':k < (((ns.map V.int).length:Nat):Int):=of_decide_eq_true c
    rw [hl] at c'
    obtain ⟨v,hv⟩:=at_int (ns:=ns) h0 c'
    exact ⟨_,rfl,_,rfl,a,_,_,_,rfl,rfl,hS,hv,_,_,rfl,rfl,.inr ⟨by omega,by omega⟩,_,rfl,_,_,rfl,rfl,.inl ⟨by omega,by omega⟩,_,_,rfl,rfl,q _⟩
  · refine ⟨_,rfl,_,_,rfl,rfl,.inl ⟨by omega,by omega⟩,_,_,rfl,rfl,?_⟩
    refine ⟨_,rfl,a,_,rfl,.inl hS,_,_,rfl,rfl,_,rfl,?_⟩
    refine ite2 (fun d => ?_) (fun d => ?_)
    · have d':0 < (((ns.map V.int).length:Nat):Int):=of_decide_eq_true d
      rw [hl] at d'
      obtain ⟨v,hv⟩:=at_int (ns:=ns) (i:=k % (((ns.map V.int).length:Nat):Int)) (by rw [hl]; exact Int.emod_nonneg _ (by omega)) (by rw [hl]; exact Int.emod_lt_of_pos _ d')
      refine ⟨_,rfl,_,rfl,_,rfl,a,_,rfl,.inl hS,_,_,rfl,rfl,(by rw [hl]; exact d'),a,_,_,_,rfl,rfl,hS,hv,_,_,rfl,rfl,(by show (0:Int) < 1000003; decide),_,_,rfl,rfl,.inr ⟨by omega,by omega⟩,?_⟩
      refine ⟨_,rfl,_,_,rfl,rfl,.inl ⟨by omega,by omega⟩,_,rfl,_,_,rfl,rfl,.inr ⟨by omega,by omega⟩,_,_,rfl,rfl,?_⟩
      exact ⟨_,rfl,_,_,rfl,rfl,(by show (0:Int) < 2147483647; decide),q _⟩
    · exact ⟨_,rfl,_,_,rfl,rfl,(by show (0:Int) < 2147483647; decide),q _⟩
end
theorem not_in_word {s:Str} (h:Tk.Word (cps s)):(!(Builtin.Str.occurrences (Str.ofString "()") s 0 (Str.ofString "()").length 1).isEmpty) = false:=by
  rw [Bool.eq_false_iff]
  intro z
  obtain ⟨i,_,hs⟩:=(StrLaws.found_iff _ _).mp z
  rw [StrLaws.subAt_eq,beq_iff_eq] at hs
  cases hc:cps s with
  | nil => exact h.1 hc
  | cons c r =>
    have m0:c ∈ s.cps.toList:=by
      show c ∈ cps s
      rw [hc]
      exact .head _
    rw [← hs] at m0
    have m:=List.mem_of_mem_drop (List.mem_of_mem_take m0)
    have w:=h.2 c (by rw [hc]; exact .head _)
    have k:∀ c ∈ (Str.ofString "()").cps.toList,c = 40 ∨ c = 41:=by decide +kernel
    have:=k c m
    omega
noncomputable def spLoose (K:PySem.W.Frag):Sp:=fun vs H Q _ => ∃ (p:Addr) (ws:List Str) (c:Int),vs = [.ref p,.int c] ∧ SqL K H p (ws.map V.str) ∧ ws.length ≤ 200 ∧ (∀ s ∈ ws,TokL s) ∧ ∀ H' (z:Str),Same H H' → Tk.toks (cps z) = ws.map cps → z.length ≤ 6000 → Q (.str z) H'
theorem gap4 {i:Int} {v:V} (h:atI [V.str "",V.str " ",V.str "\n",V.str "  "] i = some v):∃ g:Str,v = .str g ∧ Blank (cps g) ∧ g.length ≤ 2:=by
  have m:=mem_at h
  simp only [List.mem_cons,List.mem_nil_iff,or_false] at m
  rcases m with rfl | rfl | rfl | rfl
  · exact ⟨_,rfl,(by unfold Blank; decide +kernel),by decide +kernel⟩
  · exact ⟨_,rfl,(by unfold Blank; decide +kernel),by decide +kernel⟩
  · exact ⟨_,rfl,(by unfold Blank; decide +kernel),by decide +kernel⟩
  · exact ⟨_,rfl,(by unfold Blank; decide +kernel),by decide +kernel⟩
theorem head3 {i:Int} {v:V} (h:atI [V.str "",V.str " ",V.str "\n "] i = some v):∃ g:Str,v = .str g ∧ Blank (cps g) ∧ g.length ≤ 2:=by
  have m:=mem_at h
  simp only [List.mem_cons,List.mem_nil_iff,or_false] at m
  rcases m with rfl | rfl | rfl
  · exact ⟨_,rfl,(by unfold Blank; decide +kernel),by decide +kernel⟩
  · exact ⟨_,rfl,(by unfold Blank; decide +kernel),by decide +kernel⟩
  · exact ⟨_,rfl,(by unfold Blank; decide +kernel),by decide +kernel⟩
theorem end3 {i:Int} {v:V} (h:atI [V.str "",V.str "\n",V.str " "] i = some v):∃ g:Str,v = .str g ∧ Blank (cps g) ∧ g.length ≤ 2:=by
  have m:=mem_at h
  simp only [List.mem_cons,List.mem_nil_iff,or_false] at m
  rcases m with rfl | rfl | rfl
  · exact ⟨_,rfl,(by unfold Blank; decide +kernel),by decide +kernel⟩
  · exact ⟨_,rfl,(by unfold Blank; decide +kernel),by decide +kernel⟩
  · exact ⟨_,rfl,(by unfold Blank; decide +kernel),by decide +kernel⟩
section
variable {P:Program} {w:World} {K:PySem.W.Frag} {mg:Str → Option Value} {base:Heap}
theorem scLoose:FnScope ["_law_tokens_here","_law_cell_here","_law_text","_law_k","_law_gap"] ["_law_tokens_here","_law_cell_here"] (defScope sLoose):=⟨rfl,rfl,rfl,by decide +kernel,rfl,by decide +kernel,by decide +kernel⟩
set_option maxHeartbeats 0 in
theorem ok_loose {f:Addr} {fd:FuncData} (F:Fun K "_law_loose" "_law_loose" sLoose f fd) (ml:mg "len" = none) (mr:mg "range" = none):FnOk P w K mg base CX0 1 f fd ["_law_tokens_here","_law_cell_here"] (spLoose K):=by
  refine F.ok scLoose (fun vs H Q E h => ?_) (fun cdv A outer s H vs Q E hr h => ?_)
  · obtain ⟨p,ws,c,rfl,_⟩:=h
    rfl
  obtain ⟨p,ws,c,rfl,hp,hl,htk,q⟩:=h
  refine ⟨_,pss_cons (ps_set (i:=2) scLoose.nd rfl (Or.inl rfl) (pe_ix ix_list (pe_lst (pa_cons pe_str (pa_cons pe_str (pa_cons pe_str pa_nil)))) (pe_op op_mod (pv 1) pe_int) (fun _ _ => rfl)))
    (pss_cons (ps_for PassesOwn.never rfl (pi_range1 rfl mr (pa_cons (pe_callB call_len_seq rfl ml PySem.boot_len (pa_cons (pv 0) pa_nil)) pa_nil)) (pg_name (i:=3) scLoose.nd rfl (Or.inl rfl))
      (pss_cons (ps_set (i:=4) scLoose.nd rfl (Or.inl rfl) (pe_ix ix_list (pe_lst (pa_cons pe_str (pa_cons pe_str (pa_cons pe_str (pa_cons pe_str pa_nil))))) (pe_op op_mod (pe_op op_add (pe_op op_fdiv (pv 1) pe_int) (pe_op op_mul (pv 3) (pe_op op_add pe_int (pe_op op_mod (pe_op op_fdiv (pv 1) pe_int) pe_int)))) pe_int) (fun _ _ => rfl)))
      (pss_cons (ps_if (PW.pt (pw_and (pt_cmpR op_eq (pv 4) pe_str (nomark _)) (pw_and (pt_cmpR op_gt (pv 3) pe_int (nomark _)) (pw_and (pt_cmpR op_notIn_str (pe_ix ix_list (pv 0) (pe_op op_sub (pv 3) pe_int) (fun _ _ => rfl)) pe_str (by with_unfolding_all rfl)) (pw_and1 (pt_cmpR op_notIn_str (pe_ix ix_list (pv 0) (pv 3) (fun _ _ => rfl)) pe_str (by with_unfolding_all rfl)))))))
        (pss_one (ps_set (i:=4) scLoose.nd rfl (Or.inl rfl) pe_str)) pss_nil)
      (pss_one (ps_set (i:=2) scLoose.nd rfl (Or.inl rfl) (pe_op op_add_str (pe_op op_add_str (pv 2) (pv 4)) (pe_ix ix_list (pv 0) (pv 3) (fun _ _ => rfl))))))))
    (pss_one (ps_ret (pe_op op_add_str (pv 2) (pe_ix ix_list (pe_lst (pa_cons pe_str (pa_cons pe_str (pa_cons pe_str pa_nil)))) (pe_op op_mod (pe_op op_fdiv (pv 1) pe_int) pe_int) (fun _ _ => rfl)))))),?_⟩
  have wl:(ws.map V.str).length = ws.length:=List.length_map _
  refine ⟨(by show 3 ≤ sizeLine; decide),fun l1 hl1 => ?_⟩
  have s1:=same_new hl1 (.lst [V.str "",V.str " ",V.str "\n "])
  obtain ⟨v0,e0⟩:=at_ex (xs:=[V.str "",V.str " ",V.str "\n "]) (i:=c % 3) (Int.emod_nonneg _ (by decide)) (Int.lt_of_lt_of_le (Int.emod_lt_of_pos _ (by decide)) (by decide))
  obtain ⟨g0,rfl,b0,n0⟩:=head3 e0
  refine ⟨_,rfl,_,_,rfl,rfl,(by show (0:Int) < 3; decide),l1,_,_,_,rfl,rfl,SqL.of upd_same,e0,?_⟩
  refine ⟨_,rfl,p,_,rfl,.inl (s1.seq hp),_,rfl,by omega,by omega,for_range (lo:=0) (n:=(((ws.map V.str).length:Nat):Int).toNat) (fun i σ H3 => ∃ (z:Str) (v3 v4:Option V),σ = [some (.ref p),some (.int c),some (.str z),v3,v4] ∧ Same H H3 ∧ Tk.toks (cps z) = (ws.take i).map cps ∧ z.length ≤ 2 + 27 * i ∧ ((∀ j p0,i = j + 1 → ws[j]? = some p0 → ¬ Tk.Word (cps p0)) → Shut (cps z)))
    ⟨g0,none,none,rfl,s1,?_,n0,fun _ => ?_⟩ ?_ ?_⟩
  · have:=(blank_end (a:=[]) b0).1
    exact this
  · by_cases h:cps g0 = []
    · rw [h]
      exact shut_nil
    · exact (blank_end (a:=[]) b0).2 h
  · rintro i σ H3 hi ⟨z,v3,v4,rfl,s3,ht,hzl,hsh⟩
    rw [Int.toNat_natCast,wl] at hi
    obtain ⟨p',hp'⟩:∃ p',ws[i]? = some p':=⟨_,List.getElem?_eq_getElem hi⟩
    obtain ⟨tl,tpc,_⟩:=htk p' (List.mem_of_getElem? hp')
    have hat:atI (ws.map V.str) (0 + (i:Int)) = some (.str p'):=by
      rw [Int.zero_add]
      exact atI_nat (by rw [List.getElem?_map,hp']; rfl)
    refine ⟨(by show 4 ≤ sizeLine; decide),fun l2 hl2 => ?_⟩
    have s2:=same_new hl2 (.lst [V.str "",V.str " ",V.str "\n",V.str "  "])
    have hsq2:=(s3.trans s2).seq hp
    obtain ⟨vg,eg⟩:=at_ex (xs:=[V.str "",V.str " ",V.str "\n",V.str "  "]) (i:=(c / 3 + (0 + (i:Int)) * (1 + c / 7 % 11)) % 4) (Int.emod_nonneg _ (by decide)) (Int.lt_of_lt_of_le (Int.emod_lt_of_pos _ (by decide)) (by decide))
    obtain ⟨g,rfl,bg,ng⟩:=gap4 eg
    refine ⟨_,rfl,_,_,rfl,rfl,⟨by decide,by decide⟩,_,rfl,_,rfl,_,_,rfl,rfl,⟨by decide,by decide⟩,_,_,rfl,rfl,(by show (0:Int) < 11; decide),_,_,rfl,rfl,_,_,rfl,rfl,.inl ⟨by omega,by omega⟩,_,_,rfl,rfl,?_⟩
    refine ⟨_,_,rfl,rfl,(by show (0:Int) < 4; decide),l2,_,_,_,rfl,rfl,SqL.of upd_same,eg,?_⟩
    have fin:∀ (g':Str),Blank (cps g') → g'.length ≤ 2 → (Tk.Word (cps p') → Shut (cps z ++ cps g')) → (z.length + g'.length ≤ sizeLine ∧ (z ++ g').length + p'.length ≤ sizeLine) ∧ ∃ (z2:Str) (v3 v4:Option V),([some (.ref p),some (.int c),some (.str ((z ++ g') ++ p')),some (.int (0 + (i:Int))),some (.str g')]:St) = [some (.ref p),some (.int c),some (.str z2),v3,v4] ∧ Same H (upd H3 l2 (.lst [V.str "",V.str " ",V.str "\n",V.str "  "])) ∧ Tk.toks (cps z2) = (ws.take (i + 1)).map cps ∧ z2.length ≤ 2 + 27 * (i + 1) ∧ ((∀ j p0,i + 1 = j + 1 → ws[j]? = some p0 → ¬ Tk.Word (cps p0)) → Shut (cps z2)):=fun g' bg' ng' sh => by
      have ec:cps ((z ++ g') ++ p') = (cps z ++ cps g') ++ cps p':=by rw [cps_app,cps_app]
      refine ⟨⟨Nat.le_of_lt (mid (by omega)),Nat.le_of_lt (mid (by rw [len_app]; omega))⟩,(z ++ g') ++ p',_,_,rfl,s3.trans s2,?_,?_,fun hn => ?_⟩
      · rw [ec,toks_next tpc sh,(blank_end bg').1,ht,List.take_add_one,hp',List.map_append]
        rfl
      · rw [len_app,len_app]
        omega
      · rw [ec]
        rcases tpc with e | e | hw
        · rw [e]
          exact shut_end (.inl rfl)
        · rw [e]
          exact shut_end (.inr (.inl rfl))
        · exact absurd hw (hn i p' rfl hp')
    refine ⟨_,rfl,rfl,_,rfl,ite2 (fun c1 => ?_) (fun c1 => iteF ?_)⟩
    · have eg0:g = "":=V.str.inj (of_decide_eq_true c1)
      have ec0:cps z ++ cps g = cps z:=by rw [eg0]; exact List.append_nil _
      refine ⟨_,rfl,_,_,rfl,rfl,_,rfl,ite2 (fun c2 => ?_) (fun c2 => iteF ?_)⟩
      · have c2':(0:Int) + (i:Int) > 0:=of_decide_eq_true c2
        obtain ⟨j,rfl⟩:∃ j,i = j + 1:=⟨i - 1,by omega⟩
        obtain ⟨p0,hp0⟩:∃ p0,ws[j]? = some p0:=⟨_,List.getElem?_eq_getElem (by omega)⟩
        have hat0:atI (ws.map V.str) ((0 + ((j + 1:Nat):Int)) - 1) = some (.str p0):=by
          rw [show (0 + ((j + 1:Nat):Int)) - 1 = (j:Int) by omega]
          exact atI_nat (by rw [List.getElem?_map,hp0]; rfl)
        refine ⟨_,rfl,_,rfl,_,_,rfl,rfl,p,_,_,_,rfl,rfl,hsq2,hat0,p0,_,rfl,rfl,_,rfl,ite2 (fun c3 => ?_) (fun c3 => iteF ?_)⟩
        · refine ⟨_,rfl,_,rfl,p,_,_,_,rfl,rfl,hsq2,hat,p',_,rfl,rfl,_,rfl,ite2 (fun c4 => ?_) (fun c4 => ?_)⟩
          · obtain ⟨FL,fi⟩:=fin " " (by unfold Blank; decide +kernel) (by decide +kernel) fun _ => shut_end (a:=cps z) (c:=32) (.inr (.inr (.inr rfl)))
            exact ⟨_,rfl,_,rfl,z," ",rfl,rfl,FL.1,_,rfl,_,rfl,p,_,_,_,rfl,rfl,hsq2,hat,_,p',rfl,rfl,FL.2,fi⟩
          · have nw:¬ Tk.Word (cps p'):=fun hw => c4 (by
              show (!(!(Builtin.Str.occurrences (Str.ofString "()") p' 0 (Str.ofString "()").length 1).isEmpty)) = true
              rw [not_in_word hw]
              rfl)
            obtain ⟨FL,fi⟩:=fin g bg ng fun hw => absurd hw nw
            exact ⟨_,rfl,_,rfl,z,g,rfl,rfl,FL.1,_,rfl,_,rfl,p,_,_,_,rfl,rfl,hsq2,hat,_,p',rfl,rfl,FL.2,fi⟩
        · have nw:¬ Tk.Word (cps p0):=fun hw => c3 (by
            show (!(!(Builtin.Str.occurrences (Str.ofString "()") p0 0 (Str.ofString "()").length 1).isEmpty)) = true
            rw [not_in_word hw]
            rfl)
          obtain ⟨FL,fi⟩:=fin g bg ng fun _ => by
            rw [ec0]
            refine hsh fun j' q' ej hq => ?_
            obtain rfl:j = j':=Nat.succ.inj ej
            rw [hp0] at hq
            exact Option.some.inj hq ▸ nw
          exact ⟨_,rfl,_,rfl,z,g,rfl,rfl,FL.1,_,rfl,_,rfl,p,_,_,_,rfl,rfl,hsq2,hat,_,p',rfl,rfl,FL.2,fi⟩
      · have i0:i = 0:=by
          have:¬ ((0:Int) + (i:Int) > 0):=of_decide_eq_false (Bool.eq_false_iff.mpr c2)
          omega
        obtain ⟨FL,fi⟩:=fin g bg ng fun _ => by
          rw [ec0]
          refine hsh fun j' q' ej _ => ?_
          omega
        exact ⟨_,rfl,_,rfl,z,g,rfl,rfl,FL.1,_,rfl,_,rfl,p,_,_,_,rfl,rfl,hsq2,hat,_,p',rfl,rfl,FL.2,fi⟩
    · have gne:cps g ≠ []:=fun e => c1 (decide_eq_true (congrArg V.str (Tk.lst_inj (e.trans (show ([]:List Nat) = Tk.lst "" from rfl)))))
      obtain ⟨FL,fi⟩:=fin g bg ng fun _ => (blank_end bg).2 gne
      exact ⟨_,rfl,_,rfl,z,g,rfl,rfl,FL.1,_,rfl,_,rfl,p,_,_,_,rfl,rfl,hsq2,hat,_,p',rfl,rfl,FL.2,fi⟩
  · rintro σ H3 ⟨z,v3,v4,rfl,s3,ht,hzl,hsh⟩
    rw [Int.toNat_natCast,wl] at ht hzl
    refine ⟨_,rfl,(by show 3 ≤ sizeLine; decide),fun l2 hl2 => ?_⟩
    have s2:=same_new hl2 (.lst [V.str "",V.str "\n",V.str " "])
    obtain ⟨vg,eg⟩:=at_ex (xs:=[V.str "",V.str "\n",V.str " "]) (i:=c / 5 % 3) (Int.emod_nonneg _ (by decide)) (Int.lt_of_lt_of_le (Int.emod_lt_of_pos _ (by decide)) (by decide))
    obtain ⟨g,rfl,bg,ng⟩:=end3 eg
    refine ⟨_,rfl,_,_,rfl,rfl,⟨by decide,by decide⟩,_,_,rfl,rfl,(by show (0:Int) < 3; decide),l2,_,_,_,rfl,rfl,SqL.of upd_same,eg,z,g,rfl,rfl,Nat.le_of_lt (mid (by omega)),?_⟩
    refine q _ (z ++ g) (s3.trans s2) ?_ ?_
    · rw [cps_app,(blank_end bg).1,ht,List.take_length]
    · rw [len_app]
      omega
end
noncomputable def End (r:List (List Nat)):Prop:=r = [] ∨ ∃ r1,r = [41] :: r1
mutual
theorem tree_inj:∀ {t u:Tr},t.ok → u.ok → ∀ {x y:List (List Nat)},t.flat ++ x = u.flat ++ y → t = u ∧ x = y
  | .w s,.w s',_,_,x,y,e => by
    have e':cps s :: x = cps s' :: y:=e
    have h:=List.cons.inj e'
    exact ⟨by rw [Tk.lst_inj h.1],h.2⟩
  | .w s,.n us,hs,_,x,y,e => by
    have e':cps s :: x = [40] :: ((flats us ++ [[41]]) ++ y):=e
    exact absurd (List.cons.inj e').1 (word_ne (s:=s) hs).1
  | .n ts,.w s,_,hs,x,y,e => by
    have e':[40] :: ((flats ts ++ [[41]]) ++ x) = cps s :: y:=e
    exact absurd (List.cons.inj e').1.symm (word_ne (s:=s) hs).1
  | .n ts,.n us,ht,hu,x,y,e => by
    have e':[40] :: ((flats ts ++ [[41]]) ++ x) = [40] :: ((flats us ++ [[41]]) ++ y):=e
    have h:=(List.cons.inj e').2
    rw [List.append_assoc,List.append_assoc] at h
    obtain ⟨h1,h2⟩:=flats_inj (a:=ts) (b:=us) ht hu (.inr ⟨x,rfl⟩) (.inr ⟨y,rfl⟩) h
    rw [h1]
    exact ⟨rfl,(List.cons.inj h2).2⟩
theorem flats_inj:∀ {a b:List Tr},oks a → oks b → ∀ {r r':List (List Nat)},End r → End r' → flats a ++ r = flats b ++ r' → a = b ∧ r = r'
  | [],[],_,_,r,r',_,_,e => ⟨rfl,e⟩
  | [],u :: b,_,hb,r,r',hr,_,e => by
    have e':r = (u.flat ++ flats b) ++ r':=e
    cases u with
    | w s =>
      have e2:r = cps s :: (flats b ++ r'):=e'
      rcases hr with rfl | ⟨r1,rfl⟩
      · cases e2
      · exact absurd (List.cons.inj e2).1.symm (word_ne (s:=s) hb.1).2
    | n us =>
      have e2:r = [40] :: (((flats us ++ [[41]]) ++ flats b) ++ r'):=e'
      rcases hr with rfl | ⟨r1,rfl⟩
      · cases e2
      · exact absurd (List.cons.inj e2).1 (by decide)
  | t :: a,[],ha,_,r,r',_,hr,e => by
    have e':(t.flat ++ flats a) ++ r = r':=e
    cases t with
    | w s =>
      have e2:cps s :: (flats a ++ r) = r':=e'
      rcases hr with rfl | ⟨r1,rfl⟩
      · cases e2
      · exact absurd (List.cons.inj e2).1 (word_ne (s:=s) ha.1).2
    | n us =>
      have e2:[40] :: (((flats us ++ [[41]]) ++ flats a) ++ r) = r':=e'
      rcases hr with rfl | ⟨r1,rfl⟩
      · cases e2
      · exact absurd (List.cons.inj e2).1 (by decide)
  | t :: a,u :: b,⟨h1,h2⟩,⟨h3,h4⟩,r,r',hr,hr',e => by
    have e':(t.flat ++ flats a) ++ r = (u.flat ++ flats b) ++ r':=e
    rw [List.append_assoc,List.append_assoc] at e'
    obtain ⟨e1,e2⟩:=tree_inj h1 h3 e'
    obtain ⟨e3,e4⟩:=flats_inj h2 h4 hr hr' e2
    rw [e1,e3]
    exact ⟨rfl,e4⟩
end
theorem one_reading {a b:List Tr} (ha:oks a) (hb:oks b) (e:flats a = flats b):a = b :=
  (flats_inj (r:=[]) (r':=[]) ha hb (.inl rfl) (.inl rfl) (by rw [e])).1
theorem flat_len:∀ {ts:List Tr} {t:Tr},t ∈ ts → t.flat.length ≤ (flats ts).length
  | u :: r,t,h => by
    show _ ≤ (u.flat ++ flats r).length
    rw [List.length_append]
    rcases List.mem_cons.mp h with rfl | z
    · omega
    · have:=flat_len z
      omega
theorem flat_pos:∀ t:Tr,1 ≤ t.flat.length
  | .w s => Nat.le_refl _
  | .n ts => by
    show 1 ≤ ([40] :: _).length
    simp
theorem len_flats:∀ ts:List Tr,ts.length ≤ (flats ts).length
  | [] => Nat.le_refl _
  | t :: r => by
    have h1:=len_flats r
    have h2:=flat_pos t
    show r.length + 1 ≤ (t.flat ++ flats r).length
    rw [List.length_append]
    omega
theorem kit_tt (K:PySem.W.Frag):PySem.W.kitOne K (.type "tuple") (.type "tuple") = some true:=rfl
theorem two_of {α:Type} {a b:α} {p:α → Prop} (ha:p a) (hb:p b):∀ y ∈ [a,b],p y:=fun y hy => by
  rcases List.mem_cons.mp hy with rfl | hy
  · exact ha
  · rw [List.mem_singleton.mp hy]
    exact hb
theorem str_iff {s:Str} {c:Nat}:s = ⟨#[c]⟩ ↔ cps s = [c] :=
  ⟨fun h => by rw [h],fun h => Tk.lst_inj (h.trans (show ([c]:List Nat) = Tk.lst ⟨#[c]⟩ from rfl))⟩
end K18
namespace K18
open PySem L2
noncomputable def abc:Str:="abcdefghijklmnopqrstuvwxyz"
noncomputable def takenS:List Str:=["num","pair","lit","as","if","let","two","first","second"]
noncomputable def takenV:List V:=takenS.map V.str
noncomputable def inL (c:Nat):Bool:=!(Builtin.Str.occurrences abc ⟨#[c]⟩ 0 abc.length 1).isEmpty
noncomputable def allL (w:Str):Bool:=(w.cps.toList.map inL).all id
noncomputable def fits (w:Str):Bool:=decide (1 ≤ w.length) && decide (w.length ≤ 12) && !inV (.str w) takenV
noncomputable def nameOk (w:Str):Bool:=fits w && allL w
theorem len_list (w:Str):w.cps.toList.length = w.length:=by simp [Str.length]
theorem flat_taken:takenV.all flatV = true:=by decide +kernel
noncomputable def spName:Sp:=fun vs H Q _ => ∃ w,vs = [.str w] ∧ w.length ≤ 1000 ∧ ∀ H',Same H H' → Q (.bl (nameOk w)) H'
noncomputable def figT:Str:="0123456789"
noncomputable def zero:Str:="0"
noncomputable def inF (c:Nat):Bool:=!(Builtin.Str.occurrences figT ⟨#[c]⟩ 0 figT.length 1).isEmpty
noncomputable def allF (w:Str):Bool:=(w.cps.toList.map inF).all id
noncomputable def first0 (c:Nat):Bool:=decide (V.str ⟨#[c]⟩ = V.str zero)
noncomputable def numOk (w:Str):Bool:=decide (1 ≤ w.length) && decide (w.length ≤ 19) && allF w && (decide (w.length = 1) || !(w.cps.toList.head?.any first0))
theorem head_at {w:Str} {c:Nat} (h:atI w.cps.toList 0 = some c):w.cps.toList.head? = some c:=by
  have h':atI w.cps.toList ((0:Nat):Int) = some c:=h
  cases e:w.cps.toList with
  | nil => rw [e] at h'; cases h'
  | cons x r =>
    rw [e] at h'
    have q:atI (x :: r) ((0:Nat):Int) = some x:=atI_nat (by simp)
    rw [q] at h'
    rw [← h']
    rfl
theorem one_text {w:Str} {c:Nat} (h:w.cps.toList.head? = some c) (h1:w.length = 1):w = ⟨#[c]⟩:=by
  obtain ⟨⟨l⟩⟩:=w
  have hl:l.length = 1:=h1
  match l,hl with
  | [x],_ =>
    have q:some x = some c:=h
    cases q
    rfl
theorem same_test {w:Str} {c:Nat} (h:w.cps.toList.head? = some c):(first0 c && !decide (V.str w = V.str zero)) = !(decide (w.length = 1) || !(w.cps.toList.head?.any first0)):=by
  rw [h]
  show (first0 c && _) = !(decide (w.length = 1) || !(first0 c))
  cases e:first0 c with
  | false => simp
  | true =>
    have e':(⟨#[c]⟩:Str) = zero:=V.str.inj (of_decide_eq_true e)
    have q:(V.str w = V.str zero) ↔ w.length = 1:=by
      constructor
      · intro z
        have z':w = zero:=V.str.inj z
        rw [z',← e']
        rfl
      · intro z
        rw [one_text h z,e']
    by_cases hw:w.length = 1
    · simp [hw,q.mpr hw]
    · have q2:¬ V.str w = V.str zero:=fun z => hw (q.mp z)
      rw [decide_eq_false q2,decide_eq_false hw] <;> rfl
noncomputable def spNum:Sp:=fun vs H Q _ => ∃ w,vs = [.str w] ∧ w.length ≤ 1000 ∧ ∀ H',Same H H' → Q (.bl (numOk w)) H'
theorem num_short {w:Str} (h:¬ (1 ≤ w.length ∧ w.length ≤ 19)):numOk w = false:=by
  unfold numOk
  by_cases h1:1 ≤ w.length
  · have h2:¬ w.length ≤ 19:=fun z => h ⟨h1,z⟩
    simp [h2]
  · simp [h1]
theorem num_bad {w:Str} (h:allF w = false):numOk w = false:=by
  unfold numOk
  simp [h]
theorem num_ok {w:Str} (h1:1 ≤ w.length) (h2:w.length ≤ 19) (h:allF w = true):numOk w = (decide (w.length = 1) || !(w.cps.toList.head?.any first0)):=by
  unfold numOk
  rw [decide_eq_true h1,decide_eq_true h2,h] <;> rfl
section
variable {P:Program} {w:World} {K:PySem.W.Frag} {mg:Str → Option Value} {base:Heap}
theorem scName:FnScope ["word","fits"] ["word"] (defScope sName):=⟨rfl,rfl,rfl,by decide +kernel,rfl,by decide +kernel,by decide +kernel⟩
theorem ok_name {f pT:Addr} {fd:FuncData} {tL tN:Tok} (F:Fun K "is_name" "is_name" sName f fd) (ml:mg "len" = none) (mall:mg "all" = none) (mL:mg "LETTERS" = some (.str "abcdefghijklmnopqrstuvwxyz" tL)) (mN:mg "LONGEST_NAME" = some (.int 12 tN)) (mT:mg "NO_NAMES" = some (.ref pT)) (hT:∀ H,SqT K H pT takenV) :
    FnOk P w K mg base CX0 1 f fd ["word"] spName:=by
  refine F.ok scName (fun vs H Q E h => ?_) (fun cdv A outer s H vs Q E hr h => ?_)
  · obtain ⟨z,rfl,_⟩:=h
    rfl
  obtain ⟨z,rfl,hz,q⟩:=h
  have hzz:=small hz
  obtain ⟨u1,d1,k1⟩:∃ t,PSs (cxOf CX0 P w K mg base ["word","fits"] "is_name" (defScope sName) f cdv A outer s H E).nox (List.drop 1 (defBody sName)) t ∧ ∀ b:Bool,fits z = b → t { nx:=fun _ H' => Q .non H',rt:=Q } [some (.str z),some (.bl b)] H:=by
    refine ⟨_,pss_one (ps_ret (pe_and (pv 1) (pe_one (pe_callB (call_allB rfl) rfl mall bootAll (pa_cons (pe_comp (own:=["sign"]) (caps:=[]) (κ:=[]) (cl:=[]) rfl ⟨rfl,by decide +kernel,by decide +kernel,rfl,rfl,(fun y hy => nomatch hy),(fun y hy => nomatch hy)⟩ rfl (pi_str (pv 0))
      (fun _ _ _ _ => pg_name (i:=0) (show (["sign"]:List Str).Nodup from by decide +kernel) rfl (Or.inl rfl)) (fun _ _ _ _ => pe_cmpR op_in_str (pv 0) (pe_glob rfl mL (v:=.str "abcdefghijklmnopqrstuvwxyz") ⟨tL,rfl⟩) (by with_unfolding_all rfl))) pa_nil))))),fun b hb => ?_⟩
    refine ⟨_,rfl,b,rfl,?_⟩
    cases b with
    | false =>
      refine iteF ?_
      have q':=q H (Same.refl _)
      rw [show nameOk z = false from by unfold nameOk; rw [hb] <;> rfl] at q'
      exact q'
    | true =>
      refine iteT ⟨_,rfl,z,rfl,?_⟩
      refine comp_by (J:=Its z) (xs:=signsV z) (fun i ys H2 => i ≤ z.length ∧ ys = ((z.cps.toList.take i).map inL).map V.bl ∧ H2 = H) ⟨Nat.zero_le _,rfl,rfl⟩ (by rw [signsV_len]; exact hzz) ?_ ?_ ?_ ?_ ?_ ?_
      · rintro i ys H3 ⟨hi,rfl,_⟩
        rw [List.length_map,List.length_map,List.length_take]
        omega
      · rintro i x ys H3 hx _
        exact its_go i x hx
      · rintro i ys x H3 H' hi _ hy
        exact its_yld i x H' hy
      · rintro ys H3 _
        exact its_stop
      · rintro i x ys H3 N hN hx ⟨hi,rfl,rfl⟩
        obtain ⟨c,hc,rfl⟩:=signsV_get.mp hx
        have hc':z.cps.toList[i]? = some c:=by simpa using hc
        have hlt:i < z.length:=by
          have:=(List.getElem?_eq_some_iff.mp hx).1
          rw [signsV_len] at this
          exact this
        refine ⟨rfl,tYes_go ⟨_,rfl,_,_,rfl,rfl,hN _ _ ⟨hlt,?_,rfl⟩⟩⟩
        rw [List.take_add_one,hc',List.map_append,List.map_append]
        rfl
      · rintro ys H3 D ⟨hi,rfl,rfl⟩ hD
        refine ⟨D,z.cps.toList.map inL,rfl,SqL.of ?_,?_⟩
        · rw [upd_same,signsV_len,List.take_of_length_le (by rw [len_list]; exact Nat.le_refl _)]
        · have q':=q _ (same_new hD (.lst (((z.cps.toList.take (signsV z).length).map inL).map V.bl)))
          rw [show nameOk z = (z.cps.toList.map inL).all id from by unfold nameOk; rw [hb] <;> rfl] at q'
          exact q'
  refine ⟨_,pss_cons (ps_set (i:=1) scName.nd rfl (Or.inl rfl) (pe_and (pe_chain op_le op_le pe_int (pe_callB call_len_str rfl ml PySem.boot_len (pa_cons (pv 0) pa_nil)) (pe_glob rfl mN (v:=.int 12) ⟨tN,rfl⟩)) (pe_one (pe_cmpR op_notIn_seq (pv 0) (pe_glob rfl mT (v:=.ref pT) rfl) (by with_unfolding_all rfl))))) d1,?_⟩
  refine ⟨_,rfl,z,rfl,hzz,_,_,rfl,rfl,_,rfl,?_⟩
  refine ite2 (fun c => ?_) (fun c => ?_)
  · have c1:(1:Int) ≤ (z.length:Int):=of_decide_eq_true c
    refine ⟨_,_,rfl,rfl,_,rfl,?_⟩
    refine ite2 (fun d => ?_) (fun d => ?_)
    · have d1:(z.length:Int) ≤ 12:=of_decide_eq_true d
      refine ⟨_,rfl,pT,takenV,rfl,.inr (hT H),rfl,flat_taken,k1 _ ?_⟩
      unfold fits
      rw [decide_eq_true (by omega),decide_eq_true (by omega)] <;> rfl
    · have d1:¬ (z.length:Int) ≤ 12:=of_decide_eq_false (Bool.eq_false_iff.mpr d)
      refine k1 _ ?_
      unfold fits
      rw [decide_eq_false (p:=z.length ≤ 12) (by omega),Bool.and_false] <;> rfl
  · have c1:¬ (1:Int) ≤ (z.length:Int):=of_decide_eq_false (Bool.eq_false_iff.mpr c)
    refine ⟨_,rfl,iteF (k1 _ ?_)⟩
    unfold fits
    rw [decide_eq_false (p:=1 ≤ z.length) (by omega)] <;> rfl
theorem scNum:FnScope ["word"] ["word"] (defScope sNum):=⟨rfl,rfl,rfl,by decide +kernel,rfl,by decide +kernel,by decide +kernel⟩
theorem ok_num {f:Addr} {fd:FuncData} {tF tN:Tok} (F:Fun K "is_number" "is_number" sNum f fd) (ml:mg "len" = none) (mall:mg "all" = none) (mF:mg "FIGURES" = some (.str "0123456789" tF)) (mN:mg "LONGEST_NUMBER" = some (.int 19 tN)) :
    FnOk P w K mg base CX0 1 f fd ["word"] spNum:=by
  refine F.ok scNum (fun vs H Q E h => ?_) (fun cdv A outer s H vs Q E hr h => ?_)
  · obtain ⟨z,rfl,_⟩:=h
    rfl
  obtain ⟨z,rfl,hz,q⟩:=h
  have hzz:=small hz
  refine ⟨_,pss_cons (ps_if (pt_not (pt_chain op_le op_le pe_int (pe_callB call_len_str rfl ml PySem.boot_len (pa_cons (pv 0) pa_nil)) (pe_glob rfl mN (v:=.int 19) ⟨tN,rfl⟩))) (pss_one (ps_ret pe_bl)) pss_nil)
    (pss_cons (ps_if (PW.pt (pw_and (pt_cmpR op_eq (pe_ix ix_str (pv 0) pe_int (fun _ _ => rfl)) pe_str (nomark _)) (pw_and1 (pt_cmpR op_ne (pv 0) pe_str (nomark _))))) (pss_one (ps_ret pe_bl)) pss_nil)
    (pss_one (ps_ret (pe_callB (call_allB rfl) rfl mall bootAll (pa_cons (pe_comp (own:=["sign"]) (caps:=[]) (κ:=[]) (cl:=[]) rfl ⟨rfl,by decide +kernel,by decide +kernel,rfl,rfl,(fun y hy => nomatch hy),(fun y hy => nomatch hy)⟩ rfl (pi_str (pv 0))
      (fun _ _ _ _ => pg_name (i:=0) (show (["sign"]:List Str).Nodup from by decide +kernel) rfl (Or.inl rfl)) (fun _ _ _ _ => pe_cmpR op_in_str (pv 0) (pe_glob rfl mF (v:=.str "0123456789") ⟨tF,rfl⟩) (by with_unfolding_all rfl))) pa_nil))))),?_⟩
  have bad:∀ {b:Bool} {H':Hp},Same H H' → numOk z = b → Q (.bl b) H':=fun hs e => e ▸ q _ hs
  have done:∀ {H':Hp} {c0:Nat},Same H H' → 1 ≤ z.length → z.length ≤ 19 → z.cps.toList.head? = some c0 → (first0 c0 && !decide (V.str z = V.str zero)) = false → Q (.bl ((z.cps.toList.map inF).all id)) H':=fun {H' c0} hs h1 h2 h0 hk => by
    refine bad hs ?_
    cases e:allF z with
    | false => rw [num_bad e]; exact e.symm
    | true =>
      rw [num_ok h1 h2 e,show (z.cps.toList.map inF).all id = true from e]
      rw [same_test h0] at hk
      cases hh:(decide (z.length = 1) || !(z.cps.toList.head?.any first0)) with
      | true => rfl
      | false =>
        rw [hh] at hk
        cases hk
  refine ⟨_,rfl,z,rfl,hzz,_,_,rfl,rfl,_,rfl,?_⟩
  refine ite2 (fun c => ?_) (fun c => ?_)
  · have c1:(1:Int) ≤ (z.length:Int):=of_decide_eq_true c
    refine ⟨_,_,rfl,rfl,_,rfl,?_⟩
    refine ite2 (fun d => ?_) (fun d => ?_)
    · have d1:¬ (z.length:Int) ≤ 19:=fun y => by
        rw [decide_eq_true y] at d
        cases d
      exact bad (Same.refl _) (num_short (by omega))
    have d1:(z.length:Int) ≤ 19:=by
      refine Int.not_lt.mp fun y => d ?_
      rw [decide_eq_false (by omega)]
      rfl
    obtain ⟨c0,hc0⟩:=at_ex (xs:=z.cps.toList) (i:=0) (by omega) (by rw [len_list]; omega)
    have h0:=head_at hc0
    refine ⟨_,rfl,z,_,c0,rfl,rfl,hzz,hc0,rfl,_,rfl,?_⟩
    have hret:(first0 c0 && !decide (V.str z = V.str zero)) = false → CompRun 1 [] (gName 0) tYes (tOp (fun x y H Q => ∃ i j,x = .str i ∧ y = .str j ∧ Q (.bl (!(Builtin.Str.occurrences j i 0 j.length 1).isEmpty)) H) (tVar 0) (tC (.str figT))) [some (.str z)] (Its z) H
        (fun x H2 => ∃ (p:Addr) (bs:List Bool),[x] = [V.ref p] ∧ SqL K H2 p (bs.map V.bl) ∧ Q (.bl (bs.all id)) H2):=by
      intro hk
      refine comp_by (J:=Its z) (xs:=signsV z) (fun i ys H2 => i ≤ z.length ∧ ys = ((z.cps.toList.take i).map inF).map V.bl ∧ H2 = H) ⟨Nat.zero_le _,rfl,rfl⟩ (by rw [signsV_len]; exact hzz) ?_ ?_ ?_ ?_ ?_ ?_
      · rintro i ys H3 ⟨hi,rfl,_⟩
        rw [List.length_map,List.length_map,List.length_take]
        omega
      · rintro i x ys H3 hx _
        exact its_go i x hx
      · rintro i ys x H3 H' hi _ hy
        exact its_yld i x H' hy
      · rintro ys H3 _
        exact its_stop
      · rintro i x ys H3 N hN hx ⟨hi,rfl,rfl⟩
        obtain ⟨c,hc,rfl⟩:=signsV_get.mp hx
        have hc':z.cps.toList[i]? = some c:=by simpa using hc
        have hlt:i < z.length:=by
          have:=(List.getElem?_eq_some_iff.mp hx).1
          rw [signsV_len] at this
          exact this
        refine ⟨rfl,tYes_go ⟨_,rfl,_,_,rfl,rfl,hN _ _ ⟨hlt,?_,rfl⟩⟩⟩
        rw [List.take_add_one,hc',List.map_append,List.map_append]
        rfl
      · rintro ys H3 D ⟨hi,rfl,rfl⟩ hD
        refine ⟨D,z.cps.toList.map inF,rfl,SqL.of ?_,done (same_new hD _) (by omega) (by omega) h0 hk⟩
        rw [upd_same,signsV_len,List.take_of_length_le (by rw [len_list]; exact Nat.le_refl _)]
    refine ite2 (fun e => ?_) (fun e => ?_)
    · refine ⟨_,rfl,rfl,_,rfl,?_⟩
      refine ite2 (fun g => ?_) (fun g => ?_)
      · have hk:(first0 c0 && !decide (V.str z = V.str zero)) = true:=by
          rw [show first0 c0 = true from e]
          exact g
        rw [same_test h0] at hk
        refine bad (Same.refl _) ?_
        cases e2:allF z with
        | false => exact num_bad e2
        | true =>
          rw [num_ok (by omega) (by omega) e2]
          cases hh:(decide (z.length = 1) || !(z.cps.toList.head?.any first0)) with
          | false => rfl
          | true =>
            rw [hh] at hk
            cases hk
      · have hk:(first0 c0 && !decide (V.str z = V.str zero)) = false:=by
          rw [show first0 c0 = true from e]
          exact Bool.eq_false_iff.mpr g
        exact ⟨_,rfl,z,rfl,hret hk⟩
    · have hk:(first0 c0 && !decide (V.str z = V.str zero)) = false:=by
        rw [show first0 c0 = false from Bool.eq_false_iff.mpr e]
        rfl
      exact iteF ⟨_,rfl,z,rfl,hret hk⟩
  · have c1:¬ (1:Int) ≤ (z.length:Int):=of_decide_eq_false (Bool.eq_false_iff.mpr c)
    exact ⟨_,rfl,iteT (bad (Same.refl _) (num_short (by omega)))⟩
end
end K18
namespace K18
open PySem L2
noncomputable abbrev numS (n:Nat):Str:=Str.ofString (toString (n:Int))
noncomputable def nearW (q t:Str):Str:=if q = "" then t else (q ++ ".") ++ t
theorem abc_all:∀ c ∈ abc.cps.toList,97 ≤ c ∧ c ≤ 122:=by decide +kernel
theorem name_facts {s:Str} (h:nameOk s = true):1 ≤ s.length ∧ s.length ≤ 12 ∧ ∀ c ∈ cps s,97 ≤ c ∧ c ≤ 122:=by
  unfold nameOk fits at h
  rw [Bool.and_eq_true,Bool.and_eq_true,Bool.and_eq_true] at h
  obtain ⟨⟨⟨h1,h2⟩,_⟩,h3⟩:=h
  refine ⟨of_decide_eq_true h1,of_decide_eq_true h2,fun c hc => ?_⟩
  unfold allL at h3
  rw [List.all_eq_true] at h3
  have h4:inL c = true:=h3 (inL c) (List.mem_map_of_mem hc)
  unfold inL at h4
  rw [StrLaws.found_one] at h4
  exact abc_all c (of_decide_eq_true h4)
theorem near_cps {q t:Str} (h:q ≠ ""):cps (nearW q t) = cps q ++ 46 :: cps t:=by
  unfold nearW
  rw [if_neg h,cps_app,cps_app]
  show (cps q ++ [46]) ++ cps t = _
  rw [List.append_assoc]
  rfl
theorem name_ne {s:Str} (h:nameOk s = true):s ≠ "":=fun e => by
  have:=(name_facts h).1
  rw [e] at this
  exact absurd this (by decide +kernel)
theorem near_word {q t:Str} (ht:nameOk t = true) (hq:q = "" ∨ nameOk q = true):Tk.Word (cps (nearW q t)) ∧ (nearW q t).length ≤ 25 ∧ ∀ c ∈ cps (nearW q t),c < 0x110000:=by
  obtain ⟨t1,t2,t3⟩:=name_facts ht
  by_cases h:q = ""
  · have e:nearW q t = t:=if_pos h
    rw [e]
    refine ⟨⟨fun z => ?_,fun c hc => ?_⟩,by omega,fun c hc => ?_⟩
    · have:=cps_len t
      rw [z] at this
      have h0:([]:List Nat).length = 0:=rfl
      omega
    · have:=t3 c hc
      omega
    · have:=t3 c hc
      omega
  · obtain ⟨q1,q2,q3⟩:=name_facts (hq.resolve_left h)
    have e:=near_cps (t:=t) h
    have all:∀ c ∈ cps (nearW q t),46 ≤ c ∧ c ≤ 122:=fun c hc => by
      rw [e] at hc
      rcases List.mem_append.mp hc with z | z
      · have:=q3 c z
        omega
      · rcases List.mem_cons.mp z with rfl | z
        · omega
        · have:=t3 c z
          omega
    refine ⟨⟨fun z => ?_,fun c hc => ?_⟩,?_,fun c hc => ?_⟩
    · rw [e] at z
      exact absurd z (by simp)
    · have:=all c hc
      omega
    · have:=congrArg List.length e
      rw [cps_len,List.length_append,List.length_cons,cps_len,cps_len] at this
      omega
    · have:=all c hc
      omega
theorem num_tx {n:Nat} (h:n ≤ 1000000000000000000):NumTx (cps (numS n)) ∧ numOf (cps (numS n)) = n ∧ (numS n).length ≤ 19:=by
  have e:cps (numS n) = figs n:=figs_of n
  refine ⟨?_,?_,?_⟩
  · rw [e]
    exact figs_num (Nat.lt_of_le_of_lt h (by decide))
  · rw [e,numOf_figs]
  · exact PyProof.Rows.toString_length_le (by omega) (k:=19) (by decide) (by omega)
theorem figT_all {c:Nat} (h:48 ≤ c ∧ c ≤ 57):inF c = true:=by
  unfold inF
  rw [StrLaws.found_one]
  have:c = 48 ∨ c = 49 ∨ c = 50 ∨ c = 51 ∨ c = 52 ∨ c = 53 ∨ c = 54 ∨ c = 55 ∨ c = 56 ∨ c = 57:=by omega
  rcases this with rfl | rfl | rfl | rfl | rfl | rfl | rfl | rfl | rfl | rfl <;> decide +kernel
theorem num_is {n:Nat} (h1:1 ≤ n) (h:n ≤ 1000000000000000000):numOk (numS n) = true:=by
  obtain ⟨a,_,l⟩:=num_tx h
  obtain ⟨ha,_⟩:=a.all
  obtain ⟨c0,r,e,h0,hr⟩:=figs_head n h1
  have ec:cps (numS n) = c0 :: r:=(figs_of n).trans e
  have l1:1 ≤ (numS n).length:=by
    rw [← cps_len,ec,List.length_cons]
    omega
  have al:allF (numS n) = true:=by
    unfold allF
    rw [List.all_eq_true]
    intro x hx
    obtain ⟨c,hc,rfl⟩:=List.mem_map.mp hx
    exact figT_all (ha c hc)
  rw [num_ok l1 l al]
  have eh:(numS n).cps.toList.head? = some c0:=by
    show (cps (numS n)).head? = _
    rw [ec]
    rfl
  rw [eh]
  have f0:first0 c0 = false:=by
    unfold first0
    refine decide_eq_false fun z => ?_
    have z':(⟨#[c0]⟩:Str) = zero:=V.str.inj z
    have z2:=congrArg cps z'
    have z3:[c0] = [48]:=z2
    have:=(List.cons.inj z3).1
    omega
  show (decide _ || !(first0 c0)) = true
  rw [f0]
  simp
theorem num_word {n:Nat} (h:n ≤ 1000000000000000000):Tk.Word (cps (numS n)) ∧ ∀ c ∈ cps (numS n),c < 0x110000:=by
  obtain ⟨a,_,l⟩:=num_tx h
  obtain ⟨ha,_⟩:=a.all
  refine ⟨⟨fun z => ?_,fun c hc => ?_⟩,fun c hc => ?_⟩
  · rcases a with e | ⟨_,_,e,_⟩ <;> rw [z] at e <;> cases e
  · have:=ha c hc
    omega
  · have:=ha c hc
    omega
noncomputable def TokC (p:List Nat):Prop:=p.length ≤ 25 ∧ Pc p ∧ ∀ c ∈ p,c < 0x110000
theorem tokc_word {p:List Nat} (h:Tk.Word p) (l:p.length ≤ 25) (c:∀ c ∈ p,c < 0x110000):TokC p:=⟨l,.inr (.inr h),c⟩
theorem tokc_op:TokC [40]:=⟨by decide,.inl rfl,by decide⟩
theorem tokc_cl:TokC [41]:=⟨by decide,.inr (.inl rfl),by decide⟩
theorem kit_st (K:PySem.W.Frag):PySem.W.kitOne K (.type "str") (.type "tuple") = some false:=rfl
theorem far_split {q t:Str} (hq:nameOk q = true) (ht:nameOk t = true):Txt.split (nearW q t) "." = [q,t]:=by
  have e:(Txt.split (nearW q t) ⟨#[46]⟩).map Tk.lst = [cps q,cps t]:=by
    rw [Tk.split_lst]
    show Tk.spl 46 (cps (nearW q t)) = _
    rw [near_cps (name_ne hq),Tk.spl_app,Tk.spl_free (fun h => by have:=(name_facts hq).2.2 46 h; omega),Tk.spl_free (fun h => by have:=(name_facts ht).2.2 46 h; omega)]
    rfl
  have e2:∀ ws:List Str,ws.map Tk.lst = [cps q,cps t] → ws = [q,t]:=fun ws h => by
    match ws,h with
    | [],h => cases h
    | [a],h => simp at h
    | a :: b :: c :: r,h => simp at h
    | [a,b],h =>
      have h1:=List.cons.inj h
      have h2:=List.cons.inj h1.2
      rw [Tk.lst_inj h1.1,Tk.lst_inj h2.1]
  exact e2 _ e
theorem far_no {q t:Str} (hq:q ≠ ""):nameOk (nearW q t) = false:=by
  unfold nameOk
  rw [Bool.and_eq_false_iff]
  refine .inr ?_
  unfold allL
  rw [Bool.eq_false_iff]
  intro h
  rw [List.all_eq_true] at h
  have h4:inL 46 = true:=h (inL 46) (List.mem_map_of_mem (by show 46 ∈ cps _; rw [near_cps hq]; exact List.mem_append_right _ (.head _)))
  unfold inL at h4
  rw [StrLaws.found_one] at h4
  exact absurd (abc_all 46 (of_decide_eq_true h4)).1 (by decide)
theorem lines_wt:∀ ts:List Tr,(lines ts).length ≤ ((flats ts).map List.length).sum + wts ts
  | [] => Nat.zero_le _
  | [t] => by
    have h1:=text_wt t
    show t.text.length ≤ ((t.flat ++ []).map List.length).sum + (t.wt + 1 + 0)
    rw [List.append_nil]
    omega
  | t :: u :: r => by
    have h1:=text_wt t
    have h2:=lines_wt (u :: r)
    show (t.text ++ 10 :: lines (u :: r)).length ≤ ((t.flat ++ flats (u :: r)).map List.length).sum + (t.wt + 1 + wts (u :: r))
    rw [List.length_append,List.length_cons,List.map_append,List.sum_append]
    omega
theorem flats_mem:∀ {ts:List Tr} {t:Tr},t ∈ ts → t.flat.length ≤ (flats ts).length ∧ (t.flat.map List.length).sum ≤ ((flats ts).map List.length).sum
  | u :: r,t,h => by
    show _ ≤ (u.flat ++ flats r).length ∧ _ ≤ ((u.flat ++ flats r).map List.length).sum
    rw [List.length_append,List.map_append,List.sum_append]
    rcases List.mem_cons.mp h with rfl | z
    · omega
    · have:=flats_mem z
      omega
theorem text_fits {ts:List Tr} (f1:(flats ts).length ≤ 1000) (f2:((flats ts).map List.length).sum ≤ 9000):ts.length ≤ 9000 ∧ (∀ t ∈ ts,t.wt ≤ 9000 ∧ t.text.length ≤ 100000) ∧ (lines ts).length ≤ 100000:=by
  have f3:=wts_flat ts
  refine ⟨by have:=len_wts ts; omega,fun t ht => ?_,by have:=lines_wt ts; omega⟩
  obtain ⟨g1,g2⟩:=flats_mem ht
  have g3:=wt_flat t
  have g4:=text_wt t
  exact ⟨by omega,by omega⟩
theorem sum_le:∀ {ps:List (List Nat)},(∀ p ∈ ps,p.length ≤ 25) → (ps.map List.length).sum ≤ 25 * ps.length
  | [],_ => Nat.le_refl _
  | p :: r,h => by
    have h1:=sum_le (ps:=r) fun q hq => h q (List.mem_cons_of_mem _ hq)
    have h2:=h p List.mem_cons_self
    rw [List.map_cons,List.sum_cons,List.length_cons]
    omega
noncomputable def spNearFarW:Sp:=fun vs H Q _ => ∃ q t:Str,vs = [.str q,.str t] ∧ q.length ≤ 1000 ∧ t.length ≤ 1000 ∧ Q (.str (nearW q t)) H
theorem allL_of {w:Str} (h:∀ c ∈ w.cps.toList,inL c = true):allL w = true:=by
  unfold allL
  rw [List.all_eq_true]
  intro b hb
  obtain ⟨c,hc,rfl⟩:=List.mem_map.mp hb
  exact h c hc
theorem name_ok {w:Str} (h1:1 ≤ w.length) (h2:w.length ≤ 12) (h:allL w = true):nameOk w = !inV (.str w) takenV:=by
  unfold nameOk fits
  rw [decide_eq_true h1,decide_eq_true h2,h,Bool.and_true] <;> rfl
theorem taken_x:∀ z ∈ takenS,nameOk (z ++ "x") = true:=by decide +kernel
theorem taken_in {z:Str} (h:inV (.str z) takenV = true):z ∈ takenS:=by
  unfold inV takenV at h
  rw [List.any_eq_true] at h
  obtain ⟨y,hy,e⟩:=h
  obtain ⟨s,hs,rfl⟩:=List.mem_map.mp hy
  have e':s = z:=by simpa [eqV] using e
  rw [← e']
  exact hs
theorem abc_in:∀ c ∈ abc.cps.toList,inL c = true:=by decide +kernel
theorem abc_len:((abc.cps.toList.length:Nat):Int) = 26:=by decide +kernel
noncomputable def spNameL:Sp:=fun vs H Q _ => ∃ c:Int,vs = [.int c] ∧ ∀ H' (z:Str),Same H H' → nameOk z = true → Q (.str z) H'
noncomputable def spSizeL:Sp:=fun vs H Q _ => ∃ c:Int,vs = [.int c] ∧ ∀ n:Nat,1 ≤ n → n ≤ 1000000000000000000 → Q (.int n) H
noncomputable def spTokens (K:PySem.W.Frag) (n:Nat):Sp:=fun vs H Q _ => ∃ (x:V) (t:Tr),vs = [x] ∧ TrAt K H x t ∧ t.dep < n ∧ t.flat.length ≤ 1000 ∧ ∀ H' (l:Addr) (ws:List Str),Same H H' → H l = none → H' l = some (.lst (ws.map V.str)) → ws.map cps = t.flat → Q (.ref l) H'
theorem flats_take:∀ {ts:List Tr} {i:Nat} {t:Tr},ts[i]? = some t → flats (ts.take (i + 1)) = flats (ts.take i) ++ t.flat:=fun {ts i t} h => by
  rw [List.take_add_one,h,flats_app]
  show _ ++ flats [t] = _
  rw [flats_one]
theorem flats_split (ts:List Tr) (i:Nat):(flats (ts.take i)).length ≤ (flats ts).length:=by
  have e:flats ts = flats (ts.take i) ++ flats (ts.drop i):=by rw [← flats_app,List.take_append_drop]
  rw [e,List.length_append]
  omega
noncomputable def w1:Bool → List (List Nat) → List Nat
  | _,[] => []
  | b,p :: r => (if b = true ∨ p = [41] then [] else [32]) ++ p ++ w1 (decide (p = [40])) r
mutual
theorem w1_tree:∀ {t:Tr},t.ok → ∀ (b:Bool) (r:List (List Nat)),w1 b (t.flat ++ r) = (if b = true then [] else [32]) ++ (t.text ++ w1 false r)
  | .w s,hw,b,r => by
    obtain ⟨n1,n2⟩:=word_ne (s:=s) hw
    show w1 b (cps s :: r) = _ ++ (cps s ++ _)
    rw [w1,decide_eq_false n1,List.append_assoc]
    cases b
    · rw [if_neg (show ¬ (false = true ∨ cps s = [41]) by simp [n2]),if_neg (show ¬ (false = true) by decide)]
    · rw [if_pos (.inl rfl),if_pos rfl]
  | .n ts,ho,b,r => by
    show w1 b ([40] :: ((flats ts ++ [[41]]) ++ r)) = _ ++ ((40 :: (inner ts ++ [41])) ++ _)
    rw [w1,List.append_assoc (flats ts),show decide (([40]:List Nat) = [40]) = true from rfl,w1_inner (ts:=ts) ho]
    have e:∀ b',w1 b' ([[41]] ++ r) = 41 :: w1 false r:=fun b' => by
      show w1 b' ([41] :: r) = _
      rw [w1,if_pos (.inr rfl)]
      rfl
    rw [e]
    cases b
    · rw [if_neg (show ¬ (false = true ∨ ([40]:List Nat) = [41]) by decide),if_neg (show ¬ (false = true) by decide)]
      simp
    · rw [if_pos (.inl rfl),if_pos rfl]
      simp
theorem w1_inner:∀ {ts:List Tr},oks ts → ∀ (r:List (List Nat)),w1 true (flats ts ++ r) = inner ts ++ w1 ts.isEmpty r
  | [],_,r => rfl
  | t :: ts,⟨h1,h2⟩,r => by
    show w1 true ((t.flat ++ flats ts) ++ r) = (t.text ++ tails ts) ++ w1 false r
    rw [List.append_assoc,w1_tree h1,w1_tails h2,if_pos rfl]
    simp
theorem w1_tails:∀ {ts:List Tr},oks ts → ∀ (r:List (List Nat)),w1 false (flats ts ++ r) = tails ts ++ w1 false r
  | [],_,r => rfl
  | t :: ts,⟨h1,h2⟩,r => by
    show w1 false ((t.flat ++ flats ts) ++ r) = (32 :: (t.text ++ tails ts)) ++ w1 false r
    rw [List.append_assoc,w1_tree h1,w1_tails h2,if_neg (by decide)]
    simp
end
theorem w1_text {t:Tr} (h:t.ok):w1 true t.flat = t.text:=by
  have:=w1_tree h true []
  rw [List.append_nil,if_pos rfl] at this
  rw [this]
  show [] ++ (t.text ++ []) = _
  simp
noncomputable def bAt (ps:List (List Nat)):Nat → Bool
  | 0 => true
  | j + 1 => decide (ps[j]? = some [40])
noncomputable def spWritten (K:PySem.W.Frag):Sp:=fun vs H Q _ => ∃ (p:Addr) (ws:List Str) (t:Tr),vs = [.ref p] ∧ SqL K H p (ws.map V.str) ∧ ws.map cps = t.flat ∧ t.ok ∧ ws.length ≤ 300 ∧ t.text.length ≤ 100000 ∧ ∀ z:Str,cps z = t.text → Q (.str z) H
theorem num_is0 {n:Nat} (h:n ≤ 1000000000000000000):numOk (numS n) = true:=by
  by_cases z:n = 0
  · rw [z]
    decide +kernel
  · exact num_is (by omega) h
section
variable {P:Program} {w:World} {K:PySem.W.Frag} {mg:Str → Option Value} {base:Heap}
theorem scNearFarW:FnScope ["part","name"] ["part","name"] (defScope sNearFarW):=⟨rfl,rfl,rfl,by decide +kernel,rfl,by decide +kernel,by decide +kernel⟩
theorem ok_nearFarW {f:Addr} {fd:FuncData} (F:Fun K "near_or_far_word" "near_or_far_word" sNearFarW f fd):FnOk P w K mg base CX0 1 f fd ["part","name"] spNearFarW:=by
  refine F.ok scNearFarW (fun vs H Q E h => ?_) (fun cdv A outer s H vs Q E hr h => ?_)
  · obtain ⟨a,t,rfl,_⟩:=h
    rfl
  obtain ⟨a,t,rfl,la,lt,q⟩:=h
  refine ⟨_,pss_cons (ps_if (pt_cmpR op_eq (pv 0) pe_str (nomark _)) (pss_one (ps_ret (pv 1))) pss_nil) (pss_one (ps_ret (pe_fstrE (pje_cons (pe_fv (pv 0)) (pje_cons pe_str (pje_cons (pe_fv (pv 1)) pje_nil))) (by decide)))),?_⟩
  refine ⟨_,rfl,rfl,_,rfl,ite2 (fun c => ?_) (fun c => ?_)⟩
  · have e:a = "":=V.str.inj (of_decide_eq_true c)
    have e2:nearW a t = t:=if_pos e
    rw [e2] at q
    exact ⟨_,rfl,q⟩
  · have e:a ≠ "":=fun h => c (decide_eq_true (by rw [h]))
    refine ⟨_,rfl,.inl ⟨a,rfl,small la,a,rfl,by omega,_,rfl,by decide +kernel,_,rfl,.inl ⟨t,rfl,small lt,t,rfl,by omega,?_⟩⟩⟩
    have e2:((Str.empty ++ a) ++ Str.ofString ".") ++ t = nearW a t:=Tk.lst_inj (by
      show cps _ = cps _
      rw [near_cps e,cps_app,cps_app,cps_app]
      show (([] ++ cps a) ++ [46]) ++ cps t = _
      simp)
    show Q (.str (((Str.empty ++ a) ++ Str.ofString ".") ++ t)) H
    rw [e2]
    exact q
theorem scNameL:FnScope ["_law_cell_here","_law_number_here","_law_word","_law_k","_law_at"] ["_law_cell_here"] (defScope sNameL):=⟨rfl,rfl,rfl,by decide +kernel,rfl,by decide +kernel,by decide +kernel⟩
set_option maxHeartbeats 0 in
theorem ok_nameL {f:Addr} {fd:FuncData} (F:Fun K "_law_name" "_law_name" sNameL f fd) (mr:mg "range" = none):FnOk P w K mg base CX0 1 f fd ["_law_cell_here"] spNameL:=by
  refine F.ok scNameL (fun vs H Q E h => ?_) (fun cdv A outer s H vs Q E hr h => ?_)
  · obtain ⟨c,rfl,_⟩:=h
    rfl
  obtain ⟨c,rfl,q⟩:=h
  refine ⟨_,pss_cons (ps_set (i:=1) scNameL.nd rfl (Or.inl rfl) (pe_op op_mod (pv 0) pe_int))
    (pss_cons (ps_set (i:=2) scNameL.nd rfl (Or.inl rfl) pe_str)
    (pss_cons (ps_for PassesOwn.never rfl (pi_range1 rfl mr (pa_cons (pe_op op_add pe_int (pe_op op_mod (pv 1) pe_int)) pa_nil)) (pg_name (i:=3) scNameL.nd rfl (Or.inl rfl))
      (pss_cons (ps_set (i:=4) scNameL.nd rfl (Or.inl rfl) (pe_op op_add (pe_op op_fdiv (pv 1) (pe_op op_add (pv 3) pe_int)) (pe_op op_mul (pe_op op_mul pe_int (pv 3)) (pe_op op_fdiv (pv 1) pe_int))))
      (pss_one (ps_set (i:=2) scNameL.nd rfl (Or.inl rfl) (pe_op op_add_str (pv 2) (pe_ix ix_str pe_str (pe_op op_mod (pv 4) pe_int) (fun _ _ => rfl)))))))
    (pss_cons (ps_if (pt_cmpR op_in_seq (pv 2) (pe_tup (pa_cons pe_str (pa_cons pe_str (pa_cons pe_str (pa_cons pe_str (pa_cons pe_str (pa_cons pe_str (pa_cons pe_str (pa_cons pe_str (pa_cons pe_str pa_nil)))))))))) (by with_unfolding_all rfl)) (pss_one (ps_ret (pe_op op_add_str (pv 2) pe_str))) pss_nil)
    (pss_one (ps_ret (pv 2)))))),?_⟩
  refine ⟨_,rfl,_,_,rfl,rfl,(by show (0:Int) < 100003; decide),?_⟩
  have n0:0 ≤ c % 100003:=Int.emod_nonneg _ (by decide)
  have n1:c % 100003 < 100003:=Int.emod_lt_of_pos _ (by decide)
  have b0:0 ≤ c % 100003 % 12:=Int.emod_nonneg _ (by decide)
  have b1:c % 100003 % 12 < 12:=Int.emod_lt_of_pos _ (by decide)
  refine ⟨_,rfl,_,_,rfl,rfl,(by show (0:Int) < 12; decide),_,_,rfl,rfl,_,rfl,by omega,by omega,?_⟩
  refine for_range (lo:=0) (n:=(1 + c % 100003 % 12).toNat) (fun i σ H3 => ∃ (z:Str) (v3 v4:Option V),σ = [some (.int c),some (.int (c % 100003)),some (.str z),v3,v4] ∧ H3 = H ∧ z.length = i ∧ ∀ d ∈ cps z,d ∈ abc.cps.toList) ⟨"",none,none,rfl,rfl,by decide +kernel,by decide +kernel⟩ ?_ ?_
  · rintro i σ H3 hi ⟨z,v3,v4,rfl,rfl,hz,hd⟩
    refine ⟨_,rfl,_,rfl,_,_,rfl,rfl,_,_,rfl,rfl,⟨by omega,by omega⟩,_,rfl,_,_,rfl,rfl,.inl ⟨by decide,by decide⟩,_,rfl,_,_,rfl,rfl,⟨by decide,by decide⟩,_,_,rfl,rfl,.inr ⟨by omega,by omega⟩,_,_,rfl,rfl,?_⟩
    obtain ⟨d,ed⟩:=at_ex (xs:=abc.cps.toList) (i:=(c % 100003 / (0 + (i:Int) + 1) + 5 * (0 + (i:Int)) * (c % 100003 / 12)) % 26) (Int.emod_nonneg _ (by decide)) (by rw [abc_len]; exact Int.emod_lt_of_pos _ (by decide))
    have od:=mem_at ed
    refine ⟨_,rfl,_,rfl,_,_,rfl,rfl,(by show (0:Int) < 26; decide),abc,_,d,rfl,rfl,by decide +kernel,ed,z,⟨#[d]⟩,rfl,rfl,?_,?_⟩
    · have e1:Str.length ⟨#[d]⟩ = 1:=rfl
      rw [hz,e1]
      exact small (by omega)
    · refine ⟨z ++ ⟨#[d]⟩,_,_,rfl,rfl,?_,?_⟩
      · rw [len_app,hz]
        rfl
      · intro e he
        rw [cps_app] at he
        rcases List.mem_append.mp he with h | h
        · exact hd e h
        · rw [List.mem_singleton.mp (show e ∈ [d] from h)]
          exact od
  · rintro σ H3 ⟨z,v3,v4,rfl,rfl,hz,hd⟩
    have al:allL z = true:=allL_of fun c hc => abc_in c (hd c hc)
    have no:=name_ok (w:=z) (by omega) (by omega) al
    refine ⟨_,rfl,(by show 9 ≤ sizeLine; decide),fun p hp => ?_⟩
    have sp:=same_new hp (.tup takenV)
    refine ⟨p,takenV,rfl,.inr (SqT.of upd_same),rfl,flat_taken,_,rfl,ite2 (fun c => ?_) (fun c => ?_)⟩
    · have c':inV (.str z) takenV = true:=c
      have x1:(Str.ofString "x").length = 1:=by decide +kernel
      exact ⟨_,rfl,z,_,rfl,rfl,small (by rw [x1]; omega),q _ _ sp (taken_x z (taken_in c'))⟩
    · have c':¬ inV (.str z) takenV = true:=c
      rw [Bool.not_eq_true] at c'
      rw [c'] at no
      exact ⟨_,rfl,q _ _ sp no⟩
theorem scSizeL:FnScope ["_law_cell_here"] ["_law_cell_here"] (defScope sSizeL):=⟨rfl,rfl,rfl,by decide +kernel,rfl,by decide +kernel,by decide +kernel⟩
set_option maxHeartbeats 0 in
theorem ok_sizeL {f:Addr} {fd:FuncData} (F:Fun K "_law_size" "_law_size" sSizeL f fd):FnOk P w K mg base CX0 1 f fd ["_law_cell_here"] spSizeL:=by
  refine F.ok scSizeL (fun vs H Q E h => ?_) (fun cdv A outer s H vs Q E hr h => ?_)
  · obtain ⟨c,rfl,_⟩:=h
    rfl
  obtain ⟨c,rfl,q⟩:=h
  have go:∀ x:Int,1 ≤ x → x ≤ 1000000000000000000 → Q (.int x) H:=fun x h1 h2 => by
    have:=q x.toNat (by omega) (by omega)
    rw [Int.toNat_of_nonneg (by omega)] at this
    exact this
  refine ⟨_,pss_cons (ps_if (pt_cmpR op_eq (pe_op op_mod (pv 0) pe_int) pe_int (nomark _)) (pss_one (ps_ret (pe_op op_sub (pe_op op_pow pe_int pe_int) (pe_op op_mod (pe_op op_fdiv (pv 0) pe_int) pe_int)))) pss_nil)
    (pss_cons (ps_if (pt_cmpR op_eq (pe_op op_mod (pv 0) pe_int) pe_int (nomark _)) (pss_one (ps_ret (pe_op op_add pe_int (pe_op op_mod (pe_op op_fdiv (pv 0) pe_int) pe_int)))) pss_nil)
    (pss_one (ps_ret (pe_op op_add pe_int (pe_op op_mod (pe_op op_fdiv (pv 0) pe_int) (pe_op op_pow pe_int pe_int)))))),?_⟩
  have pw:(10:Int) ^ (18:Int).toNat = 1000000000000000000:=by decide
  refine ⟨_,rfl,_,_,rfl,rfl,(by show (0:Int) < 5; decide),rfl,_,rfl,ite2 (fun _ => ?_) (fun _ => ⟨_,rfl,_,_,rfl,rfl,(by show (0:Int) < 5; decide),rfl,_,rfl,ite2 (fun _ => ?_) (fun _ => ?_)⟩)⟩
  · refine ⟨_,_,rfl,rfl,⟨by decide,by decide,by decide⟩,_,rfl,_,_,rfl,rfl,⟨by decide,by decide⟩,_,_,rfl,rfl,(by show (0:Int) < 3; decide),_,_,rfl,rfl,?_⟩
    show Q (.int ((10:Int) ^ (18:Int).toNat - c / 5 % 3)) H
    rw [pw]
    exact go _ (by omega) (by omega)
  · refine ⟨_,rfl,_,_,rfl,rfl,⟨by decide,by decide⟩,_,_,rfl,rfl,(by show (0:Int) < 3; decide),_,_,rfl,rfl,go (1 + c / 5 % 3) (by omega) (by omega)⟩
  · refine ⟨_,rfl,_,_,rfl,rfl,⟨by decide,by decide⟩,_,_,rfl,rfl,⟨by decide,by decide,by decide⟩,_,_,rfl,rfl,(by show (0:Int) < (10:Int) ^ (18:Int).toNat; rw [pw]; decide),_,_,rfl,rfl,?_⟩
    show Q (.int (1 + c / 5 % (10:Int) ^ (18:Int).toNat)) H
    rw [pw]
    exact go _ (by omega) (by omega)
theorem scTokens:FnScope ["_law_tree","_law_found","_law_one"] ["_law_tree"] (defScope sTokens):=⟨rfl,rfl,rfl,by decide +kernel,rfl,by decide +kernel,by decide +kernel⟩
set_option maxHeartbeats 0 in
theorem ok_tokens {f:Addr} {fd:FuncData} (F:Fun K "_law_tokens" "_law_tokens" sTokens f fd) (bF:Binds K fd ["_law_tree"] []) (kF:PySem.W.keepIn K (.ref f) = true) (mF:mg "_law_tokens" = some (.ref f)) (mi:mg "isinstance" = none) (ms:mg "str" = none):∀ n,FnOk P w K mg base CX0 n f fd ["_law_tree"] (spTokens K n)
  | 0 => ⟨fun vs H Q E h => by obtain ⟨x,t,rfl,_⟩:=h; rfl,fun A outer s H args us vs Q E _ _ _ _ h => by
      obtain ⟨x,t,_,_,hd,_⟩:=h
      omega⟩
  | n + 1 => by
    have IH:=ok_tokens F bF kF mF mi ms n
    refine F.ok scTokens (fun vs H Q E h => ?_) (fun cdv A outer s H vs Q E hr h => ?_)
    · obtain ⟨x,t,rfl,_⟩:=h
      rfl
    obtain ⟨x,t,rfl,hx,hd,hfl,q⟩:=h
    refine ⟨_,pss_cons (ps_if (pt_val (pe_callB call_isi rfl mi bootIsi (pa_cons (pv 0) (pa_cons (pe_bltn rfl ms bootStr (v:=.ty "str") rfl) pa_nil)))) (pss_one (ps_ret (pe_lst (pa_cons (pv 0) pa_nil)))) pss_nil)
      (pss_cons (ps_set (i:=1) scTokens.nd rfl (Or.inl rfl) (pe_lst (pa_cons pe_str pa_nil)))
      (pss_cons (ps_for PassesOwn.never rfl (pi_tup (pv 0)) (pg_name (i:=2) scTokens.nd rfl (Or.inl rfl)) (pss_one (ps_expr (pe_bm PySem.F.plainAttrs_list PySem.F.slot_list_extend PySem.F.type_list_extend mt_extend (pv 1) (pa_cons (pe_call IH hr rfl mF kF bF .nil pass0 (pa_cons (pv 2) pa_nil)) pa_nil)))))
      (pss_cons (ps_expr (pe_bm PySem.F.plainAttrs_list PySem.F.slot_list_append PySem.F.type_list_append mt_append (pv 1) (pa_cons pe_str pa_nil)))
      (pss_one (ps_ret (pv 1)))))),?_⟩
    cases hx with
    | w s0 =>
      refine ⟨_,rfl,.str s0,"str",_,true,rfl,.str s0,kit_ss K,true,rfl,iteT ⟨_,rfl,(by show 1 ≤ sizeLine; decide),fun l hl => ?_⟩⟩
      exact q _ l [s0] (same_new hl _) hl upd_same rfl
    | @n a xs ts ha hxs =>
      have hd':1 + deps ts < n + 1:=hd
      have h2:([40] :: (flats ts ++ [[41]])).length ≤ 1000:=hfl
      rw [List.length_cons,List.length_append] at h2
      refine ⟨_,rfl,.ref a,"str",_,false,rfl,.tup ha,kit_ts K,false,rfl,iteF ?_⟩
      refine ⟨(by show 1 ≤ sizeLine; decide),fun l hl0 => ?_⟩
      have s1:=same_new hl0 (.lst [V.str "("])
      refine ⟨_,rfl,a,rfl,⟨_,SqT.of (s1 _ _ ha)⟩,for_tup (K:=K) (xs:=xs) (fun i σ H3 => ∃ (ws:List Str) (v2:Option V),σ = [some (.ref a),some (.ref l),v2] ∧ Same H H3 ∧ H3 l = some (.lst (ws.map V.str)) ∧ ws.map cps = [40] :: flats (ts.take i)) ⟨["("],none,rfl,s1,upd_same,rfl⟩ ?_ ?_ ?_⟩
      · rintro i σ H3 _ ⟨ws,v2,rfl,s3,_⟩
        exact SqT.of (s3 _ _ ha)
      · rintro i y σ H3 hy ⟨ws,v2,rfl,s3,hl3,hw⟩
        obtain ⟨t1,ht1,hy1⟩:=hxs.get hy
        have hm:=List.mem_of_getElem? ht1
        have d1:=dep_mem hm
        have d2:=flat_len hm
        have d3:=flats_split ts i
        refine ⟨_,rfl,.inl ⟨rfl,_,SqL.of hl3⟩,_,rfl,y,t1,rfl,hy1.same s3,by omega,by omega,fun H4 l4 us s4 hn4 hl4 hu => ?_⟩
        have wl:=congrArg List.length hw
        have ul:=congrArg List.length hu
        rw [List.length_map,List.length_cons] at wl
        rw [List.length_map] at ul
        have hl34:=s4 _ _ hl3
        refine ⟨l,l4,_,_,rfl,rfl,hl34,hl4,Nat.le_of_lt (mid (by rw [List.length_map,List.length_map]; omega)),?_⟩
        refine ⟨ws ++ us,_,rfl,sput (s3.trans s4) hl0,by rw [upd_same,List.map_append],?_⟩
        rw [List.map_append,hw,hu,flats_take ht1]
        rfl
      · rintro σ H3 ⟨ws,v2,rfl,s3,hl3,hw⟩
        have lx:=hxs.length
        rw [lx,List.take_length] at hw
        have wl:=congrArg List.length hw
        rw [List.length_map,List.length_cons] at wl
        refine ⟨_,rfl,.inl ⟨rfl,_,SqL.of hl3⟩,l,_,_,rfl,rfl,hl3,mid (by rw [List.length_map]; omega),?_⟩
        refine ⟨_,rfl,q _ l (ws ++ [Str.ofString ")"]) (sput s3 hl0) hl0 (by rw [upd_same,List.map_append]; rfl) ?_⟩
        rw [List.map_append,hw]
        rfl
theorem scWritten:FnScope ["_law_tokens_here","_law_text","_law_k"] ["_law_tokens_here"] (defScope sWritten):=⟨rfl,rfl,rfl,by decide +kernel,rfl,by decide +kernel,by decide +kernel⟩
set_option maxHeartbeats 0 in
theorem ok_written {f:Addr} {fd:FuncData} (F:Fun K "_law_written" "_law_written" sWritten f fd) (ml:mg "len" = none) (mr:mg "range" = none):FnOk P w K mg base CX0 1 f fd ["_law_tokens_here"] (spWritten K):=by
  refine F.ok scWritten (fun vs H Q E h => ?_) (fun cdv A outer s H vs Q E hr h => ?_)
  · obtain ⟨p,ws,t,rfl,_⟩:=h
    rfl
  obtain ⟨p,ws,t,rfl,hp,hps,hok,hl,hll,q⟩:=h
  refine ⟨_,pss_cons (ps_set (i:=1) scWritten.nd rfl (Or.inl rfl) pe_str)
    (pss_cons (ps_for PassesOwn.never rfl (pi_range1 rfl mr (pa_cons (pe_callB call_len_seq rfl ml PySem.boot_len (pa_cons (pv 0) pa_nil)) pa_nil)) (pg_name (i:=2) scWritten.nd rfl (Or.inl rfl))
      (pss_cons (ps_if (PW.pt (pw_and (pt_cmpR op_gt (pv 2) pe_int (nomark _)) (pw_and (pt_cmpR op_ne (pe_ix ix_list (pv 0) (pe_op op_sub (pv 2) pe_int) (fun _ _ => rfl)) pe_str (nomark _)) (pw_and1 (pt_cmpR op_ne (pe_ix ix_list (pv 0) (pv 2) (fun _ _ => rfl)) pe_str (nomark _))))))
        (pss_one (ps_set (i:=1) scWritten.nd rfl (Or.inl rfl) (pe_op op_add_str (pv 1) pe_str))) pss_nil)
      (pss_one (ps_set (i:=1) scWritten.nd rfl (Or.inl rfl) (pe_op op_add_str (pv 1) (pe_ix ix_list (pv 0) (pv 2) (fun _ _ => rfl)))))))
    (pss_one (ps_ret (pv 1)))),?_⟩
  have wl:(ws.map V.str).length = ws.length:=List.length_map _
  have pl:t.flat.length = ws.length:=by rw [← hps,List.length_map]
  refine ⟨_,rfl,p,_,rfl,.inl hp,_,rfl,by omega,by omega,for_range (lo:=0) (n:=(((ws.map V.str).length:Nat):Int).toNat) (fun i σ H3 => ∃ (z:Str) (v3:Option V),σ = [some (.ref p),some (.str z),v3] ∧ H3 = H ∧ cps z ++ w1 (bAt t.flat i) (t.flat.drop i) = t.text)
    ⟨"",none,rfl,rfl,w1_text hok⟩ ?_ ?_⟩
  · rintro i σ H3 hi ⟨z,v3,rfl,rfl,hw⟩
    rw [Int.toNat_natCast,wl] at hi
    obtain ⟨p',hp'⟩:∃ p',ws[i]? = some p':=⟨_,List.getElem?_eq_getElem hi⟩
    have hpi:t.flat[i]? = some (cps p'):=by rw [← hps,List.getElem?_map,hp']; rfl
    have hdrop:t.flat.drop i = cps p' :: t.flat.drop (i + 1):=by
      obtain ⟨hl2,e⟩:=List.getElem?_eq_some_iff.mp hpi
      rw [List.drop_eq_getElem_cons hl2,e]
    rw [hdrop,w1] at hw
    have hat:atI (ws.map V.str) (0 + (i:Int)) = some (.str p'):=by
      rw [Int.zero_add]
      exact atI_nat (by rw [List.getElem?_map,hp']; rfl)
    have fin:∀ (z':Str),cps z' = cps z ++ (if bAt t.flat i = true ∨ cps p' = [41] then [] else [32]) → z'.length + p'.length ≤ sizeLine ∧ ∃ (z2:Str) (v3:Option V),([some (.ref p),some (.str (z' ++ p')),some (.int (0 + (i:Int)))]:St) = [some (.ref p),some (.str z2),v3] ∧ H3 = H3 ∧ cps z2 ++ w1 (bAt t.flat (i + 1)) (t.flat.drop (i + 1)) = t.text:=fun z' ez => by
      have e1:cps (z' ++ p') ++ w1 (decide (cps p' = [40])) (t.flat.drop (i + 1)) = t.text:=by
        rw [cps_app,ez,← hw]
        simp only [List.append_assoc]
      refine ⟨?_,z' ++ p',some (.int (0 + (i:Int))),rfl,rfl,?_⟩
      · have:=congrArg List.length e1
        rw [List.length_append,cps_len,len_app] at this
        exact Nat.le_of_lt (mid (by omega))
      · have eb:bAt t.flat (i + 1) = decide (cps p' = [40]):=by
          show decide (t.flat[i]? = some [40]) = _
          rw [hpi]
          exact decide_eq_decide.mpr ⟨Option.some.inj,fun z => by rw [z]⟩
        rw [eb]
        exact e1
    refine ⟨_,rfl,_,_,rfl,rfl,_,rfl,ite2 (fun c1 => ?_) (fun c1 => iteF ?_)⟩
    · have c1':(0:Int) + (i:Int) > 0:=of_decide_eq_true c1
      obtain ⟨j,rfl⟩:∃ j,i = j + 1:=⟨i - 1,by omega⟩
      obtain ⟨p0,hp0⟩:∃ p0,ws[j]? = some p0:=⟨_,List.getElem?_eq_getElem (by omega)⟩
      have hpj:t.flat[j]? = some (cps p0):=by rw [← hps,List.getElem?_map,hp0]; rfl
      have hat0:atI (ws.map V.str) ((0 + ((j + 1:Nat):Int)) - 1) = some (.str p0):=by
        rw [show (0 + ((j + 1:Nat):Int)) - 1 = (j:Int) by omega]
        exact atI_nat (by rw [List.getElem?_map,hp0]; rfl)
      have eb:bAt t.flat (j + 1) = decide (cps p0 = [40]):=by
        show decide (t.flat[j]? = some [40]) = _
        rw [hpj]
        exact decide_eq_decide.mpr ⟨Option.some.inj,fun z => by rw [z]⟩
      refine ⟨_,rfl,_,rfl,_,_,rfl,rfl,p,_,_,_,rfl,rfl,hp,hat0,rfl,_,rfl,ite2 (fun c2 => ?_) (fun c2 => iteF ?_)⟩
      · have n0:cps p0 ≠ [40]:=fun z => by
          have c2':(!decide (V.str p0 = V.str "(")) = true:=c2
          rw [show p0 = "(" from str_iff.mpr z] at c2'
          exact absurd c2' (by decide)
        refine ⟨_,rfl,_,rfl,p,_,_,_,rfl,rfl,hp,hat,rfl,_,rfl,ite2 (fun c3 => ?_) (fun c3 => ?_)⟩
        · have n1:cps p' ≠ [41]:=fun z => by
            have c3':(!decide (V.str p' = V.str ")")) = true:=c3
            rw [show p' = ")" from str_iff.mpr z] at c3'
            exact absurd c3' (by decide)
          obtain ⟨FL,fi⟩:=fin (z ++ " ") (by
            rw [cps_app,if_neg]
            · rfl
            · rw [eb,decide_eq_true_iff]
              exact fun z => z.elim n0 n1)
          have gl:z.length + (Str.ofString " ").length ≤ sizeLine:=by rw [len_app] at FL; omega
          refine ⟨_,rfl,z,_,rfl,rfl,gl,?_⟩
          exact ⟨_,rfl,_,rfl,_,rfl,p,_,_,_,rfl,rfl,hp,hat,z ++ " ",p',rfl,rfl,FL,fi⟩
        · have e41:cps p' = [41]:=by
            have c3':¬ (!decide (V.str p' = V.str ")")) = true:=c3
            rw [Bool.not_eq_true',Bool.not_eq_false,decide_eq_true_iff] at c3'
            exact str_iff.mp (V.str.inj c3')
          obtain ⟨FL,fi⟩:=fin z (by rw [if_pos (.inr e41),List.append_nil])
          exact ⟨_,rfl,_,rfl,_,rfl,p,_,_,_,rfl,rfl,hp,hat,z,p',rfl,rfl,FL,fi⟩
      · have e40:cps p0 = [40]:=by
          have c2':¬ (!decide (V.str p0 = V.str "(")) = true:=c2
          rw [Bool.not_eq_true',Bool.not_eq_false,decide_eq_true_iff] at c2'
          exact str_iff.mp (V.str.inj c2')
        obtain ⟨FL,fi⟩:=fin z (by rw [if_pos (.inl (by rw [eb]; exact decide_eq_true e40)),List.append_nil])
        exact ⟨_,rfl,_,rfl,_,rfl,p,_,_,_,rfl,rfl,hp,hat,z,p',rfl,rfl,FL,fi⟩
    · have i0:i = 0:=by
        have:¬ ((0:Int) + (i:Int) > 0):=of_decide_eq_false (Bool.eq_false_iff.mpr c1)
        omega
      obtain ⟨FL,fi⟩:=fin z (by rw [i0,if_pos (.inl rfl),List.append_nil])
      exact ⟨_,rfl,_,rfl,_,rfl,p,_,_,_,rfl,rfl,hp,hat,z,p',rfl,rfl,FL,fi⟩
  · rintro σ H3 ⟨z,v3,rfl,rfl,hw⟩
    rw [Int.toNat_natCast,wl,← pl,List.drop_length] at hw
    refine ⟨_,rfl,q z ?_⟩
    rw [← hw]
    exact (List.append_nil _).symm
end
end K18
namespace K18
open PySem L2
inductive Fm where
  | lit (v n:Nat)
  | op (o:Str) (n:Nat)
  | test (o:Str)
  | as_ (n:Nat)
  | let_ (s:Str)
  | br (h:Str)
  | call (q t:Str)
inductive Ex where
  | var (s:Str)
  | node (f:Fm) (es:List Ex)
noncomputable abbrev big:Nat:=1000000000000000000
noncomputable def Fm.words:Fm → List Str
  | .lit v n => ["lit",numS v,numS n]
  | .op o n => [o,numS n]
  | .test o => [o]
  | .as_ n => ["as",numS n]
  | .let_ s => ["let",s]
  | .br h => [h]
  | .call q t => [nearW q t]
noncomputable def Fm.vals:Fm → List V
  | .lit v n => [.str "lit",.int v,.int n]
  | .op o n => [.str "op",.str o,.int n]
  | .test o => [.str "test",.str o]
  | .as_ n => [.str "as",.int n]
  | .let_ s => [.str "let",.str s]
  | .br h => [.str h]
  | .call q t => [.str "call",.str q,.str t]
noncomputable def Fm.isCall:Fm → Bool
  | .call _ _ => true
  | _ => false
noncomputable def Fm.fits:Fm → Nat → Prop
  | .lit v n,k => k = 0 ∧ v < n ∧ n ≤ big
  | .op o n,k => k = 2 ∧ (o = "+" ∨ o = "-" ∨ o = "*") ∧ 1 ≤ n ∧ n ≤ big
  | .test o,k => k = 2 ∧ (o = "=" ∨ o = "<")
  | .as_ n,k => k = 1 ∧ 1 ≤ n ∧ n ≤ big
  | .let_ s,k => k = 2 ∧ nameOk s = true
  | .br h,k => (h = "if" ∧ k = 3) ∨ (h = "two" ∧ k = 2) ∨ (h = "first" ∧ k = 1) ∨ (h = "second" ∧ k = 1)
  | .call q t,k => k ≤ 4 ∧ nameOk t = true ∧ (q = "" ∨ nameOk q = true)
mutual
noncomputable def Ex.tr:Ex → Tr
  | .var s => .w s
  | .node f es => .n (f.words.map Tr.w ++ trs es)
noncomputable def trs:List Ex → List Tr
  | [] => []
  | e :: es => e.tr :: trs es
end
mutual
noncomputable def Ex.ok:Ex → Prop
  | .var s => nameOk s = true
  | .node f es => f.fits es.length ∧ eoks es
noncomputable def eoks:List Ex → Prop
  | [] => True
  | e :: es => e.ok ∧ eoks es
end
mutual
noncomputable def Ex.dp:Ex → Nat
  | .var _ => 0
  | .node _ es => 1 + edps es
noncomputable def edps:List Ex → Nat
  | [] => 0
  | e :: es => max e.dp (edps es)
end
theorem fits_le {f:Fm} {k:Nat} (h:f.fits k):k ≤ 4:=by
  cases f with
  | lit => obtain ⟨rfl,_⟩:=h; decide
  | op => obtain ⟨rfl,_⟩:=h; decide
  | test => obtain ⟨rfl,_⟩:=h; decide
  | as_ => obtain ⟨rfl,_⟩:=h; decide
  | let_ => obtain ⟨rfl,_⟩:=h; decide
  | br => rcases h with ⟨_,rfl⟩ | ⟨_,rfl⟩ | ⟨_,rfl⟩ | ⟨_,rfl⟩ <;> decide
  | call => exact h.1
theorem trs_len:∀ es:List Ex,(trs es).length = es.length
  | [] => rfl
  | _ :: es => congrArg (· + 1) (trs_len es)
theorem trs_app:∀ as bs:List Ex,trs (as ++ bs) = trs as ++ trs bs
  | [],_ => rfl
  | a :: as,bs => by
    show a.tr :: trs (as ++ bs) = a.tr :: trs as ++ trs bs
    rw [trs_app as bs]
    rfl
theorem eoks_mem:∀ {es:List Ex} {e:Ex},eoks es → e ∈ es → e.ok
  | a :: as,e,⟨h1,h2⟩,h => by
    rcases List.mem_cons.mp h with rfl | z
    · exact h1
    · exact eoks_mem h2 z
theorem edps_mem:∀ {es:List Ex} {e:Ex},e ∈ es → e.dp ≤ edps es
  | a :: as,e,h => by
    show _ ≤ max a.dp (edps as)
    rcases List.mem_cons.mp h with rfl | z
    · omega
    · have:=edps_mem z
      omega
theorem words_tok {f:Fm} {k:Nat} (h:f.fits k):∀ s ∈ f.words,Tk.Word (cps s) ∧ s.length ≤ 25 ∧ ∀ c ∈ cps s,c < 0x110000:=by
  have nm:∀ n:Nat,n ≤ big → Tk.Word (cps (numS n)) ∧ (numS n).length ≤ 25 ∧ ∀ c ∈ cps (numS n),c < 0x110000:=fun n hn => by
    obtain ⟨_,_,x3⟩:=num_tx hn
    exact ⟨(num_word hn).1,by omega,(num_word hn).2⟩
  have na:∀ s:Str,nameOk s = true → Tk.Word (cps s) ∧ s.length ≤ 25 ∧ ∀ c ∈ cps s,c < 0x110000:=fun s hs => by
    have:=near_word (q:="") (t:=s) hs (.inl rfl)
    have e:nearW "" s = s:=if_pos rfl
    rw [e] at this
    exact this
  intro s hs
  cases f with
  | lit v n =>
    obtain ⟨_,h1,h2⟩:=h
    simp only [Fm.words,List.mem_cons,List.mem_nil_iff,or_false] at hs
    rcases hs with rfl | rfl | rfl
    · exact ⟨⟨by decide +kernel,by decide +kernel⟩,by decide +kernel,by decide +kernel⟩
    · exact nm v (by omega)
    · exact nm n h2
  | op o n =>
    obtain ⟨_,h1,h2,h3⟩:=h
    simp only [Fm.words,List.mem_cons,List.mem_nil_iff,or_false] at hs
    rcases hs with rfl | rfl
    · rcases h1 with rfl | rfl | rfl <;> exact ⟨⟨by decide +kernel,by decide +kernel⟩,by decide +kernel,by decide +kernel⟩
    · exact nm n h3
  | test o =>
    obtain ⟨_,h1⟩:=h
    simp only [Fm.words,List.mem_cons,List.mem_nil_iff,or_false] at hs
    subst hs
    rcases h1 with rfl | rfl <;> exact ⟨⟨by decide +kernel,by decide +kernel⟩,by decide +kernel,by decide +kernel⟩
  | as_ n =>
    obtain ⟨_,h2,h3⟩:=h
    simp only [Fm.words,List.mem_cons,List.mem_nil_iff,or_false] at hs
    rcases hs with rfl | rfl
    · exact ⟨⟨by decide +kernel,by decide +kernel⟩,by decide +kernel,by decide +kernel⟩
    · exact nm n h3
  | let_ z =>
    obtain ⟨_,h2⟩:=h
    simp only [Fm.words,List.mem_cons,List.mem_nil_iff,or_false] at hs
    rcases hs with rfl | rfl
    · exact ⟨⟨by decide +kernel,by decide +kernel⟩,by decide +kernel,by decide +kernel⟩
    · exact na _ h2
  | br z =>
    simp only [Fm.words,List.mem_cons,List.mem_nil_iff,or_false] at hs
    subst hs
    rcases h with ⟨rfl,_⟩ | ⟨rfl,_⟩ | ⟨rfl,_⟩ | ⟨rfl,_⟩ <;> exact ⟨⟨by decide +kernel,by decide +kernel⟩,by decide +kernel,by decide +kernel⟩
  | call q t =>
    obtain ⟨_,h1,h2⟩:=h
    simp only [Fm.words,List.mem_cons,List.mem_nil_iff,or_false] at hs
    subst hs
    exact near_word h1 h2
theorem words_len (f:Fm):f.words.length ≤ 3:=by cases f <;> simp [Fm.words]
theorem flats_words:∀ ws:List Str,flats (ws.map Tr.w) = ws.map cps
  | [] => rfl
  | w :: ws => by
    show [cps w] ++ flats (ws.map Tr.w) = cps w :: ws.map cps
    rw [flats_words ws]
    rfl
theorem deps_words:∀ ws:List Str,deps (ws.map Tr.w) = 0
  | [] => rfl
  | w :: ws => by
    show max 0 (deps (ws.map Tr.w)) = 0
    rw [deps_words ws]
    rfl
theorem deps_app:∀ as bs:List Tr,deps (as ++ bs) = max (deps as) (deps bs)
  | [],bs => by show deps bs = max 0 (deps bs); omega
  | a :: as,bs => by
    show max a.dep (deps (as ++ bs)) = max (max a.dep (deps as)) (deps bs)
    rw [deps_app as bs]
    omega
mutual
theorem ex_dep:∀ e:Ex,e.tr.dep = e.dp
  | .var s => rfl
  | .node f es => by
    show 1 + deps (f.words.map Tr.w ++ trs es) = 1 + edps es
    rw [deps_app,deps_words,exs_dep es]
    omega
theorem exs_dep:∀ es:List Ex,deps (trs es) = edps es
  | [] => rfl
  | e :: es => by
    show max e.tr.dep (deps (trs es)) = max e.dp (edps es)
    rw [ex_dep e,exs_dep es]
end
mutual
theorem ex_toks:∀ {e:Ex},e.ok → ∀ p ∈ e.tr.flat,TokC p
  | .var s,h,p,hp => by
    have:=near_word (q:="") (t:=s) h (.inl rfl)
    have e:nearW "" s = s:=if_pos rfl
    rw [e] at this
    rw [List.mem_singleton.mp (show p ∈ [cps s] from hp)]
    exact tokc_word this.1 (by rw [cps_len]; exact this.2.1) this.2.2
  | .node f es,⟨h1,h2⟩,p,hp => by
    have hp':p ∈ [40] :: (flats (f.words.map Tr.w ++ trs es) ++ [[41]]):=hp
    rw [flats_app,flats_words] at hp'
    simp only [List.mem_cons,List.mem_append,List.mem_nil_iff,or_false] at hp'
    rcases hp' with rfl | (hp' | hp') | rfl
    · exact tokc_op
    · obtain ⟨s,hs,rfl⟩:=List.mem_map.mp hp'
      obtain ⟨a,b,c⟩:=words_tok h1 s hs
      exact tokc_word a (by rw [cps_len]; exact b) c
    · exact exs_toks h2 p hp'
    · exact tokc_cl
theorem exs_toks:∀ {es:List Ex},eoks es → ∀ p ∈ flats (trs es),TokC p
  | [],_,p,hp => by cases hp
  | e :: es,⟨h1,h2⟩,p,hp => by
    rcases List.mem_append.mp (show p ∈ e.tr.flat ++ flats (trs es) from hp) with z | z
    · exact ex_toks h1 p z
    · exact exs_toks h2 p z
end
mutual
inductive ExAt (H:Hp):V → Ex → Prop
  | var {p:Addr} {s:Str}:H p = some (.tup [.str "var",.str s]) → ExAt H (.ref p) (.var s)
  | node {p:Addr} {f:Fm} {xs:List V} {es:List Ex}:f.isCall = false → H p = some (.tup (f.vals ++ xs)) → ExsAt H xs es → ExAt H (.ref p) (.node f es)
  | call {p p2:Addr} {q t:Str} {xs:List V} {es:List Ex}:H p = some (.tup [.str "call",.str q,.str t,.ref p2]) → H p2 = some (.tup xs) → ExsAt H xs es → ExAt H (.ref p) (.node (.call q t) es)
inductive ExsAt (H:Hp):List V → List Ex → Prop
  | nil:ExsAt H [] []
  | cons {x:V} {e:Ex} {xs:List V} {es:List Ex}:ExAt H x e → ExsAt H xs es → ExsAt H (x :: xs) (e :: es)
end
mutual
theorem ExAt.keep {H H':Hp} (k:∀ a xs,H a = some (.tup xs) → H' a = some (.tup xs)):∀ {x:V} {e:Ex},ExAt H x e → ExAt H' x e
  | _,_,.var h => .var (k _ _ h)
  | _,_,.node c h r => .node c (k _ _ h) (ExsAt.keep k r)
  | _,_,.call h h2 r => .call (k _ _ h) (k _ _ h2) (ExsAt.keep k r)
theorem ExsAt.keep {H H':Hp} (k:∀ a xs,H a = some (.tup xs) → H' a = some (.tup xs)):∀ {xs:List V} {es:List Ex},ExsAt H xs es → ExsAt H' xs es
  | _,_,.nil => .nil
  | _,_,.cons h r => .cons (ExAt.keep k h) (ExsAt.keep k r)
end
theorem ExAt.same {H H':Hp} (s:Same H H') {x:V} {e:Ex} (h:ExAt H x e):ExAt H' x e:=h.keep fun _ _ q => s _ _ q
theorem ExsAt.same {H H':Hp} (s:Same H H') {xs:List V} {es:List Ex} (h:ExsAt H xs es):ExsAt H' xs es:=h.keep fun _ _ q => s _ _ q
theorem ExsAt.append {H:Hp}:∀ {xs ys:List V} {es fs:List Ex},ExsAt H xs es → ExsAt H ys fs → ExsAt H (xs ++ ys) (es ++ fs)
  | _,_,_,_,.nil,h => h
  | _,_,_,_,.cons a r,h => .cons a (r.append h)
theorem ExsAt.length {H:Hp}:∀ {xs:List V} {es:List Ex},ExsAt H xs es → xs.length = es.length
  | _,_,.nil => rfl
  | _,_,.cons _ r => congrArg (· + 1) r.length
theorem ExsAt.get {H:Hp}:∀ {xs:List V} {es:List Ex},ExsAt H xs es → ∀ {i:Nat} {x:V},xs[i]? = some x → ∃ e,es[i]? = some e ∧ ExAt H x e
  | _,_,.cons h r,0,x,hx => by
    cases hx
    exact ⟨_,rfl,h⟩
  | _,_,.cons h r,i + 1,x,hx => r.get (i:=i) hx
end K18
namespace K18
open PySem L2
inductive Kd where
  | num (n:Nat)
  | name (q t:Str)
  | pair (a b:Kd)
noncomputable def Kd.tr:Kd → Tr
  | .num n => .n [.w "num",.w (numS n)]
  | .name q t => .w (nearW q t)
  | .pair a b => .n [.w "pair",a.tr,b.tr]
noncomputable def Kd.ok:Kd → Prop
  | .num n => 1 ≤ n ∧ n ≤ 1000000000000000000
  | .name q t => nameOk t = true ∧ (q = "" ∨ nameOk q = true)
  | .pair a b => a.ok ∧ b.ok
noncomputable def Kd.lv:Kd → Nat
  | .num _ => 1
  | .name _ _ => 1
  | .pair a b => a.lv + b.lv
noncomputable def Kd.dp:Kd → Nat
  | .num _ => 0
  | .name _ _ => 0
  | .pair a b => 1 + max a.dp b.dp
theorem tr_toks:∀ {k:Kd},k.ok → ∀ p ∈ k.tr.flat,TokC p
  | .num n,h,p,hp => by
    have hp':p ∈ [[40],cps "num",cps (numS n),[41]]:=hp
    simp only [List.mem_cons,List.mem_nil_iff,or_false] at hp'
    rcases hp' with rfl | rfl | rfl | rfl
    · exact tokc_op
    · exact tokc_word ⟨by decide +kernel,by decide +kernel⟩ (by decide +kernel) (by decide +kernel)
    · exact tokc_word (num_word h.2).1 (by rw [cps_len]; have:=(num_tx h.2).2.2; omega) (num_word h.2).2
    · exact tokc_cl
  | .name q t,h,p,hp => by
    obtain rfl:=List.mem_singleton.mp (show p ∈ [cps (nearW q t)] from hp)
    obtain ⟨w1,w2,w3⟩:=near_word h.1 h.2
    exact tokc_word w1 (by rw [cps_len]; exact w2) w3
  | .pair a b,h,p,hp => by
    have hp':p ∈ [40] :: (([cps "pair"] ++ (a.tr.flat ++ (b.tr.flat ++ []))) ++ [[41]]):=hp
    simp only [List.mem_cons,List.mem_append,List.mem_nil_iff,or_false] at hp'
    rcases hp' with rfl | (rfl | hp' | hp') | rfl
    · exact tokc_op
    · exact tokc_word ⟨by decide +kernel,by decide +kernel⟩ (by decide +kernel) (by decide +kernel)
    · exact tr_toks h.1 p hp'
    · exact tr_toks h.2 p hp'
    · exact tokc_cl
inductive KdAt (K:PySem.W.Frag) (H:Hp):V → Kd → Prop
  | num {p:Addr} {n:Nat}:H p = some (.tup [.str "num",.int n]) → KdAt K H (.ref p) (.num n)
  | name {p:Addr} {q t:Str}:H p = some (.tup [.str "name",.str q,.str t]) → KdAt K H (.ref p) (.name q t)
  | pair {p:Addr} {x y:V} {a b:Kd}:H p = some (.tup [.str "pair",x,y]) → KdAt K H x a → KdAt K H y b → KdAt K H (.ref p) (.pair a b)
theorem KdAt.same {K:PySem.W.Frag} {H H':Hp} (e:Same H H'):∀ {x:V} {k:Kd},KdAt K H x k → KdAt K H' x k
  | _,_,.num h => .num (e _ _ h)
  | _,_,.name h => .name (e _ _ h)
  | _,_,.pair h a b => .pair (e _ _ h) (KdAt.same e a) (KdAt.same e b)
end K18
namespace K18
open PySem L2
noncomputable abbrev opsV:List V:=[.str "+",.str "-",.str "*"]
noncomputable abbrev tstV:List V:=[.str "=",.str "<"]
noncomputable abbrev brs:List (Str × Int):=[("if",3),("two",2),("first",1),("second",1)]
noncomputable abbrev heads:List Str:=["lit","+","-","*","=","<","as","let","if","two","first","second"]
theorem cut_from (xs:List V) (k:Nat):cutV xs (some (k:Int)) none = xs.drop k:=by
  unfold cutV
  rw [HT.sIx_nat,HT.sIx_none]
  by_cases h:k ≤ xs.length
  · rw [Nat.min_eq_left h,List.take_of_length_le (by rw [List.length_drop]; omega)]
  · rw [Nat.min_eq_right (by omega),List.drop_length,List.drop_eq_nil_of_le (by omega),List.take_nil]
theorem not_whole {n k:Nat} (h:1 ≤ k) (hn:1 ≤ n):¬ (HT.sIx n 0 (some (k:Int)) = 0 ∧ HT.sIx n n none = n):=fun z => by
  have:=z.1
  rw [HT.sIx_nat] at this
  omega
theorem str_no {z w:Str} (h:z ≠ w):¬ (decide (V.str z = V.str w) = true):=fun c => h (V.str.inj (of_decide_eq_true c))
theorem inV_strs {z:Str}:∀ {ws:List Str},(∀ w ∈ ws,z ≠ w) → inV (.str z) (ws.map V.str) = false
  | [],_ => rfl
  | w :: ws,h => by
    unfold inV at *
    rw [List.map_cons,List.any_cons,Bool.or_eq_false_iff]
    refine ⟨?_,inV_strs (ws:=ws) fun x hx => h x (.tail _ hx)⟩
    rw [Bool.eq_false_iff]
    intro e
    have e':w = z:=by simpa [eqV] using e
    exact h w (.head _) e'.symm
theorem flat_ops:opsV.all flatV = true:=by decide +kernel
theorem flat_tst:tstV.all flatV = true:=by decide +kernel
theorem no_of {b:Bool} (h:b = false):¬ (b = true):=by rw [h]; decide
mutual
noncomputable def Tr.dat:Tr → PyData
  | .w s => .str s
  | .n ts => .tuple (dats ts)
noncomputable def dats:List Tr → List PyData
  | [] => []
  | t :: ts => t.dat :: dats ts
end
mutual
theorem TrAt.dat {K:PySem.W.Frag} {H:Hp}:∀ {x:V} {t:Tr},TrAt K H x t → Dat K H x t.dat
  | _,_,.w s => .str s
  | _,_,.n h r => .tup (SqT.of h) (TrsAt.dats r)
theorem TrsAt.dats {K:PySem.W.Frag} {H:Hp}:∀ {xs:List V} {ts:List Tr},TrsAt K H xs ts → Dats K H xs (dats ts)
  | _,_,.nil => .nil
  | _,_,.cons h r => .cons (TrAt.dat h) (TrsAt.dats r)
end
noncomputable def Fine (ps:List (List Nat)):Prop:=∀ p ∈ ps,∀ c ∈ p,c < 0x110000
theorem sok_iff (z:Str):PyData.strOk z = true ↔ ∀ c ∈ z.cps.toList,c < 0x110000:=by
  unfold PyData.strOk
  rw [Array.all_eq_true_iff_forall_mem]
  simp
mutual
theorem dat_lay:∀ {t:Tr},Fine t.flat → t.dat.canLay0 = true
  | .w s,h => by
    simp only [Tr.dat,PyData.canLay0]
    exact (sok_iff s).mpr (h (cps s) (.head _))
  | .n ts,h => by
    simp only [Tr.dat,PyData.canLay0]
    exact dats_lay (ts:=ts) fun p hp => h p (.tail _ (List.mem_append_left _ hp))
theorem dats_lay:∀ {ts:List Tr},Fine (flats ts) → PyData.canLayAll0 (dats ts) = true
  | [],_ => by simp only [dats,PyData.canLayAll0]
  | t :: ts,h => by
    simp only [dats,PyData.canLayAll0,dat_lay (t:=t) fun p hp => h p (List.mem_append_left _ hp),dats_lay (ts:=ts) fun p hp => h p (List.mem_append_right _ hp),Bool.and_self]
end
structure Sm (t:Tr):Prop where
  tok:∀ p ∈ t.flat,TokC p
  len:t.flat.length ≤ 200
  dep:t.dep ≤ 30
structure Sms (ts:List Tr):Prop where
  tok:∀ p ∈ flats ts,TokC p
  len:(flats ts).length ≤ 200
  dep:deps ts ≤ 30
theorem Sm.sub {ts:List Tr} (h:Sm (.n ts)):Sms ts:=by
  refine ⟨fun p hp => h.tok p (.tail _ (List.mem_append_left _ hp)),?_,?_⟩
  · have:=h.len
    have e:(Tr.n ts).flat.length = (flats ts).length + 2:=by
      show ([40] :: (flats ts ++ [[41]])).length = _
      simp
    omega
  · have:1 + deps ts ≤ 30:=h.dep
    omega
theorem flats_tok:∀ {ts:List Tr} {t:Tr},t ∈ ts → ∀ p ∈ t.flat,p ∈ flats ts
  | u :: r,t,h,p,hp => by
    show p ∈ u.flat ++ flats r
    rcases List.mem_cons.mp h with rfl | z
    · exact List.mem_append_left _ hp
    · exact List.mem_append_right _ (flats_tok z p hp)
theorem Sms.mem {ts:List Tr} (h:Sms ts) {t:Tr} (ht:t ∈ ts):Sm t :=
  ⟨fun p hp => h.tok p (flats_tok ht p hp),Nat.le_trans (flats_mem ht).1 h.len,Nat.le_trans (dep_mem ht) h.dep⟩
theorem Sms.tail {t:Tr} {ts:List Tr} (h:Sms (t :: ts)):Sms ts :=
  ⟨fun p hp => h.tok p (List.mem_append_right _ hp),by have:=h.len; have e:(flats (t :: ts)).length = t.flat.length + (flats ts).length:=List.length_append; omega,by have:max t.dep (deps ts) ≤ 30:=h.dep; omega⟩
theorem Sms.head {t:Tr} {ts:List Tr} (h:Sms (t :: ts)):Sm t:=h.mem (.head _)
theorem Sms.drop:∀ {ts:List Tr} (k:Nat),Sms ts → Sms (ts.drop k)
  | [],k,h => by rw [List.drop_nil]; exact h
  | _ :: _,0,h => h
  | _ :: ts,k + 1,h => Sms.drop (ts:=ts) k h.tail
theorem Sms.count {ts:List Tr} (h:Sms ts):ts.length ≤ 200:=Nat.le_trans (len_flats ts) h.len
theorem Sm.word {s:Str} (h:Sm (.w s)):s.length ≤ 25 ∧ PyData.strOk s = true:=by
  have:=h.tok (cps s) (.head _)
  exact ⟨by rw [← cps_len]; exact this.1,(sok_iff s).mpr this.2.2⟩
mutual
theorem shw_tr:∀ {t:Tr},(∀ p ∈ t.flat,TokC p) → Shw t.dat (300 * t.flat.length - 2) t.dep
  | .w s,h => by
    have hs:=h (cps s) (.head _)
    have l:=hs.1
    rw [cps_len] at l
    refine (shw_str ((sok_iff s).mpr hs.2.2) _).le ?_ (Nat.le_refl _)
    show _ ≤ 300 * 1 - 2
    omega
  | .n ts,h => by
    have hs:=shw_trs (ts:=ts) fun p hp => h p (.tail _ (List.mem_append_left _ hp))
    have e:(Tr.n ts).flat.length = (flats ts).length + 2:=by
      show ([40] :: (flats ts ++ [[41]])).length = _
      simp
    refine (shw_tup hs).le ?_ ?_
    · rw [e]
      omega
    · show _ ≤ 1 + deps ts
      omega
theorem shw_trs:∀ {ts:List Tr},(∀ p ∈ flats ts,TokC p) → Shws (dats ts) (300 * (flats ts).length) (deps ts)
  | [],_ => shws_nil _
  | t :: ts,h => by
    have h1:=shw_tr (t:=t) fun p hp => h p (List.mem_append_left _ hp)
    have h2:=shw_trs (ts:=ts) fun p hp => h p (List.mem_append_right _ hp)
    have e:(flats (t :: ts)).length = t.flat.length + (flats ts).length:=List.length_append
    have p1:=flat_pos t
    have h3:=shws_cons (h1.le (Nat.le_refl _) (Nat.le_max_left t.dep (deps ts))) (⟨h2.sh,h2.nd,Nat.le_trans h2.dp (Nat.le_max_right _ _),h2.ln⟩:Shws (dats ts) _ (max t.dep (deps ts)))
    refine ⟨h3.sh,h3.nd,h3.dp,Nat.le_trans h3.ln ?_⟩
    rw [e]
    omega
end
theorem Sm.shown {K:PySem.W.Frag} {H:Hp} {x:V} {t:Tr} (h:Sm t) (hx:TrAt K H x t):∃ d n,Dat K H x d ∧ Shw d n 60 ∧ n ≤ 2000000 :=
  ⟨_,_,hx.dat,(shw_tr h.tok).le (Nat.le_refl _) (by have:=h.dep; omega),by have:=h.len; omega⟩
noncomputable def numb? (t:Tr) (lo hi:Int):Option Nat:=match t with
  | .w z => if numOk z = true ∧ lo ≤ (numOf (cps z):Int) ∧ (numOf (cps z):Int) ≤ hi then some (numOf (cps z)) else none
  | .n _ => none
noncomputable def size? (t:Tr):Option Nat:=numb? t 1 1000000000000000000
noncomputable def name?:Tr → Option Str
  | .w z => if nameOk z = true then some z else none
  | .n _ => none
noncomputable def two?:List Str → Option (Str × Str)
  | [a,b] => if nameOk a = true ∧ nameOk b = true then some (a,b) else none
  | _ => none
noncomputable def far? (z:Str):Option (Str × Str):=if nameOk z = true then some ("",z) else two? (Txt.split z ".")
noncomputable def alls {α:Type}:List (Option α) → Option (List α)
  | [] => some []
  | some a :: r => (alls r).map (a :: ·)
  | none :: _ => none
noncomputable def lit?:List Tr → Option (Fm × Nat)
  | [a,b] => match size? b with
    | some n => (numb? a 0 ((n:Int) - 1)).map fun v => (.lit v n,2)
    | none => none
  | _ => none
noncomputable def op? (z:Str):List Tr → Option (Fm × Nat)
  | [a,_,_] => (size? a).map fun n => (.op z n,1)
  | _ => none
noncomputable def as?:List Tr → Option (Fm × Nat)
  | [a,_] => (size? a).map fun n => (.as_ n,1)
  | _ => none
noncomputable def let?:List Tr → Option (Fm × Nat)
  | [a,_,_] => (name? a).map fun s => (.let_ s,1)
  | _ => none
noncomputable def call? (z:Str) (ts:List Tr):Option (Fm × Nat):=match far? z with
  | some p => if ts.length ≤ 4 then some (.call p.1 p.2,0) else none
  | none => none
noncomputable def form? (z:Str) (ts:List Tr):Option (Fm × Nat) :=
  if z = "lit" then lit? ts
  else if inV (.str z) opsV = true then op? z ts
  else if inV (.str z) tstV = true then (if ts.length = 2 then some (.test z,0) else none)
  else if z = "as" then as? ts
  else if z = "let" then let? ts
  else match numAtS brs z with
    | some k => if (ts.length:Int) = k then some (.br z,0) else none
    | none => call? z ts
noncomputable def nod (ts:List Tr) (os:List (Option Ex)):Option Ex:=match ts with
  | .w z :: r => match form? z r with
    | some p => (alls (os.drop (p.2 + 1))).map (.node p.1)
    | none => none
  | _ => none
mutual
noncomputable def ex?:Tr → Option Ex
  | .w z => if nameOk z = true then some (.var z) else none
  | .n ts => nod ts (exo ts)
noncomputable def exo:List Tr → List (Option Ex)
  | [] => []
  | t :: ts => ex? t :: exo ts
end
theorem exo_map:∀ ts:List Tr,exo ts = ts.map ex?
  | [] => rfl
  | t :: ts => by show ex? t :: exo ts = ex? t :: ts.map ex?; rw [exo_map ts]
noncomputable def exs? (ts:List Tr):Option (List Ex):=alls (ts.map ex?)
theorem ex_node {z:Str} {ts:List Tr}:ex? (.n (.w z :: ts)) = match form? z ts with | some p => (exs? (ts.drop p.2)).map (.node p.1) | none => none:=by
  show nod (.w z :: ts) (exo (.w z :: ts)) = _
  rw [exo_map]
  unfold exs?
  show (match form? z ts with | some p => (alls ((ex? (.w z) :: ts.map ex?).drop (p.2 + 1))).map (Ex.node p.1) | none => none) = _
  cases form? z ts with
  | none => rfl
  | some p =>
    show (alls ((ts.map ex?).drop p.2)).map (Ex.node p.1) = (alls ((ts.drop p.2).map ex?)).map (Ex.node p.1)
    rw [List.map_drop]
theorem ex_none {ts:List Tr} (h:¬ ∃ z r,ts = .w z :: r):ex? (.n ts) = none:=by
  show nod ts (exo ts) = none
  match ts,h with
  | [],_ => rfl
  | .n _ :: _,_ => rfl
  | .w z :: r,h => exact absurd ⟨z,r,rfl⟩ h
noncomputable def knod (ts:List Tr) (os:List (Option Kd)):Option Kd:=match ts,os with
  | [.w z,a],_ => if z = "num" then (size? a).map Kd.num else none
  | [.w z,_,_],[_,k,l] => if z = "pair" then (match k,l with | some k,some l => some (.pair k l) | _,_ => none) else none
  | _,_ => none
mutual
noncomputable def kd?:Tr → Option Kd
  | .w z => (far? z).map fun p => .name p.1 p.2
  | .n ts => knod ts (kdo ts)
noncomputable def kdo:List Tr → List (Option Kd)
  | [] => []
  | t :: ts => kd? t :: kdo ts
end
theorem figs_numOf:∀ (n:Nat) (cs:List Nat),cs.length = n → NumTx cs → figs (numOf cs) = cs
  | 0,cs,hl,h => by
    obtain rfl:=List.eq_nil_of_length_eq_zero hl
    rcases h with h | ⟨_,_,h,_⟩ <;> cases h
  | 1,cs,hl,h => by
    match cs,hl with
    | [c],_ =>
      have hc:48 ≤ c ∧ c ≤ 57:=h.all.1 c (.head _)
      have e:numOf [c] = c - 48:=by
        unfold numOf
        show 0 * 10 + (c - 48) = _
        omega
      rw [e,figs_lt (by omega),show 48 + (c - 48) = c by omega]
  | n + 2,cs,hl,h => by
    have hne:cs ≠ []:=fun e => by rw [e] at hl; cases hl
    obtain ⟨xs,c,rfl⟩:∃ xs c,cs = xs ++ [c]:=⟨_,_,(List.dropLast_concat_getLast hne).symm⟩
    have hc:48 ≤ c ∧ c ≤ 57:=h.all.1 c (List.mem_append_right _ (.head _))
    have hxl:xs.length = n + 1:=by simpa using hl
    have hx:NumTx xs:=by
      rcases h with h | ⟨c0,r,e,h0,hr,hr2⟩
      · have:=congrArg List.length h
        rw [hl] at this
        simp at this
      · match xs,hxl,e with
        | x :: xs',_,e =>
          injection e with e1 e2
          subst e1
          exact .inr ⟨x,xs',rfl,h0,fun d hd => hr d (by rw [← e2]; exact List.mem_append_left _ hd),by rw [← e2] at hr2; have:=List.length_append (as:=xs') (bs:=[c]); have h3:(xs' ++ [c]).length ≤ 100:=hr2; omega⟩
    have ih:=figs_numOf (n + 1) xs hxl hx
    have pos:1 ≤ numOf xs:=by
      rcases Nat.eq_zero_or_pos (numOf xs) with z | z
      · rw [z] at ih
        have e0:figs 0 = [48]:=figs_lt (by decide)
        rw [e0] at ih
        rcases h with h | ⟨c0,r,e,h0,_⟩
        · have:=congrArg List.length h
          rw [hl] at this
          simp at this
        · rw [← ih] at e
          injection e with e1 e2
          omega
      · exact z
    rw [numOf_snoc,figs_ge (by omega),show (numOf xs * 10 + (c - 48)) / 10 = numOf xs by omega,ih,show 48 + (numOf xs * 10 + (c - 48)) % 10 = c by omega]
theorem inF_fig {c:Nat} (h:inF c = true):48 ≤ c ∧ c ≤ 57:=by
  unfold inF at h
  rw [StrLaws.found_one] at h
  have:c ∈ figT.cps.toList:=of_decide_eq_true h
  have all:∀ c ∈ figT.cps.toList,48 ≤ c ∧ c ≤ 57:=by decide +kernel
  exact all c this
theorem numOk_tx {z:Str} (h:numOk z = true):NumTx (cps z) ∧ z.length ≤ 19:=by
  unfold numOk at h
  rw [Bool.and_eq_true,Bool.and_eq_true,Bool.and_eq_true] at h
  obtain ⟨⟨⟨h1,h2⟩,h3⟩,h4⟩:=h
  have l1:=of_decide_eq_true h1
  have l2:=of_decide_eq_true h2
  have all:∀ c ∈ cps z,48 ≤ c ∧ c ≤ 57:=fun c hc => by
    unfold allF at h3
    rw [List.all_eq_true] at h3
    exact inF_fig (h3 (inF c) (List.mem_map_of_mem hc))
  refine ⟨?_,l2⟩
  have lz:=cps_len z
  have hh:z.cps.toList = cps z:=rfl
  rw [hh] at h4
  match e:cps z,all,h4 with
  | [],_,_ => rw [e] at lz; have:([]:List Nat).length = 0:=rfl; omega
  | c0 :: r,all,h4 =>
    by_cases c:c0 = 48
    · rw [Bool.or_eq_true] at h4
      rcases h4 with h4 | h4
      · have l:=of_decide_eq_true h4
        rw [e,List.length_cons] at lz
        have:r = []:=List.eq_nil_of_length_eq_zero (by omega)
        rw [this,c]
        exact .inl rfl
      · have h5:(!first0 c0) = true:=h4
        have f0:first0 48 = true:=by decide +kernel
        rw [c,f0] at h5
        cases h5
    · have h0:=all c0 (.head _)
      exact .inr ⟨c0,r,rfl,by omega,fun d hd => all d (.tail _ hd),by rw [e,List.length_cons] at lz; omega⟩
theorem numS_of {z:Str} (h:numOk z = true):numS (numOf (cps z)) = z:=by
  refine Tk.lst_inj ?_
  show cps (numS (numOf (cps z))) = cps z
  rw [show cps (numS (numOf (cps z))) = figs (numOf (cps z)) from figs_of _]
  exact figs_numOf _ _ rfl (numOk_tx h).1
theorem numb_is {t:Tr} {lo hi:Int} {n:Nat} (h:numb? t lo hi = some n):t = .w (numS n) ∧ lo ≤ (n:Int) ∧ (n:Int) ≤ hi:=by
  match t,h with
  | .w z,h =>
    simp only [numb?] at h
    split at h
    · rename_i c
      cases h
      exact ⟨by rw [numS_of c.1],c.2⟩
    · cases h
theorem size_is {t:Tr} {n:Nat} (h:size? t = some n):t = .w (numS n) ∧ 1 ≤ n ∧ n ≤ big:=by
  obtain ⟨h1,h2,h3⟩:=numb_is h
  exact ⟨h1,by omega,by show n ≤ 1000000000000000000; omega⟩
theorem name_is {t:Tr} {s:Str} (h:name? t = some s):t = .w s ∧ nameOk s = true:=by
  match t,h with
  | .w z,h =>
    simp only [name?] at h
    split at h
    · cases h
      exact ⟨rfl,by assumption⟩
    · cases h
theorem glue_one (c:Nat):∀ xs:List Nat,xs.flatMap (Tk.rep c [c]) = xs
  | [] => rfl
  | x :: xs => by
    rw [List.flatMap_cons,glue_one c xs]
    unfold Tk.rep
    split
    · rename_i e
      rw [e]
      rfl
    · rfl
theorem two_is {l:List Str} {p:Str × Str} (h:two? l = some p):l = [p.1,p.2] ∧ nameOk p.1 = true ∧ nameOk p.2 = true:=by
  match l,h with
  | [a,b],h =>
    simp only [two?] at h
    split at h
    · rename_i c
      cases h
      exact ⟨rfl,c⟩
    · cases h
theorem far_is {z:Str} {p:Str × Str} (h:far? z = some p):nearW p.1 p.2 = z ∧ nameOk p.2 = true ∧ (p.1 = "" ∨ nameOk p.1 = true):=by
  unfold far? at h
  split at h
  · rename_i c
    cases h
    exact ⟨if_pos rfl,c,.inl rfl⟩
  · obtain ⟨h1,h2,h3⟩:=two_is h
    refine ⟨Tk.lst_inj ?_,h3,.inr h2⟩
    show cps (nearW p.1 p.2) = cps z
    rw [near_cps (name_ne h2)]
    have e:(Txt.split z ⟨#[46]⟩).map Tk.lst = Tk.spl 46 (cps z):=Tk.split_lst z 46
    have e1:Txt.split z ⟨#[46]⟩ = [p.1,p.2]:=h1
    rw [e1] at e
    have g:=Tk.glue_spl 46 [46] (cps z)
    rw [← e,glue_one] at g
    rw [← g]
    show _ = Tk.glue [46] [cps p.1,cps p.2]
    rw [Tk.glue_cons (by simp)]
    show _ = cps p.1 ++ [46] ++ cps p.2
    simp
theorem inV_mem {z:Str} {ws:List Str} (h:inV (.str z) (ws.map V.str) = true):z ∈ ws:=by
  unfold inV at h
  rw [List.any_eq_true] at h
  obtain ⟨y,hy,e⟩:=h
  obtain ⟨s,hs,rfl⟩:=List.mem_map.mp hy
  have e':s = z:=by simpa [eqV] using e
  rw [← e']
  exact hs
theorem brs_is {z:Str} {k:Int} (h:numAtS brs z = some k):∃ n:Nat,k = n ∧ ((z = "if" ∧ n = 3) ∨ (z = "two" ∧ n = 2) ∨ (z = "first" ∧ n = 1) ∨ (z = "second" ∧ n = 1)):=by
  unfold numAtS at h
  obtain ⟨p,hp,rfl⟩:=Option.map_eq_some_iff.mp h
  have hm:=List.mem_of_find?_eq_some hp
  have hz:p.1 = z:=by
    have:=List.find?_some hp
    exact of_decide_eq_true this
  simp only [List.mem_cons,List.mem_nil_iff,or_false] at hm
  rcases hm with rfl | rfl | rfl | rfl
  · exact ⟨3,rfl,.inl ⟨hz.symm,rfl⟩⟩
  · exact ⟨2,rfl,.inr (.inl ⟨hz.symm,rfl⟩)⟩
  · exact ⟨1,rfl,.inr (.inr (.inl ⟨hz.symm,rfl⟩))⟩
  · exact ⟨1,rfl,.inr (.inr (.inr ⟨hz.symm,rfl⟩))⟩
theorem form_is {z:Str} {ts:List Tr} {p:Fm × Nat} (h:form? z ts = some p):(Tr.w z :: ts) = p.1.words.map Tr.w ++ ts.drop p.2 ∧ p.1.fits (ts.drop p.2).length:=by
  unfold form? at h
  split at h
  · rename_i c
    subst c
    match ts,h with
    | [a,b],h =>
      simp only [lit?] at h
      cases eb:size? b with
      | none => rw [eb] at h; cases h
      | some n =>
        rw [eb] at h
        obtain ⟨v,ev,rfl⟩:=Option.map_eq_some_iff.mp h
        obtain ⟨rfl,s1,s2⟩:=size_is eb
        obtain ⟨rfl,v1,v2⟩:=numb_is ev
        exact ⟨rfl,rfl,by omega,s2⟩
  split at h
  · rename_i c
    match ts,h with
    | [a,b,d],h =>
      obtain ⟨n,en,rfl⟩:=Option.map_eq_some_iff.mp h
      obtain ⟨rfl,s1,s2⟩:=size_is en
      have:=inV_mem (ws:=["+","-","*"]) c
      simp only [List.mem_cons,List.mem_nil_iff,or_false] at this
      exact ⟨rfl,rfl,this,s1,s2⟩
  split at h
  · rename_i c
    split at h
    · cases h
      have:=inV_mem (ws:=["=","<"]) c
      simp only [List.mem_cons,List.mem_nil_iff,or_false] at this
      exact ⟨rfl,by assumption,this⟩
    · cases h
  split at h
  · rename_i c
    subst c
    match ts,h with
    | [a,b],h =>
      obtain ⟨n,en,rfl⟩:=Option.map_eq_some_iff.mp h
      obtain ⟨rfl,s1,s2⟩:=size_is en
      exact ⟨rfl,rfl,s1,s2⟩
  split at h
  · rename_i c
    subst c
    match ts,h with
    | [a,b,d],h =>
      obtain ⟨s,en,rfl⟩:=Option.map_eq_some_iff.mp h
      obtain ⟨rfl,s1⟩:=name_is en
      exact ⟨rfl,rfl,s1⟩
  split at h
  · rename_i k ek
    split at h
    · rename_i c
      cases h
      obtain ⟨n,rfl,hn⟩:=brs_is ek
      have:ts.length = n:=by omega
      refine ⟨rfl,?_⟩
      rw [← this] at hn
      exact hn
    · cases h
  · unfold call? at h
    split at h
    · rename_i q eq
      split at h
      · rename_i c
        cases h
        obtain ⟨h1,h2,h3⟩:=far_is eq
        refine ⟨?_,c,h2,h3⟩
        show Tr.w z :: ts = [Tr.w (nearW q.1 q.2)] ++ ts
        rw [h1]
        rfl
      · cases h
    · cases h
theorem alls_is {α β:Type} {f:α → Option β}:∀ {l:List α} {r:List β},alls (l.map f) = some r → l.length = r.length ∧ ∀ (i:Nat) (a:α),l[i]? = some a → ∃ b,r[i]? = some b ∧ f a = some b
  | [],r,h => by cases h; exact ⟨rfl,fun i a e => by cases e⟩
  | a :: l,r,h => by
    rw [List.map_cons] at h
    cases ea:f a with
    | none => rw [ea] at h; cases h
    | some b =>
      rw [ea] at h
      obtain ⟨r',er,rfl⟩:=Option.map_eq_some_iff.mp h
      obtain ⟨h1,h2⟩:=alls_is er
      refine ⟨congrArg (· + 1) h1,fun i x e => ?_⟩
      cases i with
      | zero => cases e; exact ⟨b,rfl,ea⟩
      | succ i => exact h2 i x e
theorem alls_none {α β:Type} {f:α → Option β}:∀ {l:List α},alls (l.map f) = none → ∃ a ∈ l,f a = none
  | [],h => by cases h
  | a :: l,h => by
    rw [List.map_cons] at h
    cases ea:f a with
    | none => exact ⟨a,.head _,ea⟩
    | some b =>
      rw [ea] at h
      have:alls (l.map f) = none:=by
        cases e:alls (l.map f) with
        | none => rfl
        | some r => have h':(alls (l.map f)).map (b :: ·) = none:=h; rw [e] at h'; cases h'
      obtain ⟨x,hx,e⟩:=alls_none this
      exact ⟨x,.tail _ hx,e⟩
theorem alls_some {α β:Type} {f:α → Option β}:∀ {l:List α},(∀ a ∈ l,(f a).isSome = true) → ∃ r,alls (l.map f) = some r
  | [],_ => ⟨[],rfl⟩
  | a :: l,h => by
    obtain ⟨b,eb⟩:=Option.isSome_iff_exists.mp (h a (.head _))
    obtain ⟨r,er⟩:=alls_some fun x hx => h x (.tail _ hx)
    refine ⟨b :: r,?_⟩
    rw [List.map_cons,eb]
    show (alls (l.map f)).map (b :: ·) = _
    rw [er]
    rfl
theorem alls_isSome {α β:Type} {f:α → Option β} (l:List α):(alls (l.map f)).isSome = (l.map fun a => (f a).isSome).all id:=by
  cases e:alls (l.map f) with
  | none =>
    obtain ⟨a,ha,e⟩:=alls_none e
    refine (Bool.eq_false_iff.mpr fun z => ?_).symm
    rw [List.all_eq_true] at z
    have:=z _ (List.mem_map_of_mem (f:=fun a => (f a).isSome) ha)
    rw [e] at this
    cases this
  | some r =>
    obtain ⟨h1,h2⟩:=alls_is e
    refine (List.all_eq_true.mpr fun b hb => ?_).symm
    obtain ⟨a,ha,rfl⟩:=List.mem_map.mp hb
    obtain ⟨i,hi⟩:=List.mem_iff_getElem?.mp ha
    obtain ⟨b,_,eb⟩:=h2 i a hi
    show (f a).isSome = true
    rw [eb]
    rfl
theorem exs_of:∀ {ts:List Tr} {es:List Ex},(∀ t ∈ ts,∀ e,ex? t = some e → e.tr = t ∧ e.ok) → exs? ts = some es → trs es = ts ∧ eoks es
  | [],es,_,h => by cases h; exact ⟨rfl,True.intro⟩
  | t :: ts,es,ih,h => by
    unfold exs? at h
    rw [List.map_cons] at h
    cases et:ex? t with
    | none => rw [et] at h; cases h
    | some e =>
      rw [et] at h
      obtain ⟨r,er,rfl⟩:=Option.map_eq_some_iff.mp h
      obtain ⟨h1,h2⟩:=exs_of (ts:=ts) (es:=r) (fun u hu => ih u (.tail _ hu)) er
      obtain ⟨g1,g2⟩:=ih t (.head _) e et
      refine ⟨?_,g2,h2⟩
      show e.tr :: trs r = t :: ts
      rw [g1,h1]
theorem ex_node_is {ts:List Tr} {e:Ex} (ih:∀ t ∈ ts,∀ e,ex? t = some e → e.tr = t ∧ e.ok) (h:ex? (.n ts) = some e):e.tr = .n ts ∧ e.ok:=by
  match ts,ih,h with
  | [],_,h => cases h
  | .n _ :: _,_,h => cases h
  | .w z :: r,ih,h =>
    rw [ex_node] at h
    cases ef:form? z r with
    | none => rw [ef] at h; cases h
    | some p =>
      rw [ef] at h
      obtain ⟨es,ee,rfl⟩:=Option.map_eq_some_iff.mp h
      obtain ⟨f1,f2⟩:=form_is ef
      obtain ⟨h1,h2⟩:=exs_of (fun t ht => ih t (.tail _ (List.mem_of_mem_drop ht))) ee
      refine ⟨?_,?_,h2⟩
      · show Tr.n (p.1.words.map Tr.w ++ trs es) = _
        rw [h1,f1]
      · rw [← trs_len,h1]
        exact f2
mutual
theorem ex_is:∀ (t:Tr) (e:Ex),ex? t = some e → e.tr = t ∧ e.ok
  | .w z,e,h => by
    have h':(if nameOk z = true then some (Ex.var z) else none) = some e:=h
    split at h'
    · cases h'
      exact ⟨rfl,by assumption⟩
    · cases h'
  | .n ts,e,h => ex_node_is (exl_is ts) h
theorem exl_is:∀ (ts:List Tr),∀ t ∈ ts,∀ e,ex? t = some e → e.tr = t ∧ e.ok
  | [],t,h,_,_ => nomatch h
  | u :: ts,t,h,e,q => by
    rcases List.mem_cons.mp h with z | z
    · rw [z] at q ⊢
      exact ex_is u e q
    · exact exl_is ts t z e q
end
theorem kd_num {z:Str} {a:Tr}:kd? (.n [.w z,a]) = if z = "num" then (size? a).map Kd.num else none:=rfl
theorem kd_pair {z:Str} {a b:Tr}:kd? (.n [.w z,a,b]) = if z = "pair" then (match kd? a,kd? b with | some k,some l => some (.pair k l) | _,_ => none) else none:=rfl
theorem kd_none {ts:List Tr} (h:¬ ((∃ a,ts = [.w "num",a]) ∨ ∃ a b,ts = [.w "pair",a,b])):kd? (.n ts) = none:=by
  match ts,h with
  | [],_ => rfl
  | .n _ :: _,_ => rfl
  | [.w z],_ => rfl
  | [.w z,a],h =>
    rw [kd_num,if_neg]
    rintro rfl
    exact h (.inl ⟨a,rfl⟩)
  | [.w z,a,b],h =>
    rw [kd_pair,if_neg]
    rintro rfl
    exact h (.inr ⟨a,b,rfl⟩)
  | .w z :: a :: b :: c :: r,_ => rfl
theorem kd_node_is {ts:List Tr} {k:Kd} (ih:∀ t ∈ ts,∀ k,kd? t = some k → k.tr = t ∧ k.ok) (h:kd? (.n ts) = some k):k.tr = .n ts ∧ k.ok:=by
  by_cases c:(∃ a,ts = [.w "num",a]) ∨ ∃ a b,ts = [.w "pair",a,b]
  · rcases c with ⟨a,rfl⟩ | ⟨a,b,rfl⟩
    · rw [kd_num,if_pos rfl] at h
      obtain ⟨n,en,rfl⟩:=Option.map_eq_some_iff.mp h
      obtain ⟨rfl,s1,s2⟩:=size_is en
      exact ⟨rfl,s1,s2⟩
    · rw [kd_pair,if_pos rfl] at h
      cases ea:kd? a with
      | none => rw [ea] at h; cases h
      | some k1 =>
        cases eb:kd? b with
        | none => rw [ea,eb] at h; cases h
        | some l1 =>
          rw [ea,eb] at h
          cases h
          obtain ⟨a1,a2⟩:=ih a (.tail _ (.head _)) _ ea
          obtain ⟨b1,b2⟩:=ih b (.tail _ (.tail _ (.head _))) _ eb
          exact ⟨by show Tr.n [.w "pair",k1.tr,l1.tr] = _; rw [a1,b1],a2,b2⟩
  · rw [kd_none c] at h
    cases h
mutual
theorem kd_is:∀ (t:Tr) (k:Kd),kd? t = some k → k.tr = t ∧ k.ok
  | .w z,k,h => by
    have h':(far? z).map (fun p => Kd.name p.1 p.2) = some k:=h
    obtain ⟨p,ep,rfl⟩:=Option.map_eq_some_iff.mp h'
    obtain ⟨h1,h2,h3⟩:=far_is ep
    exact ⟨by show Tr.w (nearW p.1 p.2) = _; rw [h1],h2,h3⟩
  | .n ts,k,h => kd_node_is (kdl_is ts) h
theorem kdl_is:∀ (ts:List Tr),∀ t ∈ ts,∀ k,kd? t = some k → k.tr = t ∧ k.ok
  | [],t,h,_,_ => nomatch h
  | u :: ts,t,h,k,q => by
    rcases List.mem_cons.mp h with z | z
    · rw [z] at q ⊢
      exact kd_is u k q
    · exact kdl_is ts t z k q
end
theorem alls_snoc {α:Type}:∀ {l:List (Option α)} {r:List α} {o:Option α} {b:α},alls l = some r → o = some b → alls (l ++ [o]) = some (r ++ [b])
  | [],r,o,b,h,e => by cases h; rw [e]; rfl
  | none :: l,r,o,b,h,e => by cases h
  | some a :: l,r,o,b,h,e => by
    obtain ⟨r',er,rfl⟩:=Option.map_eq_some_iff.mp (show (alls l).map (a :: ·) = some r from h)
    show (alls (l ++ [o])).map (a :: ·) = _
    rw [alls_snoc er e]
    rfl
theorem exs_snoc {ts:List Tr} {es:List Ex} {t:Tr} {e:Ex} (h:exs? ts = some es) (he:ex? t = some e):exs? (ts ++ [t]) = some (es ++ [e]):=by
  unfold exs?
  rw [List.map_append]
  exact alls_snoc h he
theorem exs_no {ts:List Tr} {t:Tr} (hm:t ∈ ts) (he:ex? t = none):exs? ts = none:=by
  cases e:exs? ts with
  | none => rfl
  | some es =>
    obtain ⟨i,hi⟩:=List.mem_iff_getElem?.mp hm
    obtain ⟨b,_,eb⟩:=(alls_is e).2 i t hi
    rw [he] at eb
    cases eb
end K18
namespace K18
open PySem L2
noncomputable abbrev Rf (CF:Addr) (E:XK) (H:Hp):Prop:=∀ H',Same H H' → E (.ref CF) none H'
theorem Rf.same {CF:Addr} {E:XK} {H H':Hp} (r:Rf CF E H) (s:Same H H'):Rf CF E H':=fun H2 s2 => r H2 (s.trans s2)
noncomputable def Brk (t:Tr) (m:Int) (v:V):Prop:=∃ ts,t = .n ts ∧ m ≤ ts.length ∧ ∀ j,v = .int j → (ts.length:Int) ≤ j
noncomputable def spSingle (K:PySem.W.Frag) (CF:Addr):Sp:=fun vs H Q E => ∃ (p:Addr) (xs:List V),vs = [.ref p] ∧ SqL K H p xs ∧ xs.length ≤ 300 ∧ (∀ x,xs = [x] → Q x H) ∧ (xs.length ≠ 1 → Rf CF E H)
noncomputable def spBracket (K:PySem.W.Frag) (CF:Addr):Sp:=fun vs H Q E => ∃ (x:V) (t:Tr) (m:Int) (v:V),vs = [x,.int m,v] ∧ TrAt K H x t ∧ Sm t ∧ (v = .non ∨ ∃ j:Int,v = .int j) ∧ (Brk t m v → Q x H) ∧ (¬ Brk t m v → Rf CF E H)
noncomputable def spAhead (K:PySem.W.Frag) (CF:Addr):Sp:=fun vs H Q E => ∃ (x:V) (t:Tr),vs = [x] ∧ TrAt K H x t ∧ Sm t ∧ (∀ z ts,t = .n (.w z :: ts) → Q (.str z) H) ∧ ((∀ z ts,t ≠ .n (.w z :: ts)) → Rf CF E H)
noncomputable def spNameOf (K:PySem.W.Frag) (CF:Addr):Sp:=fun vs H Q E => ∃ (x:V) (t:Tr),vs = [x] ∧ TrAt K H x t ∧ Sm t ∧ (∀ z,name? t = some z → ∀ H',Same H H' → Q (.str z) H') ∧ (name? t = none → Rf CF E H)
noncomputable def spNumberOf (K:PySem.W.Frag) (CF:Addr):Sp:=fun vs H Q E => ∃ (x:V) (t:Tr) (lo hi:Int),vs = [x,.int lo,.int hi] ∧ TrAt K H x t ∧ Sm t ∧ (0 ≤ lo ∧ lo ≤ 1000000000000000000 ∧ 0 ≤ hi ∧ hi ≤ 1000000000000000000) ∧ (∀ n,numb? t lo hi = some n → ∀ H',Same H H' → Q (.int (n:Nat)) H') ∧ (numb? t lo hi = none → Rf CF E H)
noncomputable def spSizeOf (K:PySem.W.Frag) (CF:Addr):Sp:=fun vs H Q E => ∃ (x:V) (t:Tr),vs = [x] ∧ TrAt K H x t ∧ Sm t ∧ (∀ n,size? t = some n → ∀ H',Same H H' → Q (.int (n:Nat)) H') ∧ (size? t = none → Rf CF E H)
noncomputable def spNearFar (K:PySem.W.Frag) (CF:Addr):Sp:=fun vs H Q E => ∃ z:Str,vs = [.str z] ∧ z.length ≤ 25 ∧ PyData.strOk z = true ∧ (∀ p,far? z = some p → ∀ H' (a:Addr),Same H H' → H' a = some (.tup [.str p.1,.str p.2]) → Q (.ref a) H') ∧ (far? z = none → Rf CF E H)
theorem spl_len (c:Nat):∀ xs:List Nat,(Tk.spl c xs).length ≤ xs.length + 1 ∧ ∀ p ∈ Tk.spl c xs,p.length ≤ xs.length
  | [] => ⟨Nat.le_refl _,fun p hp => by rw [List.mem_singleton.mp (show p ∈ [[]] from hp)]; exact Nat.le_refl _⟩
  | a :: r => by
    obtain ⟨h1,h2⟩:=spl_len c r
    rw [Tk.spl]
    split
    · refine ⟨by rw [List.length_cons,List.length_cons]; omega,fun p hp => ?_⟩
      rcases List.mem_cons.mp hp with rfl | z
      · exact Nat.zero_le _
      · have:=h2 p z
        rw [List.length_cons]
        omega
    · cases e:Tk.spl c r with
      | nil => exact absurd e (Tk.spl_ne c r)
      | cons q qs =>
        rw [e] at h1 h2
        have e1:(q :: qs).length = qs.length + 1:=rfl
        have e2:((a :: q) :: qs).length = qs.length + 1:=rfl
        have e3:(a :: r).length = r.length + 1:=rfl
        refine ⟨by show ((a :: q) :: qs).length ≤ _; omega,fun p hp => ?_⟩
        rcases List.mem_cons.mp hp with rfl | z
        · have:=h2 q (.head _)
          rw [List.length_cons,List.length_cons]
          omega
        · have:=h2 p (.tail _ z)
          rw [List.length_cons]
          omega
theorem dot_split (z:Str):(Txt.split z ".").length ≤ z.length + 1 ∧ ∀ s ∈ Txt.split z ".",s.length ≤ z.length:=by
  have e:(Txt.split z ⟨#[46]⟩).map Tk.lst = Tk.spl 46 (cps z):=Tk.split_lst z 46
  obtain ⟨h1,h2⟩:=spl_len 46 (cps z)
  rw [← e,List.length_map,cps_len] at h1
  refine ⟨h1,fun s hs => ?_⟩
  have:=h2 (Tk.lst s) (by rw [← e]; exact List.mem_map_of_mem hs)
  have e2:(Tk.lst s).length = s.length:=cps_len s
  have e3:(cps z).length = z.length:=cps_len z
  omega
theorem len_num {i:Int} (h0:0 ≤ i) (h1:i ≤ 1000000000000000000):(Str.ofString (toString i)).length ≤ 2000000 ∧ i.natAbs.log2 < 1920:=by
  refine ⟨Nat.le_trans (PyProof.Rows.toString_length_le h0 (k:=19) (by decide) (by omega)) (by decide),?_⟩
  rcases Nat.eq_zero_or_pos i.natAbs with z | z
  · rw [z]
    decide
  · exact Nat.lt_of_lt_of_le ((Nat.log2_lt (by omega)).mpr (Nat.lt_of_le_of_lt (show i.natAbs ≤ 10 ^ 18 by omega) (show 10 ^ 18 < 2 ^ 60 by decide))) (by decide)
section
variable {P:Program} {w:World} {K:PySem.W.Frag} {mg:Str → Option Value} {base:Heap}
theorem r1 (y:Str):([V.str y]:List V).length ≤ sizeLine:=by show 1 ≤ sizeLine; decide
theorem scSingle:FnScope ["trees","count"] ["trees"] (defScope sSingle):=⟨rfl,rfl,rfl,by decide +kernel,rfl,by decide +kernel,by decide +kernel⟩
theorem ok_single {f CF:Addr} {fd:FuncData} (F:Fun K "single" "single" sSingle f fd) (ml:mg "len" = none) (mF:mg "NoForm" = some (.ref CF)) (xF:PySem.W.excIn K CF bmVE "ValueError.__new__" = true):FnOk P w K mg base (CX1 P w) 1 f fd ["trees"] (spSingle K CF):=by
  refine F.okX scSingle (fun vs H Q E h => ?_) (fun cdv A outer s H vs Q E hr h => ?_)
  · obtain ⟨p,xs,rfl,_⟩:=h
    rfl
  obtain ⟨p,xs,rfl,hp,hl,q,qE⟩:=h
  refine ⟨_,pss_cons (ps_if (pt_cmpR op_ne (pe_callB call_len_seq rfl ml PySem.boot_len (pa_cons (pv 0) pa_nil)) pe_int (nomark _)) (pss_cons (ps_set (i:=1) scSingle.nd rfl (Or.inl rfl) (pe_callB call_len_seq rfl ml PySem.boot_len (pa_cons (pv 0) pa_nil))) (pss_one (ps_raise1 rfl mF xF (pa_cons (pe_fstr (pj_cons pe_str (pj_cons (pe_fv (pv 1)) pj_nil)) (by decide)) pa_nil)))) pss_nil)
    (pss_one (ps_ret (pe_ix ix_list (pv 0) pe_int (fun _ _ => rfl)))),?_⟩
  refine ⟨_,rfl,p,_,rfl,.inl hp,rfl,_,rfl,ite2 (fun c => ?_) (fun c => ?_)⟩
  · have hn:xs.length ≠ 1:=fun e => by rw [e] at c; exact absurd c (by decide)
    obtain ⟨l1,l2⟩:=len_num (i:=(xs.length:Int)) (by omega) (by omega)
    exact ⟨_,rfl,p,_,rfl,.inl hp,_,rfl,by decide +kernel,_,rfl,.inr ⟨_,rfl,l2,_,rfl,l1,fun zz _ => ⟨r1 zz,qE hn _ (Same.refl _)⟩⟩⟩
  · have h1:xs.length = 1:=Decidable.byContradiction fun e => c (by
      show (!decide (V.int (xs.length:Int) = V.int 1)) = true
      rw [decide_eq_false (fun z => e (by have:=V.int.inj z; omega))]
      rfl)
    match xs,h1,hp,q with
    | [x],_,hp,q => exact ⟨_,rfl,p,_,_,x,rfl,rfl,hp,rfl,q x rfl⟩
theorem scBracket:FnScope ["tree","least","most"] ["tree","least","most"] (defScope sBracket):=⟨rfl,rfl,rfl,by decide +kernel,rfl,by decide +kernel,by decide +kernel⟩
theorem ok_bracket {f CF:Addr} {fd:FuncData} (F:Fun K "bracket" "bracket" sBracket f fd) (ml:mg "len" = none) (mi:mg "isinstance" = none) (mt:mg "tuple" = none) (mF:mg "NoForm" = some (.ref CF)) (xF:PySem.W.excIn K CF bmVE "ValueError.__new__" = true) :
    FnOk P w K mg base (CX1 P w) 1 f fd ["tree","least","most"] (spBracket K CF):=by
  refine F.okX scBracket (fun vs H Q E h => ?_) (fun cdv A outer s H vs Q E hr h => ?_)
  · obtain ⟨x,t,m,v,rfl,_⟩:=h
    rfl
  obtain ⟨x,t,m,v,rfl,hx,sm,hv,q,qE⟩:=h
  obtain ⟨d,n,hd,hs,hn⟩:=sm.shown hx
  refine ⟨_,pss_cons (ps_if (pt_not (pt_val (pe_callB call_isi rfl mi bootIsi (pa_cons (pv 0) (pa_cons (pe_bltn rfl mt bootTuple (v:=.ty "tuple") rfl) pa_nil))))) (pss_one (ps_raise1 rfl mF xF (pa_cons (pe_fstr (pj_cons pe_str (pj_cons (pe_frD hr (pv 0)) pj_nil)) (by decide)) pa_nil))) pss_nil)
    (pss_cons (ps_if (PW.pt (pw_or (pt_cmpR op_lt (pe_callB call_len_seq rfl ml PySem.boot_len (pa_cons (pv 0) pa_nil)) (pv 1) (nomark _)) (pw_or1 (PW.pt (pw_and (pt_cmpR op_notN (pv 2) pe_non (nomark _)) (pw_and1 (pt_cmpR op_gt (pe_callB call_len_seq rfl ml PySem.boot_len (pa_cons (pv 0) pa_nil)) (pv 2) (nomark _)))))))) (pss_one (ps_raise1 rfl mF xF (pa_cons (pe_fstr (pj_cons pe_str (pj_cons (pe_frD hr (pv 0)) pj_nil)) (by decide)) pa_nil))) pss_nil)
    (pss_one (ps_ret (pv 0)))),?_⟩
  cases hx with
  | w z =>
    refine ⟨_,rfl,.str z,"tuple",_,false,rfl,.str _,kit_st K,false,rfl,iteT ?_⟩
    exact ⟨_,rfl,by decide +kernel,_,rfl,d,n,hd,hs,hn,fun y hy => ⟨y,rfl,hy,fun zz _ => ⟨r1 zz,qE (fun ⟨ts,e,_⟩ => by cases e) _ (Same.refl _)⟩⟩⟩
  | @n p xs ts hp hxs =>
    have xl:=hxs.length
    refine ⟨_,rfl,.ref p,"tuple",_,true,rfl,.tup hp,kit_tt K,true,rfl,iteF ?_⟩
    refine ⟨_,rfl,p,_,rfl,.inr (SqT.of hp),_,rfl,_,_,rfl,rfl,_,rfl,ite2 (fun c => iteT ?_) (fun c => ?_)⟩
    · have c':=of_decide_eq_true c
      exact ⟨_,rfl,by decide +kernel,_,rfl,d,n,hd,hs,hn,fun y hy => ⟨y,rfl,hy,fun zz _ => ⟨r1 zz,qE (fun ⟨ts',e,h1,_⟩ => by cases e; omega) _ (Same.refl _)⟩⟩⟩
    · have c':¬ ((xs.length:Int) < m):=fun z => c (decide_eq_true z)
      rcases hv with rfl | ⟨j,rfl⟩
      · exact ⟨_,rfl,rfl,_,rfl,iteF (iteF ⟨_,rfl,q ⟨ts,rfl,by omega,fun j e => by cases e⟩⟩)⟩
      · refine ⟨_,rfl,rfl,_,rfl,iteT ⟨_,rfl,p,_,rfl,.inr (SqT.of hp),_,rfl,_,_,rfl,rfl,_,rfl,ite2 (fun c2 => ?_) (fun c2 => ⟨_,rfl,q ⟨ts,rfl,by omega,fun i e => ?_⟩⟩)⟩⟩
        · have c3:=of_decide_eq_true c2
          exact ⟨_,rfl,by decide +kernel,_,rfl,d,n,hd,hs,hn,fun y hy => ⟨y,rfl,hy,fun zz _ => ⟨r1 zz,qE (fun ⟨ts',e,_,h2⟩ => by cases e; have:=h2 j rfl; omega) _ (Same.refl _)⟩⟩⟩
        · cases e
          have c3:¬ (j < (xs.length:Int)):=fun z => c2 (decide_eq_true z)
          omega
theorem scAhead:FnScope ["tree","ahead"] ["tree"] (defScope sAhead):=⟨rfl,rfl,rfl,by decide +kernel,rfl,by decide +kernel,by decide +kernel⟩
theorem ok_ahead {f fb CF:Addr} {fd fdb:FuncData} (F:Fun K "word_ahead" "word_ahead" sAhead f fd)
    (GB:FnOk P w K mg base (CX1 P w) 1 fb fdb ["tree","least","most"] (spBracket K CF)) (bB:Binds K fdb ["tree","least","most"] []) (kB:PySem.W.keepIn K (.ref fb) = true) (mB:mg "bracket" = some (.ref fb))
    (mi:mg "isinstance" = none) (ms:mg "str" = none) (mF:mg "NoForm" = some (.ref CF)) (xF:PySem.W.excIn K CF bmVE "ValueError.__new__" = true):FnOk P w K mg base (CX1 P w) 2 f fd ["tree"] (spAhead K CF):=by
  refine F.okX scAhead (fun vs H Q E h => ?_) (fun cdv A outer s H vs Q E hr h => ?_)
  · obtain ⟨x,t,rfl,_⟩:=h
    rfl
  obtain ⟨x,t,rfl,hx,sm,q,qE⟩:=h
  obtain ⟨d,n,hd,hs,hn⟩:=sm.shown hx
  refine ⟨_,pss_cons (ps_set (i:=1) scAhead.nd rfl (Or.inl rfl) (pe_ix ix_tup (pe_call GB hr rfl mB kB bB .nil pass1 (pa_cons (pv 0) (pa_cons pe_int (pa_cons pe_non pa_nil)))) pe_int (fun _ _ => rfl)))
    (pss_cons (ps_if (pt_not (pt_val (pe_callB call_isi rfl mi bootIsi (pa_cons (pv 1) (pa_cons (pe_bltn rfl ms bootStr (v:=.ty "str") rfl) pa_nil))))) (pss_one (ps_raise1 rfl mF xF (pa_cons (pe_fstr (pj_cons pe_str (pj_cons (pe_frD hr (pv 0)) pj_nil)) (by decide)) pa_nil))) pss_nil)
    (pss_one (ps_ret (pv 1)))),?_⟩
  refine ⟨_,rfl,x,t,1,.non,rfl,hx,sm,.inl rfl,?_,fun nb => qE fun z ts e => nb ⟨_,e,by rw [List.length_cons]; omega,fun j e => by cases e⟩⟩
  rintro ⟨ts,rfl,hl,_⟩
  cases hx with
  | @n p xs _ hp hxs =>
    match ts,xs,hl,hxs,hp with
    | [],_,hl,_,_ => exact absurd hl (by decide)
    | u :: r,y :: ys,_,.cons hy hr',hp =>
      refine ⟨p,_,_,y,rfl,rfl,SqT.of hp,?_,?_⟩
      · have:atI (y :: ys) ((0:Nat):Int) = some y:=atI_nat rfl
        exact this
      · cases hy with
        | w z => exact ⟨_,rfl,.str z,"str",_,true,rfl,.str z,kit_ss K,true,rfl,iteF ⟨_,rfl,q z r rfl⟩⟩
        | @n a us vs ha hus =>
          refine ⟨_,rfl,.ref a,"str",_,false,rfl,.tup ha,kit_ts K,false,rfl,iteT ?_⟩
          exact ⟨_,rfl,by decide +kernel,_,rfl,d,n,hd,hs,hn,fun y hy => ⟨y,rfl,hy,fun zz _ => ⟨r1 zz,qE (fun z ts e => by cases e) _ (Same.refl _)⟩⟩⟩
theorem scNameOf:FnScope ["tree"] ["tree"] (defScope sNameOf):=⟨rfl,rfl,rfl,by decide +kernel,rfl,by decide +kernel,by decide +kernel⟩
theorem ok_nameOf {f fn CF:Addr} {fd fdn:FuncData} (F:Fun K "name_of_tree" "name_of_tree" sNameOf f fd)
    (GN:FnOk P w K mg base CX0 1 fn fdn ["word"] spName) (bN:Binds K fdn ["word"] []) (kN:PySem.W.keepIn K (.ref fn) = true) (mN:mg "is_name" = some (.ref fn))
    (mi:mg "isinstance" = none) (ms:mg "str" = none) (mF:mg "NoForm" = some (.ref CF)) (xF:PySem.W.excIn K CF bmVE "ValueError.__new__" = true):FnOk P w K mg base (CX1 P w) 2 f fd ["tree"] (spNameOf K CF):=by
  refine F.okX scNameOf (fun vs H Q E h => ?_) (fun cdv A outer s H vs Q E hr h => ?_)
  · obtain ⟨x,t,rfl,_⟩:=h
    rfl
  obtain ⟨x,t,rfl,hx,sm,q,qE⟩:=h
  have sh:∀ H',Same H H' → ∃ d n,Dat K H' x d ∧ Shw d n 60 ∧ n ≤ 2000000:=fun H' s => sm.shown (hx.same s)
  refine ⟨_,pss_cons (ps_if (PW.pt (pw_or (pt_not (pt_val (pe_callB call_isi rfl mi bootIsi (pa_cons (pv 0) (pa_cons (pe_bltn rfl ms bootStr (v:=.ty "str") rfl) pa_nil))))) (pw_or1 (pt_not (pt_val (pe_call GN hr rfl mN kN bN .nil pass0 (pa_cons (pv 0) pa_nil))))))) (pss_one (ps_raise1 rfl mF xF (pa_cons (pe_fstr (pj_cons pe_str (pj_cons (pe_frD hr (pv 0)) pj_nil)) (by decide)) pa_nil))) pss_nil)
    (pss_one (ps_ret (pv 0))),?_⟩
  cases hx with
  | @n a us vs ha hus =>
    obtain ⟨d,n,hd,hs,hn⟩:=sh H (Same.refl _)
    refine ⟨_,rfl,.ref a,"str",_,false,rfl,.tup ha,kit_ts K,false,rfl,iteT (iteT ?_)⟩
    exact ⟨_,rfl,by decide +kernel,_,rfl,d,n,hd,hs,hn,fun y hy => ⟨y,rfl,hy,fun zz _ => ⟨r1 zz,qE rfl _ (Same.refl _)⟩⟩⟩
  | w z =>
    have zl:=sm.word.1
    refine ⟨_,rfl,.str z,"str",_,true,rfl,.str _,kit_ss K,true,rfl,iteF ⟨_,rfl,z,rfl,by omega,fun H1 s1 => ?_⟩⟩
    cases e:nameOk z with
    | true => exact ⟨true,rfl,iteF ⟨_,rfl,q z (if_pos e) _ s1⟩⟩
    | false =>
      obtain ⟨d,n,hd,hs,hn⟩:=sh H1 s1
      refine ⟨false,rfl,iteT ?_⟩
      exact ⟨_,rfl,by decide +kernel,_,rfl,d,n,hd,hs,hn,fun y hy => ⟨y,rfl,hy,fun zz _ => ⟨r1 zz,qE (if_neg (by rw [e]; decide)) _ s1⟩⟩⟩
theorem scNumberOf:FnScope ["tree","least","most","number"] ["tree","least","most"] (defScope sNumberOf):=⟨rfl,rfl,rfl,by decide +kernel,rfl,by decide +kernel,by decide +kernel⟩
theorem ok_numberOf {f fn CF:Addr} {fd fdn:FuncData} (F:Fun K "number_of_tree" "number_of_tree" sNumberOf f fd)
    (GN:FnOk P w K mg base CX0 1 fn fdn ["word"] spNum) (bN:Binds K fdn ["word"] []) (kN:PySem.W.keepIn K (.ref fn) = true) (mN:mg "is_number" = some (.ref fn))
    (mi:mg "isinstance" = none) (ms:mg "str" = none) (mI:mg "int" = none) (mF:mg "NoForm" = some (.ref CF)) (xF:PySem.W.excIn K CF bmVE "ValueError.__new__" = true):FnOk P w K mg base (CX1 P w) 2 f fd ["tree","least","most"] (spNumberOf K CF):=by
  refine F.okX scNumberOf (fun vs H Q E h => ?_) (fun cdv A outer s H vs Q E hr h => ?_)
  · obtain ⟨x,t,lo,hi,rfl,_⟩:=h
    rfl
  obtain ⟨x,t,lo,hi,rfl,hx,sm,⟨b1,b2,b3,b4⟩,q,qE⟩:=h
  have sh:∀ H',Same H H' → ∃ d n,Dat K H' x d ∧ Shw d n 60 ∧ n ≤ 2000000:=fun H' s => sm.shown (hx.same s)
  refine ⟨_,pss_cons (ps_if (PW.pt (pw_or (pt_not (pt_val (pe_callB call_isi rfl mi bootIsi (pa_cons (pv 0) (pa_cons (pe_bltn rfl ms bootStr (v:=.ty "str") rfl) pa_nil))))) (pw_or1 (pt_not (pt_val (pe_call GN hr rfl mN kN bN .nil pass0 (pa_cons (pv 0) pa_nil))))))) (pss_one (ps_raise1 rfl mF xF (pa_cons (pe_fstr (pj_cons pe_str (pj_cons (pe_frD hr (pv 0)) pj_nil)) (by decide)) pa_nil))) pss_nil)
    (pss_cons (ps_set (i:=3) scNumberOf.nd rfl (Or.inl rfl) (pe_callTy call_intT rfl mI bootInt (pa_cons (pv 0) pa_nil)))
    (pss_cons (ps_if (PW.pt (pw_or (pt_cmpR op_lt (pv 3) (pv 1) (nomark _)) (pw_or1 (pt_cmpR op_gt (pv 3) (pv 2) (nomark _))))) (pss_one (ps_raise1 rfl mF xF (pa_cons (pe_fstr (pj_cons pe_str (pj_cons (pe_fv (pv 1)) (pj_cons pe_str (pj_cons (pe_fv (pv 2)) (pj_cons pe_str (pj_cons (pe_fv (pv 0)) pj_nil)))))) (by decide)) pa_nil))) pss_nil)
    (pss_one (ps_ret (pv 3))))),?_⟩
  cases hx with
  | @n a us vs ha hus =>
    obtain ⟨d,n,hd,hs,hn⟩:=sh H (Same.refl _)
    refine ⟨_,rfl,.ref a,"str",_,false,rfl,.tup ha,kit_ts K,false,rfl,iteT (iteT ?_)⟩
    exact ⟨_,rfl,by decide +kernel,_,rfl,d,n,hd,hs,hn,fun y hy => ⟨y,rfl,hy,fun zz _ => ⟨r1 zz,qE rfl _ (Same.refl _)⟩⟩⟩
  | w z =>
    have zl:=sm.word.1
    refine ⟨_,rfl,.str z,"str",_,true,rfl,.str _,kit_ss K,true,rfl,iteF ⟨_,rfl,z,rfl,by omega,fun H1 s1 => ?_⟩⟩
    cases e:numOk z with
    | false =>
      obtain ⟨d,n,hd,hs,hn⟩:=sh H1 s1
      refine ⟨false,rfl,iteT ?_⟩
      exact ⟨_,rfl,by decide +kernel,_,rfl,d,n,hd,hs,hn,fun y hy => ⟨y,rfl,hy,fun zz _ => ⟨r1 zz,qE (if_neg (by rw [e]; intro c; exact absurd c.1 (by decide))) _ s1⟩⟩⟩
    | true =>
      obtain ⟨x1,x2⟩:=numOk_tx e
      refine ⟨true,rfl,iteF ⟨_,rfl,z,rfl,x1,?_⟩⟩
      have bad:¬ (lo ≤ (numOf (cps z):Int) ∧ (numOf (cps z):Int) ≤ hi) → ∃ v,([some (V.str z),some (V.int lo),some (V.int hi),some (V.int (numOf (cps z)))]:St)[1]? = some (some v) ∧ v = .int lo ∧ E (.ref CF) none H1:=fun c => ⟨_,rfl,rfl,qE (if_neg fun c2 => c c2.2) _ s1⟩
      obtain ⟨a1,a2⟩:=len_num b1 b2
      obtain ⟨a3,a4⟩:=len_num b3 b4
      have rs:¬ (lo ≤ (numOf (cps z):Int) ∧ (numOf (cps z):Int) ≤ hi) → E (.ref CF) none H1:=fun c => qE (if_neg fun c2 => c c2.2) _ s1
      refine ⟨_,rfl,_,rfl,_,_,rfl,rfl,_,rfl,ite2 (fun c => iteT ?_) (fun c => ⟨_,rfl,_,rfl,_,_,rfl,rfl,_,rfl,ite2 (fun c2 => ?_) (fun c2 => ⟨_,rfl,?_⟩)⟩)⟩
      · have c':=of_decide_eq_true c
        exact ⟨_,rfl,by decide +kernel,_,rfl,.inr ⟨lo,rfl,a2,_,rfl,a1,_,rfl,by decide +kernel,_,rfl,.inr ⟨hi,rfl,a4,_,rfl,a3,_,rfl,by decide +kernel,_,rfl,.inl ⟨z,rfl,small (by omega),z,rfl,by omega,fun zz _ => ⟨r1 zz,rs fun d => by have:=d.1; have c2:(numOf (cps z):Int) < lo:=c'; omega⟩⟩⟩⟩⟩
      · have c':=of_decide_eq_true c2
        exact ⟨_,rfl,by decide +kernel,_,rfl,.inr ⟨lo,rfl,a2,_,rfl,a1,_,rfl,by decide +kernel,_,rfl,.inr ⟨hi,rfl,a4,_,rfl,a3,_,rfl,by decide +kernel,_,rfl,.inl ⟨z,rfl,small (by omega),z,rfl,by omega,fun zz _ => ⟨r1 zz,rs fun d => by have:=d.2; have c2:hi < (numOf (cps z):Int):=c'; omega⟩⟩⟩⟩⟩
      · have d1:¬ ((numOf (cps z):Int) < lo):=fun y => c (decide_eq_true y)
        have d2:¬ (hi < (numOf (cps z):Int)):=fun y => c2 (decide_eq_true y)
        exact q _ (if_pos ⟨e,by omega,by omega⟩) _ s1
theorem scSizeOf:FnScope ["tree"] ["tree"] (defScope sSizeOf):=⟨rfl,rfl,rfl,by decide +kernel,rfl,by decide +kernel,by decide +kernel⟩
theorem ok_sizeOf {f fn CF:Addr} {fd fdn:FuncData} {tG:Tok} (F:Fun K "size_of_tree" "size_of_tree" sSizeOf f fd)
    (GN:FnOk P w K mg base (CX1 P w) 2 fn fdn ["tree","least","most"] (spNumberOf K CF)) (bN:Binds K fdn ["tree","least","most"] []) (kN:PySem.W.keepIn K (.ref fn) = true) (mN:mg "number_of_tree" = some (.ref fn))
    (mG:mg "GREATEST" = some (.int 1000000000000000000 tG)):FnOk P w K mg base (CX1 P w) 3 f fd ["tree"] (spSizeOf K CF):=by
  refine F.okX scSizeOf (fun vs H Q E h => ?_) (fun cdv A outer s H vs Q E hr h => ?_)
  · obtain ⟨x,t,rfl,_⟩:=h
    rfl
  obtain ⟨x,t,rfl,hx,sm,q,qE⟩:=h
  exact ⟨_,pss_one (ps_ret (pe_call GN hr rfl mN kN bN .nil pass1 (pa_cons (pv 0) (pa_cons pe_int (pa_cons (pe_glob rfl mG (v:=.int 1000000000000000000) ⟨tG,rfl⟩) pa_nil))))),_,rfl,x,t,1,1000000000000000000,rfl,hx,sm,by decide,q,qE⟩
theorem scNearFar:FnScope ["word","names"] ["word"] (defScope sNearFar):=⟨rfl,rfl,rfl,by decide +kernel,rfl,by decide +kernel,by decide +kernel⟩
theorem ok_nearFar {f fn CF:Addr} {fd fdn:FuncData} (F:Fun K "near_or_far" "near_or_far" sNearFar f fd)
    (GN:FnOk P w K mg base CX0 1 fn fdn ["word"] spName) (bN:Binds K fdn ["word"] []) (kN:PySem.W.keepIn K (.ref fn) = true) (mN:mg "is_name" = some (.ref fn)) (ml:mg "len" = none) (mF:mg "NoForm" = some (.ref CF)) (xF:PySem.W.excIn K CF bmVE "ValueError.__new__" = true) :
    FnOk P w K mg base (CX1 P w) 2 f fd ["word"] (spNearFar K CF):=by
  refine F.okX scNearFar (fun vs H Q E h => ?_) (fun cdv A outer s H vs Q E hr h => ?_)
  · obtain ⟨z,rfl,_⟩:=h
    rfl
  obtain ⟨z,rfl,zl,zo,q,qE⟩:=h
  refine ⟨_,pss_cons (ps_if (pt_val (pe_call GN hr rfl mN kN bN .nil pass0 (pa_cons (pv 0) pa_nil))) (pss_one (ps_ret (pe_tup (pa_cons pe_str (pa_cons (pv 0) pa_nil))))) pss_nil)
    (pss_cons (ps_set (i:=1) scNearFar.nd rfl (Or.inl rfl) (pe_bm PySem.F.plainAttrs_str PySem.F.slot_str_split PySem.F.type_str_split mt_split (pv 0) (pa_cons pe_str pa_nil)))
    (pss_cons (ps_if (PW.pt (pw_or (pt_cmpR op_ne (pe_callB call_len_seq rfl ml PySem.boot_len (pa_cons (pv 1) pa_nil)) pe_int (nomark _)) (pw_or (pt_not (pt_val (pe_call GN hr rfl mN kN bN .nil pass0 (pa_cons (pe_ix ix_list (pv 1) pe_int (fun _ _ => rfl)) pa_nil)))) (pw_or1 (pt_not (pt_val (pe_call GN hr rfl mN kN bN .nil pass0 (pa_cons (pe_ix ix_list (pv 1) pe_int (fun _ _ => rfl)) pa_nil)))))))) (pss_one (ps_raise1 rfl mF xF (pa_cons (pe_fstr (pj_cons pe_str (pj_cons (pe_frD hr (pv 0)) pj_nil)) (by decide)) pa_nil))) pss_nil)
    (pss_one (ps_ret (pe_tup (pa_cons (pe_ix ix_list (pv 1) pe_int (fun _ _ => rfl)) (pa_cons (pe_ix ix_list (pv 1) pe_int (fun _ _ => rfl)) pa_nil))))))),?_⟩
  refine ⟨_,rfl,z,rfl,by omega,fun H1 s1 => ?_⟩
  cases e:nameOk z with
  | true =>
    refine ⟨true,rfl,iteT ⟨_,rfl,(by show 2 ≤ sizeLine; decide),fun p hp => ?_⟩⟩
    exact q ("",z) (if_pos e) _ p (s1.trans (same_new hp _)) upd_same
  | false =>
    obtain ⟨d1,d2⟩:=dot_split z
    have ef:far? z = two? (Txt.split z "."):=if_neg (by rw [e]; decide)
    refine ⟨false,rfl,iteF ⟨_,rfl,rfl,z,".",rfl,rfl,by decide +kernel,by omega,by show (Txt.split z ".").length ≤ _; omega,fun l hl => ?_⟩⟩
    show (_:Prop)
    rw [ef] at q qE
    change ∀ (p:Str × Str),two? (Txt.split z ".") = some p → _ at q
    have nz:(10 * z.length + 2) ≤ 2000000:=by omega
    have shw:=(shw_str zo 60)
    generalize Txt.split z (Str.ofString ".") = ws at *
    have s2:=same_new hl (.lst (ws.map V.str))
    have lst:∀ (H3:Hp),Same (upd H1 l (.lst (ws.map V.str))) H3 → SqL K H3 l (ws.map V.str):=fun _ s => SqL.of (s _ _ upd_same)
    have no:two? ws = none → ∀ (H3:Hp),Same (upd H1 l (.lst (ws.map V.str))) H3 → E (.ref CF) none H3:=fun h H3 s3 => qE h _ (s1.trans (s2.trans s3))
    refine ⟨_,rfl,l,_,rfl,.inl (lst _ (Same.refl _)),rfl,_,rfl,ite2 (fun c => iteT ?_) (fun c => ?_)⟩
    · have h2:two? ws = none:=by
        match ws,c with
        | [a,b],c => exact absurd c (by show ¬ ((!decide (V.int (2:Int) = V.int 2)) = true); decide)
        | [],_ => rfl
        | [_],_ => rfl
        | _ :: _ :: _ :: _,_ => rfl
      exact ⟨_,rfl,by decide +kernel,_,rfl,_,_,.str z,shw,nz,fun y hy => ⟨y,rfl,hy,fun zz _ => ⟨r1 zz,no h2 _ (Same.refl _)⟩⟩⟩
    · have h2:ws.length = 2:=Decidable.byContradiction fun z => c (by
        show (!decide (V.int ((ws.map V.str).length:Int) = V.int 2)) = true
        rw [List.length_map,decide_eq_false (fun y => z (by have:=V.int.inj y; omega))]
        rfl)
      match ws,h2,d2,lst,no,q with
      | [a,b],_,d2,lst,no,q =>
        have la:=d2 a (.head _)
        have lb:=d2 b (.tail _ (.head _))
        refine ⟨_,rfl,l,_,_,.str a,rfl,rfl,lst _ (Same.refl _),rfl,a,rfl,by omega,fun H3 s3 => ?_⟩
        cases ea:nameOk a with
        | false =>
          refine ⟨false,rfl,iteT (iteT ?_)⟩
          exact ⟨_,rfl,by decide +kernel,_,rfl,_,_,.str z,shw,nz,fun y hy => ⟨y,rfl,hy,fun zz _ => ⟨r1 zz,no (if_neg (by rw [ea]; intro c; exact absurd c.1 (by decide))) _ s3⟩⟩⟩
        | true =>
          refine ⟨true,rfl,iteF ⟨_,rfl,l,_,_,.str b,rfl,rfl,lst _ s3,rfl,b,rfl,by omega,fun H4 s4 => ?_⟩⟩
          have s34:=s3.trans s4
          cases eb:nameOk b with
          | false =>
            refine ⟨false,rfl,iteT ?_⟩
            exact ⟨_,rfl,by decide +kernel,_,rfl,_,_,.str z,shw,nz,fun y hy => ⟨y,rfl,hy,fun zz _ => ⟨r1 zz,no (if_neg (by rw [eb]; intro c; exact absurd c.2 (by decide))) _ s34⟩⟩⟩
          | true =>
            refine ⟨true,rfl,iteF ⟨_,rfl,l,_,_,.str a,rfl,rfl,lst _ s34,rfl,_,rfl,l,_,_,.str b,rfl,rfl,lst _ s34,rfl,(by show 2 ≤ sizeLine; decide),fun p hp => ?_⟩⟩
            exact q (a,b) (if_pos ⟨ea,eb⟩) _ p (s1.trans (s2.trans (s34.trans (same_new hp _)))) upd_same
end
end K18
namespace K18
open PySem L2
noncomputable def spKindOf (K:PySem.W.Frag) (CF:Addr) (n:Nat):Sp:=fun vs H Q E => ∃ (x:V) (t:Tr),vs = [x] ∧ TrAt K H x t ∧ Sm t ∧ t.dep < n ∧ (∀ k,kd? t = some k → ∀ H' v,Same H H' → KdAt K H' v k → Q v H') ∧ (kd? t = none → Rf CF E H)
noncomputable def spExOf (K:PySem.W.Frag) (CF:Addr) (n:Nat):Sp:=fun vs H Q E => ∃ (x:V) (t:Tr),vs = [x] ∧ TrAt K H x t ∧ Sm t ∧ t.dep < n ∧ (∀ e,ex? t = some e → ∀ H' v,Same H H' → ExAt H' v e → Q v H') ∧ (ex? t = none → Rf CF E H)
noncomputable def spExsOf (K:PySem.W.Frag) (CF:Addr) (n:Nat):Sp:=fun vs H Q E => ∃ (p:Addr) (xs:List V) (ts:List Tr),vs = [.ref p] ∧ H p = some (.tup xs) ∧ TrsAt K H xs ts ∧ Sms ts ∧ (∀ t ∈ ts,t.dep < n) ∧ (∀ es,exs? ts = some es → ∀ H' (r:Addr) ys,Same H H' → H' r = some (.tup ys) → ExsAt H' ys es → Q (.ref r) H') ∧ (exs? ts = none → Rf CF E H)
noncomputable def spLitOf (K:PySem.W.Frag) (CF:Addr):Sp:=fun vs H Q E => ∃ (x:V) (ts:List Tr),vs = [x] ∧ TrAt K H x (.n (.w "lit" :: ts)) ∧ Sm (.n (.w "lit" :: ts)) ∧ (∀ p,lit? ts = some p → ∀ H' v,Same H H' → ExAt H' v (.node p.1 []) → Q v H') ∧ (lit? ts = none → Rf CF E H)
noncomputable def spCallOf (K:PySem.W.Frag) (CF:Addr) (n:Nat):Sp:=fun vs H Q E => ∃ (x:V) (z:Str) (ts:List Tr),vs = [x] ∧ TrAt K H x (.n (.w z :: ts)) ∧ Sm (.n (.w z :: ts)) ∧ (∀ t ∈ ts,t.dep < n) ∧ (∀ p es,call? z ts = some p → exs? ts = some es → ∀ H' v,Same H H' → ExAt H' v (.node p.1 es) → Q v H') ∧ (call? z ts = none ∨ exs? ts = none → Rf CF E H)
theorem trs_cons {K:PySem.W.Frag} {H:Hp} {xs:List V} {z:Str} {ts:List Tr} (h:TrsAt K H xs (.w z :: ts)):∃ ys,xs = .str z :: ys ∧ TrsAt K H ys ts:=by
  cases h with
  | cons h1 h2 => cases h1; exact ⟨_,rfl,h2⟩
theorem at1 {x y:V} {ys:List V}:atI (x :: y :: ys) 1 = some y:=(atI_nat (j:=1) rfl:atI (x :: y :: ys) ((1:Nat):Int) = some y)
theorem at2 {x y z:V} {ys:List V}:atI (x :: y :: z :: ys) 2 = some z:=(atI_nat (j:=2) rfl:atI (x :: y :: z :: ys) ((2:Nat):Int) = some z)
section
variable {P:Program} {w:World} {K:PySem.W.Frag} {mg:Str → Option Value} {base:Heap}
theorem scKindOf:FnScope ["tree","ahead"] ["tree"] (defScope sKindOf):=⟨rfl,rfl,rfl,by decide +kernel,rfl,by decide +kernel,by decide +kernel⟩
set_option maxHeartbeats 0 in
theorem ok_kindOf {f fn fa fb fs CF:Addr} {fd fdn fda fdb fds:FuncData} (F:Fun K "kind_of_tree" "kind_of_tree" sKindOf f fd) (bF:Binds K fd ["tree"] []) (kF:PySem.W.keepIn K (.ref f) = true) (mF:mg "kind_of_tree" = some (.ref f))
    (GN:FnOk P w K mg base (CX1 P w) 2 fn fdn ["word"] (spNearFar K CF)) (bN:Binds K fdn ["word"] []) (kN:PySem.W.keepIn K (.ref fn) = true) (mN:mg "near_or_far" = some (.ref fn))
    (GA:FnOk P w K mg base (CX1 P w) 2 fa fda ["tree"] (spAhead K CF)) (bA:Binds K fda ["tree"] []) (kA:PySem.W.keepIn K (.ref fa) = true) (mA:mg "word_ahead" = some (.ref fa))
    (GB:FnOk P w K mg base (CX1 P w) 1 fb fdb ["tree","least","most"] (spBracket K CF)) (bB:Binds K fdb ["tree","least","most"] []) (kB:PySem.W.keepIn K (.ref fb) = true) (mB:mg "bracket" = some (.ref fb))
    (GS:FnOk P w K mg base (CX1 P w) 3 fs fds ["tree"] (spSizeOf K CF)) (bS:Binds K fds ["tree"] []) (kS:PySem.W.keepIn K (.ref fs) = true) (mS:mg "size_of_tree" = some (.ref fs))
    (mi:mg "isinstance" = none) (ms:mg "str" = none) (mN':mg "NoForm" = some (.ref CF)) (xF:PySem.W.excIn K CF bmVE "ValueError.__new__" = true):∀ n,FnOk P w K mg base (CX1 P w) (n + 3) f fd ["tree"] (spKindOf K CF n)
  | 0 => ⟨fun vs H Q E h => by obtain ⟨x,k,rfl,_⟩:=h; rfl,fun A outer s H args us vs Q E _ _ _ _ h => by
      obtain ⟨x,k,_,_,_,hd,_⟩:=h
      omega⟩
  | n + 1 => by
    have IH:=ok_kindOf F bF kF mF GN bN kN mN GA bA kA mA GB bB kB mB GS bS kS mS mi ms mN' xF n
    refine F.okX scKindOf (fun vs H Q E h => ?_) (fun cdv A outer s H vs Q E hr h => ?_)
    · obtain ⟨x,k,rfl,_⟩:=h
      rfl
    obtain ⟨x,t,rfl,hx,sm,hd,q,qE⟩:=h
    have hr1:Room 1 _:=hr.mono (by omega)
    have hr2:Room 2 _:=hr.mono (by omega)
    have hr3:Room 3 _:=hr.mono (by omega)
    obtain ⟨d,m,hdat,hsh,hm⟩:=sm.shown hx
    refine ⟨_,pss_cons (ps_if (pt_val (pe_callB call_isi rfl mi bootIsi (pa_cons (pv 0) (pa_cons (pe_bltn rfl ms bootStr (v:=.ty "str") rfl) pa_nil)))) (pss_one (ps_ret (pe_op op_catT (pe_tup (pa_cons pe_str pa_nil)) (pe_call GN hr2 rfl mN kN bN .nil pass1 (pa_cons (pv 0) pa_nil))))) pss_nil)
      (pss_cons (ps_set (i:=1) scKindOf.nd rfl (Or.inl rfl) (pe_call GA hr2 rfl mA kA bA .nil pass1 (pa_cons (pv 0) pa_nil)))
      (pss_cons (ps_if (pt_cmpR op_eq (pv 1) pe_str (nomark _)) (pss_cons (ps_expr (pe_call GB hr1 rfl mB kB bB .nil pass1 (pa_cons (pv 0) (pa_cons pe_int (pa_cons pe_int pa_nil))))) (pss_one (ps_ret (pe_tup (pa_cons pe_str (pa_cons (pe_call GS hr3 rfl mS kS bS .nil pass1 (pa_cons (pe_ix ix_tup (pv 0) pe_int (fun _ _ => rfl)) pa_nil)) pa_nil)))))) pss_nil)
      (pss_cons (ps_if (pt_cmpR op_eq (pv 1) pe_str (nomark _)) (pss_cons (ps_expr (pe_call GB hr1 rfl mB kB bB .nil pass1 (pa_cons (pv 0) (pa_cons pe_int (pa_cons pe_int pa_nil))))) (pss_one (ps_ret (pe_tup (pa_cons pe_str (pa_cons (pe_call IH hr rfl mF kF bF .nil pass1 (pa_cons (pe_ix ix_tup (pv 0) pe_int (fun _ _ => rfl)) pa_nil)) (pa_cons (pe_call IH hr rfl mF kF bF .nil pass1 (pa_cons (pe_ix ix_tup (pv 0) pe_int (fun _ _ => rfl)) pa_nil)) pa_nil))))))) pss_nil)
      (pss_one (ps_raise1 rfl mN' xF (pa_cons (pe_fstr (pj_cons pe_str (pj_cons (pe_frD hr (pv 0)) pj_nil)) (by decide)) pa_nil)))))),?_⟩
    cases hx with
    | w z =>
      obtain ⟨zl,zo⟩:=sm.word
      refine ⟨_,rfl,.str z,"str",_,true,rfl,.str _,kit_ss K,true,rfl,iteT ?_⟩
      refine ⟨(by show 1 ≤ sizeLine; decide),fun p hp => ⟨_,rfl,z,rfl,zl,zo,fun pr ef H2 p2 s2 hp2 => ?_,fun ef => ?_⟩⟩
      · have s1:=same_new hp (.tup [.str "name"])
        have ek:kd? (.w z) = some (.name pr.1 pr.2):=by
          show (far? z).map _ = _
          rw [ef]
          rfl
        exact ⟨p,p2,_,_,rfl,rfl,SqT.of (s2 _ _ upd_same),SqT.of hp2,by simp,(by show 3 ≤ sizeLine; decide),(fun e => by cases e),fun _ p3 hp3 => q _ ek _ _ (s1.trans (s2.trans (same_new hp3 _))) (.name upd_same)⟩
      · refine Rf.same (qE ?_) (same_new hp _)
        show (far? z).map _ = _
        rw [ef]
        rfl
    | @n a xs ts ha hxs =>
      refine ⟨_,rfl,.ref a,"str",_,false,rfl,.tup ha,kit_ts K,false,rfl,iteF ?_⟩
      refine ⟨_,rfl,.ref a,.n ts,rfl,.n ha hxs,sm,fun z r e => ?_,fun e => qE (kd_none ?_)⟩
      · cases e
        obtain ⟨ys,rfl,hys⟩:=trs_cons hxs
        have hdr:∀ u ∈ r,u.dep < n:=fun u hu => by
          have h1:1 + deps (.w z :: r) < n + 1:=hd
          have h2:=dep_mem (ts:=.w z :: r) (.tail _ hu)
          omega
        have smr:=sm.sub.tail
        refine ⟨_,rfl,rfl,_,rfl,ite2 (fun c => ?_) (fun c => ?_)⟩
        · have ez:z = "num":=V.str.inj (of_decide_eq_true c)
          subst ez
          refine ⟨_,rfl,.ref a,_,2,.int 2,rfl,.n ha hxs,sm,.inr ⟨2,rfl⟩,?_,fun nb => qE (kd_none ?_)⟩
          · rintro ⟨ts',e,h1,h2⟩
            cases e
            have h3:=h2 2 rfl
            match r,ys,hys,h1,h3,q,qE,smr with
            | [],_,_,h1,_,_,_,_ => exact absurd h1 (by decide)
            | _ :: _ :: _,_,_,_,h3,_,_,_ => rw [List.length_cons,List.length_cons,List.length_cons] at h3; omega
            | [u],[y],.cons hy .nil,_,_,q,qE,smr =>
              refine ⟨_,rfl,a,_,_,y,rfl,rfl,SqT.of ha,rfl,y,u,rfl,hy,smr.head,fun k ek H2 s2 => ⟨(by show 2 ≤ sizeLine; decide),fun p hp => ?_⟩,fun ek => qE ?_⟩
              · exact q (.num k) (by rw [kd_num,if_pos rfl,ek]; rfl) _ _ (s2.trans (same_new hp _)) (.num upd_same)
              · rw [kd_num,if_pos rfl,ek]
                rfl
          · rintro (⟨u,e⟩ | ⟨u,v,e⟩)
            · cases e
              exact nb ⟨_,rfl,by show (2:Int) ≤ 2; decide,fun j e => by cases e; show (2:Int) ≤ 2; decide⟩
            · injection e with e1 e2
              injection e1 with e1
              exact absurd e1 (by decide +kernel)
        · have nz:z ≠ "num":=fun e => c (decide_eq_true (by rw [e]))
          refine ⟨_,rfl,rfl,_,rfl,ite2 (fun c2 => ?_) (fun c2 => ?_)⟩
          · have ez:z = "pair":=V.str.inj (of_decide_eq_true c2)
            subst ez
            refine ⟨_,rfl,.ref a,_,3,.int 3,rfl,.n ha hxs,sm,.inr ⟨3,rfl⟩,?_,fun nb => qE (kd_none ?_)⟩
            · rintro ⟨ts',e,h1,h2⟩
              cases e
              have h3:=h2 3 rfl
              match r,ys,hys,h1,h3,q,qE,smr,hdr with
              | [],_,_,h1,_,_,_,_,_ => exact absurd h1 (by decide)
              | [_],_,_,h1,_,_,_,_,_ => exact absurd h1 (by show ¬ ((3:Int) ≤ 2); decide)
              | _ :: _ :: _ :: _,_,_,_,h3,_,_,_,_ => rw [List.length_cons,List.length_cons,List.length_cons,List.length_cons] at h3; omega
              | [u,v],[y,y2],.cons hy (.cons hy2 .nil),_,_,q,qE,smr,hdr =>
                refine ⟨_,rfl,a,_,_,y,rfl,rfl,SqT.of ha,rfl,y,u,rfl,hy,smr.head,hdr u (.head _),fun k ek H2 v2 s2 k2 => ?_,fun ek => qE ?_⟩
                · refine ⟨_,rfl,a,_,_,y2,rfl,rfl,SqT.of (s2 _ _ ha),rfl,y2,v,rfl,hy2.same s2,smr.tail.head,hdr v (.tail _ (.head _)),fun l el H3 v3 s3 k3 => ⟨(by show 3 ≤ sizeLine; decide),fun p hp => ?_⟩,fun el => Rf.same (qE ?_) s2⟩
                  · have s4:=same_new hp (.tup [.str "pair",v2,v3])
                    exact q (.pair k l) (by rw [kd_pair,if_pos rfl,ek,el]) _ _ (s2.trans (s3.trans s4)) (.pair upd_same (k2.same (s3.trans s4)) (k3.same s4))
                  · rw [kd_pair,if_pos rfl,ek,el]
                · rw [kd_pair,if_pos rfl,ek]
            · rintro (⟨u,e⟩ | ⟨u,v,e⟩)
              · injection e with e1 e2
                injection e1 with e1
                exact absurd e1 (by decide +kernel)
              · cases e
                exact nb ⟨_,rfl,by show (3:Int) ≤ 3; decide,fun j e => by cases e; show (3:Int) ≤ 3; decide⟩
          · have nz2:z ≠ "pair":=fun e => c2 (decide_eq_true (by rw [e]))
            refine ⟨_,rfl,by decide +kernel,_,rfl,d,m,hdat,hsh,hm,fun y hy => ⟨y,rfl,hy,fun zz _ => ⟨r1 zz,qE (kd_none ?_) _ (Same.refl _)⟩⟩⟩
            rintro (⟨u,e⟩ | ⟨u,v,e⟩)
            · injection e with e1 e2
              injection e1 with e1
              exact nz e1
            · injection e with e1 e2
              injection e1 with e1
              exact nz2 e1
      · rintro (⟨u,rfl⟩ | ⟨u,v,rfl⟩)
        · exact e _ _ rfl
        · exact e _ _ rfl
theorem scExsOf:FnScope ["trees"] ["trees"] (defScope sExsOf):=⟨rfl,rfl,rfl,by decide +kernel,rfl,by decide +kernel,by decide +kernel⟩
theorem ok_exsOf {f fe CF:Addr} {fd fde:FuncData} {n m:Nat} (F:Fun K "expressions_of" "expressions_of" sExsOf f fd)
    (GE:FnOk P w K mg base (CX1 P w) m fe fde ["tree"] (spExOf K CF n)) (bE:Binds K fde ["tree"] []) (kE:PySem.W.keepIn K (.ref fe) = true) (mE:mg "expression_of_tree" = some (.ref fe)) (mt:mg "tuple" = none):FnOk P w K mg base (CX1 P w) (m + 1) f fd ["trees"] (spExsOf K CF n):=by
  refine F.okX scExsOf (fun vs H Q E h => ?_) (fun cdv A outer s H vs Q E hr h => ?_)
  · obtain ⟨p,xs,es,rfl,_⟩:=h
    rfl
  obtain ⟨p,xs,ts,rfl,hp,hxs,sm,hdp,q,qE⟩:=h
  refine ⟨_,pss_one (ps_ret (pe_callTy call_tuple_of rfl mt bootTuple (pa_cons (pe_compX (own:=["tree"]) (caps:=[]) (κ:=[]) (cl:=[]) ⟨rfl,by decide +kernel,by decide +kernel,rfl,rfl,(fun y hy => nomatch hy),(fun y hy => nomatch hy)⟩ rfl (pi_tup (pv 0))
    (fun _ _ _ _ _ => pg_name (i:=0) (show (["tree"]:List Str).Nodup from by decide +kernel) rfl (Or.inl rfl)) (fun _ _ _ _ _ hps => pe_call GE hr rfl mE kE bE .nil hps (pa_cons (pv 0) pa_nil))) pa_nil))),?_⟩
  have xl:=hxs.length
  have cl:=sm.count
  refine ⟨_,rfl,p,rfl,⟨_,SqT.of hp⟩,?_⟩
  refine comp_by (J:=Itt K p) (xs:=xs) (fun i ys H3 => Same H H3 ∧ ys.length = i ∧ ∃ es,exs? (ts.take i) = some es ∧ ExsAt H3 ys es) ⟨Same.refl _,rfl,[],rfl,.nil⟩ (small (by omega)) ?_ ?_ ?_ ?_ ?_ ?_
  · rintro i ys H3 ⟨_,hy,_⟩
    omega
  · rintro i u ys H3 hu ⟨s3,_⟩
    exact ⟨_,_,SqT.of (s3 _ _ hp),hu⟩
  · rintro i ys u H3 H' hn ⟨s3,_⟩ hy
    exact ⟨hy.1,hy.2 _ (SqT.of (s3 _ _ hp))⟩
  · rintro ys H3 ⟨s3,_⟩
    exact ⟨_,SqT.of (s3 _ _ hp),Nat.le_refl _⟩
  · rintro i u ys H3 N hN hu ⟨s3,hy,es,hes,hat⟩
    obtain ⟨t,ht,hu2⟩:=hxs.get hu
    have hm:=List.mem_of_getElem? ht
    refine ⟨rfl,tYes_go ⟨_,rfl,u,t,rfl,hu2.same s3,sm.mem hm,hdp t hm,fun e he H4 v s4 hv => hN _ _ ⟨s3.trans s4,?_,es ++ [e],?_,?_⟩,fun he => Rf.same (qE ?_) s3⟩⟩
    · rw [List.length_append,hy]
      rfl
    · rw [List.take_add_one,ht]
      exact exs_snoc hes he
    · exact (hat.same s4).append (.cons hv .nil)
    · exact exs_no hm he
  · rintro ys H3 D ⟨s3,_,es,hes,hat⟩ hD
    rw [xl,List.take_length] at hes
    have sD:=same_new hD (.lst ys)
    exact ⟨D,ys,rfl,.inl ⟨SqL.of upd_same,fun l hl => q es hes _ l ys (s3.trans (sD.trans (same_new hl _))) upd_same (hat.same (sD.trans (same_new hl _)))⟩⟩
end
end K18
namespace K18
open PySem L2
section
variable {P:Program} {w:World} {K:PySem.W.Frag} {mg:Str → Option Value} {base:Heap}
theorem scLitOf:FnScope ["tree","size"] ["tree"] (defScope sLitOf):=⟨rfl,rfl,rfl,by decide +kernel,rfl,by decide +kernel,by decide +kernel⟩
theorem ok_litOf {f fb fs fn CF:Addr} {fd fdb fds fdn:FuncData} (F:Fun K "literal_of_tree" "literal_of_tree" sLitOf f fd)
    (GB:FnOk P w K mg base (CX1 P w) 1 fb fdb ["tree","least","most"] (spBracket K CF)) (bB:Binds K fdb ["tree","least","most"] []) (kB:PySem.W.keepIn K (.ref fb) = true) (mB:mg "bracket" = some (.ref fb))
    (GS:FnOk P w K mg base (CX1 P w) 3 fs fds ["tree"] (spSizeOf K CF)) (bS:Binds K fds ["tree"] []) (kS:PySem.W.keepIn K (.ref fs) = true) (mS:mg "size_of_tree" = some (.ref fs))
    (GN:FnOk P w K mg base (CX1 P w) 2 fn fdn ["tree","least","most"] (spNumberOf K CF)) (bN:Binds K fdn ["tree","least","most"] []) (kN:PySem.W.keepIn K (.ref fn) = true) (mN:mg "number_of_tree" = some (.ref fn)):FnOk P w K mg base (CX1 P w) 4 f fd ["tree"] (spLitOf K CF):=by
  refine F.okX scLitOf (fun vs H Q E h => ?_) (fun cdv A outer s H vs Q E hr h => ?_)
  · obtain ⟨x,ts,rfl,_⟩:=h
    rfl
  obtain ⟨x,ts,rfl,hx,sm,q,qE⟩:=h
  have hr1:Room 1 _:=hr.mono (by decide)
  have hr2:Room 2 _:=hr.mono (by decide)
  refine ⟨_,pss_cons (ps_expr (pe_call GB hr1 rfl mB kB bB .nil pass1 (pa_cons (pv 0) (pa_cons pe_int (pa_cons pe_int pa_nil)))))
    (pss_cons (ps_set (i:=1) scLitOf.nd rfl (Or.inl rfl) (pe_call GS hr rfl mS kS bS .nil pass1 (pa_cons (pe_ix ix_tup (pv 0) pe_int (fun _ _ => rfl)) pa_nil)))
    (pss_one (ps_ret (pe_tup (pa_cons pe_str (pa_cons (pe_call GN hr2 rfl mN kN bN .nil pass1 (pa_cons (pe_ix ix_tup (pv 0) pe_int (fun _ _ => rfl)) (pa_cons pe_int (pa_cons (pe_op op_sub (pv 1) pe_int) pa_nil)))) (pa_cons (pv 1) pa_nil))))))),?_⟩
  refine ⟨_,rfl,x,_,3,.int 3,rfl,hx,sm,.inr ⟨3,rfl⟩,?_,fun nb => qE ?_⟩
  · rintro ⟨ts',e,h1,h2⟩
    cases e
    have h3:=h2 3 rfl
    cases hx with
    | @n a xs _ ha hxs =>
      obtain ⟨ys,rfl,hys⟩:=trs_cons hxs
      have smr:=sm.sub.tail
      match ts,ys,hys,h1,h3,q,qE,smr with
      | [],_,_,h1,_,_,_,_ => exact absurd h1 (by decide)
      | [_],_,_,h1,_,_,_,_ => exact absurd h1 (by show ¬ ((3:Int) ≤ 2); decide)
      | _ :: _ :: _ :: _,_,_,_,h3,_,_,_ => rw [List.length_cons,List.length_cons,List.length_cons,List.length_cons] at h3; omega
      | [u,v],[y,y2],.cons hy (.cons hy2 .nil),_,_,q,qE,smr =>
        refine ⟨_,rfl,a,_,_,y2,rfl,rfl,SqT.of ha,rfl,y2,v,rfl,hy2,smr.tail.head,fun b eb H2 s2 => ?_,fun eb => qE (by simp only [lit?,eb])⟩
        obtain ⟨_,b1,b2⟩:=size_is eb
        have b2':b ≤ 1000000000000000000:=b2
        have el:lit? [u,v] = (numb? u 0 ((b:Int) - 1)).map fun v => (.lit v b,2):=by simp only [lit?,eb]
        refine ⟨_,rfl,a,_,_,y,rfl,rfl,SqT.of (s2 _ _ ha),rfl,_,rfl,_,_,rfl,rfl,y,u,0,_,rfl,hy.same s2,smr.head,⟨by decide,by decide,by omega,by omega⟩,fun m em H3 s3 => ⟨_,rfl,(by show 3 ≤ sizeLine; decide),fun p2 hp2 => ?_⟩,fun em => Rf.same (qE (by rw [el,em]; rfl)) s2⟩
        exact q (.lit m b,2) (by rw [el,em]; rfl) _ _ (s2.trans (s3.trans (same_new hp2 _))) (.node rfl upd_same .nil)
  · match ts,nb with
    | [],_ => rfl
    | [_],_ => rfl
    | [u,v],nb => exact absurd ⟨_,rfl,by show (3:Int) ≤ 3; decide,fun j e => by cases e; show (3:Int) ≤ 3; decide⟩ nb
    | _ :: _ :: _ :: _,_ => rfl
theorem scCallOf:FnScope ["tree","called"] ["tree"] (defScope sCallOf):=⟨rfl,rfl,rfl,by decide +kernel,rfl,by decide +kernel,by decide +kernel⟩
theorem ok_callOf {f fn fa fb fx CF:Addr} {fd fdn fda fdb fdx:FuncData} {n m:Nat} {tM:Tok} (F:Fun K "call_of_tree" "call_of_tree" sCallOf f fd)
    (GN:FnOk P w K mg base (CX1 P w) 2 fn fdn ["word"] (spNearFar K CF)) (bN:Binds K fdn ["word"] []) (kN:PySem.W.keepIn K (.ref fn) = true) (mN:mg "near_or_far" = some (.ref fn))
    (GA:FnOk P w K mg base (CX1 P w) 2 fa fda ["tree"] (spAhead K CF)) (bA:Binds K fda ["tree"] []) (kA:PySem.W.keepIn K (.ref fa) = true) (mA:mg "word_ahead" = some (.ref fa))
    (GB:FnOk P w K mg base (CX1 P w) 1 fb fdb ["tree","least","most"] (spBracket K CF)) (bB:Binds K fdb ["tree","least","most"] []) (kB:PySem.W.keepIn K (.ref fb) = true) (mB:mg "bracket" = some (.ref fb))
    (GX:FnOk P w K mg base (CX1 P w) (m + 2) fx fdx ["trees"] (spExsOf K CF n)) (bX:Binds K fdx ["trees"] []) (kX:PySem.W.keepIn K (.ref fx) = true) (mX:mg "expressions_of" = some (.ref fx))
    (mM:mg "MOST_ARGUMENTS" = some (.int 4 tM)):FnOk P w K mg base (CX1 P w) (m + 3) f fd ["tree"] (spCallOf K CF n):=by
  refine F.okX scCallOf (fun vs H Q E h => ?_) (fun cdv A outer s H vs Q E hr h => ?_)
  · obtain ⟨x,z,ts,rfl,_⟩:=h
    rfl
  obtain ⟨x,z,ts,rfl,hx,sm,hdp,q,qE⟩:=h
  have hr1:Room 1 _:=hr.mono (by omega)
  have hr2:Room 2 _:=hr.mono (by omega)
  refine ⟨_,pss_cons (ps_set (i:=1) scCallOf.nd rfl (Or.inl rfl) (pe_call GN hr2 rfl mN kN bN .nil pass1 (pa_cons (pe_call GA hr2 rfl mA kA bA .nil pass1 (pa_cons (pv 0) pa_nil)) pa_nil)))
    (pss_cons (ps_expr (pe_call GB hr1 rfl mB kB bB .nil pass1 (pa_cons (pv 0) (pa_cons pe_int (pa_cons (pe_op op_add pe_int (pe_glob rfl mM (v:=.int 4) ⟨tM,rfl⟩)) pa_nil)))))
    (pss_one (ps_ret (pe_op op_catT (pe_op op_catT (pe_tup (pa_cons pe_str pa_nil)) (pv 1)) (pe_tup (pa_cons (pe_call GX hr rfl mX kX bX .nil pass1 (pa_cons (pe_slice sl_tup (pv 0) (po_some pe_int) po_none) pa_nil)) pa_nil)))))),?_⟩
  obtain ⟨zl,zo⟩:=(sm.sub.head (t:=.w z)).word
  have hx0:=hx
  refine ⟨_,rfl,x,_,rfl,hx,sm,fun z' r e => ?_,fun e => absurd rfl (e z ts)⟩
  cases e
  refine ⟨z,rfl,zl,zo,fun pr ef H1 p1 s1 hp1 => ?_,fun ef => qE (.inl (by unfold call?; rw [ef]))⟩
  have ec:call? z ts = if ts.length ≤ 4 then some (.call pr.1 pr.2,0) else none:=by unfold call?; rw [ef]
  refine ⟨_,rfl,_,_,rfl,rfl,x,_,1,.int 5,rfl,hx.same s1,sm,.inr ⟨5,rfl⟩,?_,fun nb => Rf.same (qE (.inl ?_)) s1⟩
  · rintro ⟨ts',e,h1,h2⟩
    cases e
    have h3:=h2 5 rfl
    have h4:ts.length ≤ 4:=by rw [List.length_cons] at h3; omega
    rw [if_pos h4] at ec
    cases hx with
    | @n p xs _ hp hxs =>
      obtain ⟨ys,rfl,hys⟩:=trs_cons hxs
      have hp':=s1 _ _ hp
      refine ⟨(by show 1 ≤ sizeLine; decide),fun p2 hp2 => ?_⟩
      have s2:=same_new hp2 (.tup [.str "call"])
      refine ⟨_,rfl,p2,p1,_,_,rfl,rfl,SqT.of upd_same,SqT.of (s2 _ _ hp1),by simp,(by show 3 ≤ sizeLine; decide),(fun e => by cases e),fun _ p3 hp3 => ?_⟩
      have s3:=same_new hp3 (.tup ([.str "call"] ++ [.str pr.1,.str pr.2]))
      have hp4:=s3 _ _ (s2 _ _ hp')
      refine ⟨_,rfl,_,rfl,p,_,rfl,SqT.of hp4,not_whole (k:=1) (Nat.le_refl _) (by simp),fun p5 hp5 => ?_⟩
      have s5:=same_new hp5 (.tup (cutV (.str z :: ys) (some 1) none))
      have e5:cutV (.str z :: ys) (some 1) none = ys:=cut_from _ 1
      have h5:∀ Hq:Hp,(upd Hq p5 (.tup (cutV (.str z :: ys) (some 1) none))) p5 = some (.tup ys):=fun Hq => by rw [upd_same,e5]
      have S5:=s1.trans (s2.trans (s3.trans s5))
      refine ⟨p5,ys,ts,rfl,h5 _,hys.same S5,sm.sub.tail,hdp,fun es ee H6 p6 zs s6 hp6 hzs => ⟨(by show 1 ≤ sizeLine; decide),fun p7 hp7 => ?_⟩,fun ee => Rf.same (qE (.inr ee)) S5⟩
      have s7:=same_new hp7 (.tup [.ref p6])
      refine ⟨p3,p7,_,_,rfl,rfl,SqT.of (s7 _ _ (s6 _ _ (s5 _ _ upd_same))),SqT.of upd_same,by simp,(by show 4 ≤ sizeLine; decide),(fun e => by cases e),fun _ p8 hp8 => ?_⟩
      have s8:=same_new hp8 (.tup ([.str "call"] ++ [.str pr.1,.str pr.2] ++ [.ref p6]))
      exact q _ es ec ee _ _ (S5.trans (s6.trans (s7.trans s8))) (.call upd_same (s8 _ _ (s7 _ _ hp6)) (hzs.same (s7.trans s8)))
  · rw [ec,if_neg]
    intro h4
    refine nb ⟨_,rfl,by rw [List.length_cons]; omega,fun j e => ?_⟩
    cases e
    rw [List.length_cons]
    omega
theorem form_op {z:Str} {ts:List Tr} (h1:z ≠ "lit") (h2:inV (.str z) opsV = true):form? z ts = op? z ts:=by unfold form?; rw [if_neg h1,if_pos h2]
theorem form_tst {z:Str} {ts:List Tr} (h1:z ≠ "lit") (h2:¬ inV (.str z) opsV = true) (h3:inV (.str z) tstV = true):form? z ts = if ts.length = 2 then some (.test z,0) else none:=by unfold form?; rw [if_neg h1,if_neg h2,if_pos h3]
theorem form_br {z:Str} {ts:List Tr} (h1:z ≠ "lit") (h2:¬ inV (.str z) opsV = true) (h3:¬ inV (.str z) tstV = true) (h4:z ≠ "as") (h5:z ≠ "let"):form? z ts = match numAtS brs z with
    | some k => if (ts.length:Int) = k then some (.br z,0) else none
    | none => call? z ts:=by
  unfold form?
  rw [if_neg h1,if_neg h2,if_neg h3,if_neg h4,if_neg h5]
  all_goals (cases numAtS brs z <;> rfl)
theorem ex_form {z:Str} {ts:List Tr} {p:Fm × Nat} (h:form? z ts = some p):ex? (.n (.w z :: ts)) = (exs? (ts.drop p.2)).map (.node p.1):=by rw [ex_node,h]
theorem ex_noform {z:Str} {ts:List Tr} (h:form? z ts = none):ex? (.n (.w z :: ts)) = none:=by rw [ex_node,h]
theorem exs_two {u v:Tr} {es:List Ex} (h:exs? [u,v] = some es):es.length = 2:=(alls_is h).1.symm
theorem cat_ex {K:PySem.W.Frag} {H:Hp} {hd:List V} {ys:List V} {p2 p6:Addr} {Q:VK} (h2:H p2 = some (.tup hd)) (h6:H p6 = some (.tup ys)) (ne:hd ≠ []) (l1:hd.length ≤ 10) (l2:ys.length ≤ 200) (n2:ys ≠ [])
    (q:∀ p,H p = none → Q (.ref p) (upd H p (.tup (hd ++ ys)))):rCatT K (.ref p2) (.ref p6) H Q :=
  ⟨p2,p6,hd,ys,rfl,rfl,SqT.of h2,SqT.of h6,ne,small (by omega),(fun e => absurd e n2),fun _ => q⟩
noncomputable abbrev exN:List Str:=["tree","ahead","count"]
theorem scExOf:FnScope exN ["tree"] (defScope sExOf):=⟨rfl,rfl,rfl,by decide +kernel,rfl,by decide +kernel,by decide +kernel⟩
set_option maxHeartbeats 0 in
theorem ok_exOf {f fn fa fb fs fx fl fc pO pT pB CF:Addr} {fd fdn fda fdb fds fdx fdl fdc:FuncData} (F:Fun K "expression_of_tree" "expression_of_tree" sExOf f fd) (bF:Binds K fd ["tree"] []) (kF:PySem.W.keepIn K (.ref f) = true) (mF:mg "expression_of_tree" = some (.ref f))
    (GN:FnOk P w K mg base (CX1 P w) 2 fn fdn ["tree"] (spNameOf K CF)) (bN:Binds K fdn ["tree"] []) (kN:PySem.W.keepIn K (.ref fn) = true) (mN:mg "name_of_tree" = some (.ref fn))
    (GA:FnOk P w K mg base (CX1 P w) 2 fa fda ["tree"] (spAhead K CF)) (bA:Binds K fda ["tree"] []) (kA:PySem.W.keepIn K (.ref fa) = true) (mA:mg "word_ahead" = some (.ref fa))
    (GB:FnOk P w K mg base (CX1 P w) 1 fb fdb ["tree","least","most"] (spBracket K CF)) (bB:Binds K fdb ["tree","least","most"] []) (kB:PySem.W.keepIn K (.ref fb) = true) (mB:mg "bracket" = some (.ref fb))
    (GS:FnOk P w K mg base (CX1 P w) 3 fs fds ["tree"] (spSizeOf K CF)) (bS:Binds K fds ["tree"] []) (kS:PySem.W.keepIn K (.ref fs) = true) (mS:mg "size_of_tree" = some (.ref fs))
    (GL:FnOk P w K mg base (CX1 P w) 4 fl fdl ["tree"] (spLitOf K CF)) (bL:Binds K fdl ["tree"] []) (kL:PySem.W.keepIn K (.ref fl) = true) (mL:mg "literal_of_tree" = some (.ref fl))
    (GX:∀ n,FnOk P w K mg base (CX1 P w) (3 * n + 5) f fd ["tree"] (spExOf K CF n) → FnOk P w K mg base (CX1 P w) (3 * n + 6) fx fdx ["trees"] (spExsOf K CF n)) (bX:Binds K fdx ["trees"] []) (kX:PySem.W.keepIn K (.ref fx) = true) (mX:mg "expressions_of" = some (.ref fx))
    (GC:∀ n,FnOk P w K mg base (CX1 P w) (3 * n + 6) fx fdx ["trees"] (spExsOf K CF n) → FnOk P w K mg base (CX1 P w) (3 * n + 7) fc fdc ["tree"] (spCallOf K CF n)) (bC:Binds K fdc ["tree"] []) (kC:PySem.W.keepIn K (.ref fc) = true) (mC:mg "call_of_tree" = some (.ref fc))
    (mO:mg "OPERATORS" = some (.ref pO)) (hO:∀ H,SqT K H pO opsV) (mT:mg "TESTS" = some (.ref pT)) (hT:∀ H,SqT K H pT tstV) (mB2:mg "BRANCHES" = some (.ref pB)) (hB:DKt K w pB brs)
    (mi:mg "isinstance" = none) (ms:mg "str" = none):∀ n,FnOk P w K mg base (CX1 P w) (3 * n + 5) f fd ["tree"] (spExOf K CF n)
  | 0 => ⟨fun vs H Q E h => by obtain ⟨x,k,rfl,_⟩:=h; rfl,fun A outer s H args us vs Q E _ _ _ _ h => by
      obtain ⟨x,k,_,_,_,hd,_⟩:=h
      omega⟩
  | n + 1 => by
    have IH:=ok_exOf F bF kF mF GN bN kN mN GA bA kA mA GB bB kB mB GS bS kS mS GL bL kL mL GX bX kX mX GC bC kC mC mO hO mT hT mB2 hB mi ms n
    have GXn:=GX n IH
    have GCn:=GC n GXn
    rw [show 3 * (n + 1) + 5 = (3 * n + 7) + 1 by omega]
    refine F.okX scExOf (fun vs H Q E h => ?_) (fun cdv A outer s H vs Q E hr h => ?_)
    · obtain ⟨x,k,rfl,_⟩:=h
      rfl
    obtain ⟨x,t,rfl,hx,sm,hd,q,qE⟩:=h
    have hr1:Room 1 _:=hr.mono (by omega)
    have hr2:Room 2 _:=hr.mono (by omega)
    have hr3:Room 3 _:=hr.mono (by omega)
    have hr4:Room 4 _:=hr.mono (by omega)
    have hr5:Room (3 * n + 5) _:=hr.mono (by omega)
    have hr6:Room (3 * n + 6) _:=hr.mono (by omega)
    refine ⟨_,pss_cons (ps_if (pt_val (pe_callB call_isi rfl mi bootIsi (pa_cons (pv 0) (pa_cons (pe_bltn rfl ms bootStr (v:=.ty "str") rfl) pa_nil)))) (pss_one (ps_ret (pe_tup (pa_cons pe_str (pa_cons (pe_call GN hr2 rfl mN kN bN .nil pass1 (pa_cons (pv 0) pa_nil)) pa_nil))))) pss_nil)
      (pss_cons (ps_set (i:=1) scExOf.nd rfl (Or.inl rfl) (pe_call GA hr2 rfl mA kA bA .nil pass1 (pa_cons (pv 0) pa_nil)))
      (pss_cons (ps_if (pt_cmpR op_eq (pv 1) pe_str (nomark _)) (pss_one (ps_ret (pe_call GL hr4 rfl mL kL bL .nil pass1 (pa_cons (pv 0) pa_nil)))) pss_nil)
      (pss_cons (ps_if (pt_cmpR op_in_seq (pv 1) (pe_glob rfl mO (v:=.ref pO) rfl) (by with_unfolding_all rfl)) (pss_cons (ps_expr (pe_call GB hr1 rfl mB kB bB .nil pass1 (pa_cons (pv 0) (pa_cons pe_int (pa_cons pe_int pa_nil)))))
        (pss_one (ps_ret (pe_op op_catT (pe_tup (pa_cons pe_str (pa_cons (pv 1) (pa_cons (pe_call GS hr3 rfl mS kS bS .nil pass1 (pa_cons (pe_ix ix_tup (pv 0) pe_int (fun _ _ => rfl)) pa_nil)) pa_nil)))) (pe_call GXn hr6 rfl mX kX bX .nil pass1 (pa_cons (pe_slice sl_tup (pv 0) (po_some pe_int) po_none) pa_nil)))))) pss_nil)
      (pss_cons (ps_if (pt_cmpR op_in_seq (pv 1) (pe_glob rfl mT (v:=.ref pT) rfl) (by with_unfolding_all rfl)) (pss_cons (ps_expr (pe_call GB hr1 rfl mB kB bB .nil pass1 (pa_cons (pv 0) (pa_cons pe_int (pa_cons pe_int pa_nil)))))
        (pss_one (ps_ret (pe_op op_catT (pe_tup (pa_cons pe_str (pa_cons (pv 1) pa_nil))) (pe_call GXn hr6 rfl mX kX bX .nil pass1 (pa_cons (pe_slice sl_tup (pv 0) (po_some pe_int) po_none) pa_nil)))))) pss_nil)
      (pss_cons (ps_if (pt_cmpR op_eq (pv 1) pe_str (nomark _)) (pss_cons (ps_expr (pe_call GB hr1 rfl mB kB bB .nil pass1 (pa_cons (pv 0) (pa_cons pe_int (pa_cons pe_int pa_nil)))))
        (pss_one (ps_ret (pe_tup (pa_cons pe_str (pa_cons (pe_call GS hr3 rfl mS kS bS .nil pass1 (pa_cons (pe_ix ix_tup (pv 0) pe_int (fun _ _ => rfl)) pa_nil)) (pa_cons (pe_call IH hr5 rfl mF kF bF .nil pass1 (pa_cons (pe_ix ix_tup (pv 0) pe_int (fun _ _ => rfl)) pa_nil)) pa_nil))))))) pss_nil)
      (pss_cons (ps_if (pt_cmpR op_eq (pv 1) pe_str (nomark _)) (pss_cons (ps_expr (pe_call GB hr1 rfl mB kB bB .nil pass1 (pa_cons (pv 0) (pa_cons pe_int (pa_cons pe_int pa_nil)))))
        (pss_one (ps_ret (pe_op op_catT (pe_tup (pa_cons pe_str (pa_cons (pe_call GN hr2 rfl mN kN bN .nil pass1 (pa_cons (pe_ix ix_tup (pv 0) pe_int (fun _ _ => rfl)) pa_nil)) pa_nil))) (pe_call GXn hr6 rfl mX kX bX .nil pass1 (pa_cons (pe_slice sl_tup (pv 0) (po_some pe_int) po_none) pa_nil)))))) pss_nil)
      (pss_cons (ps_if (pt_cmp (pc_dinK (pv 1) (pe_glob rfl mB2 (v:=.ref pB) rfl)) (by with_unfolding_all rfl)) (pss_cons (ps_set (i:=2) scExOf.nd rfl (Or.inl rfl) (pe_dgetK (pe_glob rfl mB2 (v:=.ref pB) rfl) (pv 1) (fun _ _ => rfl)))
        (pss_cons (ps_expr (pe_call GB hr1 rfl mB kB bB .nil pass1 (pa_cons (pv 0) (pa_cons (pe_op op_add pe_int (pv 2)) (pa_cons (pe_op op_add pe_int (pv 2)) pa_nil)))))
        (pss_one (ps_ret (pe_op op_catT (pe_tup (pa_cons (pv 1) pa_nil)) (pe_call GXn hr6 rfl mX kX bX .nil pass1 (pa_cons (pe_slice sl_tup (pv 0) (po_some pe_int) po_none) pa_nil))))))) pss_nil)
      (pss_one (ps_ret (pe_call GCn hr rfl mC kC bC .nil pass1 (pa_cons (pv 0) pa_nil))))))))))),?_⟩
    cases hx with
    | w z =>
      refine ⟨_,rfl,.str z,"str",_,true,rfl,.str _,kit_ss K,true,rfl,iteT ?_⟩
      refine ⟨_,rfl,.str z,.w z,rfl,.w z,sm,fun y ey H2 s2 => ⟨(by show 2 ≤ sizeLine; decide),fun p hp => ?_⟩,fun ey => qE ?_⟩
      · obtain ⟨e1,e2⟩:=name_is ey
        cases e1
        exact q (.var z) (if_pos e2) _ _ (s2.trans (same_new hp _)) (.var upd_same)
      · have ey':(if nameOk z = true then some z else none) = none:=ey
        show (if nameOk z = true then some (Ex.var z) else none) = none
        split
        · rename_i c
          rw [if_pos c] at ey'
          cases ey'
        · rfl
    | @n a xs ts ha hxs =>
      refine ⟨_,rfl,.ref a,"str",_,false,rfl,.tup ha,kit_ts K,false,rfl,iteF ?_⟩
      refine ⟨_,rfl,.ref a,.n ts,rfl,.n ha hxs,sm,fun z r e => ?_,fun e => qE (ex_none fun ⟨z,r,h⟩ => e z r (by rw [h]))⟩
      cases e
      obtain ⟨ys,rfl,hys⟩:=trs_cons hxs
      have hdr:∀ u ∈ r,u.dep < n:=fun u hu => by
        have h1:1 + deps (.w z :: r) < n + 1:=hd
        have h2:=dep_mem (ts:=.w z :: r) (.tail _ hu)
        omega
      have smr:=sm.sub.tail
      have yl:=hys.length
      have hat:TrAt K H (.ref a) (.n (.w z :: r)):=.n ha hxs
      refine ⟨_,rfl,rfl,_,rfl,ite2 (fun c => ?_) (fun c1 => ?_)⟩
      · have ez:z = "lit":=V.str.inj (of_decide_eq_true c)
        subst ez
        have ef:form? "lit" r = lit? r:=if_pos rfl
        refine ⟨_,rfl,.ref a,r,rfl,hat,sm,fun p ep H' v s' hv => ?_,fun ep => qE (ex_noform (by rw [ef]; exact ep))⟩
        obtain ⟨f1,f2⟩:=form_is (ef.trans ep)
        have e0:r.drop p.2 = []:=by
          match r,ep with
          | [u,v],ep =>
            simp only [lit?] at ep
            cases eb:size? v with
            | none => rw [eb] at ep; cases ep
            | some b =>
              rw [eb] at ep
              obtain ⟨x,ex,rfl⟩:=Option.map_eq_some_iff.mp ep
              rfl
        exact q (.node p.1 []) (by rw [ex_form (ef.trans ep),e0]; rfl) H' v s' hv
      have n1:z ≠ "lit":=fun e => c1 (decide_eq_true (by rw [e]))
      refine ⟨_,rfl,pO,opsV,rfl,.inr (hO _),rfl,flat_ops,_,rfl,ite2 (fun c => ?_) (fun c2 => ?_)⟩
      · have ef:form? z r = op? z r:=form_op n1 c
        refine ⟨_,rfl,.ref a,_,4,.int 4,rfl,hat,sm,.inr ⟨4,rfl⟩,?_,fun nb => qE (ex_noform ?_)⟩
        · rintro ⟨ts',e,h1,h2⟩
          cases e
          have h3:=h2 4 rfl
          have h4:r.length = 3:=by rw [List.length_cons] at h1 h3; omega
          match r,h4,ys,hys,smr,hdr,ef,q,qE with
          | [u,v,v2],_,y :: ys',.cons hy hys',smr,hdr,ef,q,qE =>
            refine ⟨_,rfl,_,rfl,a,_,_,y,rfl,rfl,SqT.of ha,at1,y,u,rfl,hy,smr.head,fun b eb H2 s1 => ⟨(by show 3 ≤ sizeLine; decide),fun p2 hp2 => ?_⟩,fun eb => qE (ex_noform (by rw [ef]; simp only [op?,eb,Option.map_none]))⟩
            have ef2:form? z [u,v,v2] = some (.op z b,1):=by rw [ef]; simp only [op?,eb,Option.map_some]
            have s2:=same_new hp2 (.tup [.str "op",.str z,.int b])
            have haa:=s2 _ _ (s1 _ _ ha)
            refine ⟨_,rfl,_,rfl,a,_,rfl,SqT.of haa,not_whole (k:=2) (by decide) (by simp),fun p5 hp5 => ?_⟩
            have s5:=same_new hp5 (.tup (cutV (.str z :: y :: ys') (some 2) none))
            have h5:∀ Hq:Hp,(upd Hq p5 (.tup (cutV (.str z :: y :: ys') (some 2) none))) p5 = some (.tup ys'):=fun Hq => by rw [upd_same]; exact congrArg (fun l => some (HO.tup l)) (cut_from _ 2)
            have S:=s1.trans (s2.trans s5)
            refine ⟨p5,ys',[v,v2],rfl,h5 _,hys'.same S,smr.tail,fun t ht => hdr t (.tail _ ht),fun es ee H6 p6 zs s6 hp6 hzs => ?_,fun ee => Rf.same (qE (by rw [ex_form ef2]; show (exs? [v,v2]).map _ = none; rw [ee]; rfl)) S⟩
            have zl:zs.length = 2:=hzs.length.trans (exs_two ee)
            refine cat_ex (s6 _ _ (s5 _ _ upd_same)) hp6 (by simp) (by show 3 ≤ 10; decide) (by omega) (fun e => by rw [e] at zl; cases zl) fun p8 hp8 => ?_
            exact q _ (by rw [ex_form ef2]; show (exs? [v,v2]).map _ = _; rw [ee]; rfl) _ _ (S.trans (s6.trans (same_new hp8 _))) (.node (f:=.op z b) rfl upd_same (hzs.same (same_new hp8 _)))
        · rw [ef]
          match r,nb with
          | [u,v,v2],nb => exact absurd ⟨_,rfl,by show (4:Int) ≤ 4; decide,fun j e => by cases e; show (4:Int) ≤ 4; decide⟩ nb
          | [],_ => rfl
          | [_],_ => rfl
          | [_,_],_ => rfl
          | _ :: _ :: _ :: _ :: _,_ => rfl
      replace c2:¬ inV (.str z) opsV = true:=c2
      refine ⟨_,rfl,pT,tstV,rfl,.inr (hT _),rfl,flat_tst,_,rfl,ite2 (fun c => ?_) (fun c3 => ?_)⟩
      · have ef:=form_tst (ts:=r) n1 c2 c
        refine ⟨_,rfl,.ref a,_,3,.int 3,rfl,hat,sm,.inr ⟨3,rfl⟩,?_,fun nb => qE (ex_noform ?_)⟩
        · rintro ⟨ts',e,h1,h2⟩
          cases e
          have h3:=h2 3 rfl
          have h4:r.length = 2:=by rw [List.length_cons] at h1 h3; omega
          rw [if_pos h4] at ef
          refine ⟨_,rfl,(by show 2 ≤ sizeLine; decide),fun p2 hp2 => ?_⟩
          have s2:=same_new hp2 (.tup [.str "test",.str z])
          have haa:=s2 _ _ ha
          refine ⟨_,rfl,_,rfl,a,_,rfl,SqT.of haa,not_whole (k:=1) (by decide) (by simp),fun p5 hp5 => ?_⟩
          have s5:=same_new hp5 (.tup (cutV (.str z :: ys) (some 1) none))
          have h5:∀ Hq:Hp,(upd Hq p5 (.tup (cutV (.str z :: ys) (some 1) none))) p5 = some (.tup ys):=fun Hq => by rw [upd_same]; exact congrArg (fun l => some (HO.tup l)) (cut_from _ 1)
          have S:=s2.trans s5
          refine ⟨p5,ys,r,rfl,h5 _,hys.same S,smr,hdr,fun es ee H6 p6 zs s6 hp6 hzs => ?_,fun ee => Rf.same (qE (by rw [ex_form ef]; show (exs? r).map _ = none; rw [ee]; rfl)) S⟩
          have zl:zs.length = 2:=hzs.length.trans ((alls_is ee).1.symm.trans h4)
          refine cat_ex (s6 _ _ (s5 _ _ upd_same)) hp6 (by simp) (by show 2 ≤ 10; decide) (by omega) (fun e => by rw [e] at zl; cases zl) fun p8 hp8 => ?_
          exact q _ (by rw [ex_form ef]; show (exs? r).map _ = _; rw [ee]; rfl) _ _ (S.trans (s6.trans (same_new hp8 _))) (.node (f:=.test z) rfl upd_same (hzs.same (same_new hp8 _)))
        · rw [ef,if_neg]
          intro h4
          refine nb ⟨_,rfl,by rw [List.length_cons]; omega,fun j e => ?_⟩
          cases e
          rw [List.length_cons]
          omega
      replace c3:¬ inV (.str z) tstV = true:=c3
      refine ⟨_,rfl,rfl,_,rfl,ite2 (fun c => ?_) (fun c4 => ?_)⟩
      · have ez:z = "as":=V.str.inj (of_decide_eq_true c)
        subst ez
        have ef:form? "as" r = as? r:=by unfold form?; rw [if_neg n1,if_neg c2,if_neg c3,if_pos rfl]
        refine ⟨_,rfl,.ref a,_,3,.int 3,rfl,hat,sm,.inr ⟨3,rfl⟩,?_,fun nb => qE (ex_noform ?_)⟩
        · rintro ⟨ts',e,h1,h2⟩
          cases e
          have h3:=h2 3 rfl
          have h4:r.length = 2:=by rw [List.length_cons] at h1 h3; omega
          match r,h4,ys,hys,smr,hdr,ef,q,qE with
          | [u,v],_,[y,y2],.cons hy (.cons hy2 .nil),smr,hdr,ef,q,qE =>
            refine ⟨_,rfl,a,_,_,y,rfl,rfl,SqT.of ha,at1,y,u,rfl,hy,smr.head,fun b eb H2 s1 => ?_,fun eb => qE (ex_noform (by rw [ef]; simp only [as?,eb,Option.map_none]))⟩
            have ef2:form? "as" [u,v] = some (.as_ b,1):=by rw [ef]; simp only [as?,eb,Option.map_some]
            have e2:ex? (.n (.w "as" :: [u,v])) = (exs? [v]).map (.node (.as_ b)):=ex_form ef2
            refine ⟨_,rfl,a,_,_,y2,rfl,rfl,SqT.of (s1 _ _ ha),at2,y2,v,rfl,hy2.same s1,smr.tail.head,hdr v (.tail _ (.head _)),fun e ee H3 v3 s3 hv3 => ⟨(by show 3 ≤ sizeLine; decide),fun p2 hp2 => ?_⟩,fun ee => Rf.same (qE (by rw [e2]; unfold exs?; rw [List.map_cons,ee]; rfl)) s1⟩
            exact q (.node (.as_ b) [e]) (by rw [e2]; unfold exs?; rw [List.map_cons,ee]; rfl) _ _ (s1.trans (s3.trans (same_new hp2 _))) (.node (xs:=[v3]) rfl upd_same (.cons (hv3.same (same_new hp2 _)) .nil))
        · rw [ef]
          match r,nb with
          | [u,v],nb => exact absurd ⟨_,rfl,by show (3:Int) ≤ 3; decide,fun j e => by cases e; show (3:Int) ≤ 3; decide⟩ nb
          | [],_ => rfl
          | [_],_ => rfl
          | _ :: _ :: _ :: _,_ => rfl
      have n4:z ≠ "as":=fun e => c4 (decide_eq_true (by rw [e]))
      refine ⟨_,rfl,rfl,_,rfl,ite2 (fun c => ?_) (fun c5 => ?_)⟩
      · have ez:z = "let":=V.str.inj (of_decide_eq_true c)
        subst ez
        have ef:form? "let" r = let? r:=by unfold form?; rw [if_neg n1,if_neg c2,if_neg c3,if_neg n4,if_pos rfl]
        refine ⟨_,rfl,.ref a,_,4,.int 4,rfl,hat,sm,.inr ⟨4,rfl⟩,?_,fun nb => qE (ex_noform ?_)⟩
        · rintro ⟨ts',e,h1,h2⟩
          cases e
          have h3:=h2 4 rfl
          have h4:r.length = 3:=by rw [List.length_cons] at h1 h3; omega
          match r,h4,ys,hys,smr,hdr,ef,q,qE with
          | [u,v,v2],_,y :: ys',.cons hy hys',smr,hdr,ef,q,qE =>
            refine ⟨_,rfl,a,_,_,y,rfl,rfl,SqT.of ha,at1,y,u,rfl,hy,smr.head,fun b eb H2 s1 => ⟨(by show 2 ≤ sizeLine; decide),fun p2 hp2 => ?_⟩,fun eb => qE (ex_noform (by rw [ef]; simp only [let?,eb,Option.map_none]))⟩
            have ef2:form? "let" [u,v,v2] = some (.let_ b,1):=by rw [ef]; simp only [let?,eb,Option.map_some]
            have s2:=same_new hp2 (.tup [.str "let",.str b])
            have haa:=s2 _ _ (s1 _ _ ha)
            refine ⟨_,rfl,_,rfl,a,_,rfl,SqT.of haa,not_whole (k:=2) (by decide) (by simp),fun p5 hp5 => ?_⟩
            have s5:=same_new hp5 (.tup (cutV (.str "let" :: y :: ys') (some 2) none))
            have h5:∀ Hq:Hp,(upd Hq p5 (.tup (cutV (.str "let" :: y :: ys') (some 2) none))) p5 = some (.tup ys'):=fun Hq => by rw [upd_same]; exact congrArg (fun l => some (HO.tup l)) (cut_from _ 2)
            have S:=s1.trans (s2.trans s5)
            refine ⟨p5,ys',[v,v2],rfl,h5 _,hys'.same S,smr.tail,fun t ht => hdr t (.tail _ ht),fun es ee H6 p6 zs s6 hp6 hzs => ?_,fun ee => Rf.same (qE (by rw [ex_form ef2]; show (exs? [v,v2]).map _ = none; rw [ee]; rfl)) S⟩
            have zl:zs.length = 2:=hzs.length.trans (exs_two ee)
            refine cat_ex (s6 _ _ (s5 _ _ upd_same)) hp6 (by simp) (by show 2 ≤ 10; decide) (by omega) (fun e => by rw [e] at zl; cases zl) fun p8 hp8 => ?_
            exact q _ (by rw [ex_form ef2]; show (exs? [v,v2]).map _ = _; rw [ee]; rfl) _ _ (S.trans (s6.trans (same_new hp8 _))) (.node (f:=.let_ b) rfl upd_same (hzs.same (same_new hp8 _)))
        · rw [ef]
          match r,nb with
          | [u,v,v2],nb => exact absurd ⟨_,rfl,by show (4:Int) ≤ 4; decide,fun j e => by cases e; show (4:Int) ≤ 4; decide⟩ nb
          | [],_ => rfl
          | [_],_ => rfl
          | [_,_],_ => rfl
          | _ :: _ :: _ :: _ :: _,_ => rfl
      have n5:z ≠ "let":=fun e => c5 (decide_eq_true (by rw [e]))
      have ef:=form_br (ts:=r) n1 c2 c3 n4 n5
      refine ⟨_,rfl,pB,brs,z,rfl,hB,rfl,_,rfl,?_⟩
      cases en:numAtS brs z with
      | some k =>
        rw [en] at ef
        obtain ⟨k',rfl,hk⟩:=brs_is en
        have k1:1 ≤ k' ∧ k' ≤ 3:=by omega
        refine iteT ?_
        refine ⟨_,rfl,pB,brs,z,_,rfl,hB,rfl,en,?_⟩
        refine ⟨_,rfl,_,rfl,_,_,rfl,rfl,_,rfl,_,_,rfl,rfl,.ref a,_,_,_,rfl,hat,sm,.inr ⟨_,rfl⟩,?_,fun nb => qE (ex_noform ?_)⟩
        · rintro ⟨ts',e,h1,h2⟩
          cases e
          have h3:=h2 _ rfl
          have h4:r.length = k':=by rw [List.length_cons] at h1 h3; omega
          have ef2:form? z r = some (.br z,0):=by rw [ef]; exact if_pos (by omega)
          refine ⟨_,rfl,(by show 1 ≤ sizeLine; decide),fun p2 hp2 => ?_⟩
          have s2:=same_new hp2 (.tup [.str z])
          have haa:=s2 _ _ ha
          refine ⟨_,rfl,_,rfl,a,_,rfl,SqT.of haa,not_whole (k:=1) (by decide) (by simp),fun p5 hp5 => ?_⟩
          have s5:=same_new hp5 (.tup (cutV (.str z :: ys) (some 1) none))
          have h5:∀ Hq:Hp,(upd Hq p5 (.tup (cutV (.str z :: ys) (some 1) none))) p5 = some (.tup ys):=fun Hq => by rw [upd_same]; exact congrArg (fun l => some (HO.tup l)) (cut_from _ 1)
          have S:=s2.trans s5
          refine ⟨p5,ys,r,rfl,h5 _,hys.same S,smr,hdr,fun es ee H6 p6 zs s6 hp6 hzs => ?_,fun ee => Rf.same (qE (by rw [ex_form ef2]; show (exs? r).map _ = none; rw [ee]; rfl)) S⟩
          have zl:zs.length = k':=hzs.length.trans ((alls_is ee).1.symm.trans h4)
          refine cat_ex (s6 _ _ (s5 _ _ upd_same)) hp6 (by simp) (by show 1 ≤ 10; decide) (by omega) (fun e => by rw [e] at zl; have:0 = k':=zl; omega) fun p8 hp8 => ?_
          exact q _ (by rw [ex_form ef2]; show (exs? r).map _ = _; rw [ee]; rfl) _ _ (S.trans (s6.trans (same_new hp8 _))) (.node (f:=.br z) rfl upd_same (hzs.same (same_new hp8 _)))
        · rw [ef]
          refine if_neg fun h4 => nb ⟨_,rfl,by rw [List.length_cons]; omega,fun j e => ?_⟩
          cases e
          rw [List.length_cons]
          omega
      | none =>
        rw [en] at ef
        refine iteF ?_
        refine ⟨_,rfl,.ref a,z,r,rfl,hat,sm,hdr,fun p es ep ee H' v s' hv => ?_,fun h => qE ?_⟩
        · have e0:p.2 = 0:=by
            unfold call? at ep
            split at ep
            · split at ep
              · cases ep; rfl
              · cases ep
            · cases ep
          exact q (.node p.1 es) (by rw [ex_form (ef.trans ep),e0,List.drop_zero,ee]; rfl) H' v s' hv
        · rcases h with h | h
          · exact ex_noform (by rw [ef]; exact h)
          · cases ep:call? z r with
            | none => exact ex_noform (by rw [ef]; exact ep)
            | some p =>
              have e0:p.2 = 0:=by
                unfold call? at ep
                split at ep
                · split at ep
                  · cases ep; rfl
                  · cases ep
                · cases ep
              rw [ex_form (ef.trans ep),e0,List.drop_zero,h]
              rfl
end
end K18
namespace K18
open PySem L2
noncomputable abbrev ahs:List (Str × Int):=[("op",3),("test",2),("as",2),("let",2),("if",1),("two",1),("first",1),("second",1)]
noncomputable abbrev lvV:List V:=[.str "lit",.str "var"]
theorem flat_lvV:lvV.all flatV = true:=by decide +kernel
noncomputable def spWithin:Sp:=fun vs H Q _ => ∃ (x:V) (f:Fm) (es:List Ex),vs = [x] ∧ ExAt H x (.node f es) ∧ f.fits es.length ∧ ∀ H' (r:Addr) xs,Same H H' → H' r = some (.tup xs) → ExsAt H' xs es → Q (.ref r) H'
noncomputable def spWords:Sp:=fun vs H Q _ => ∃ (x:V) (f:Fm) (es:List Ex),vs = [x] ∧ ExAt H x (.node f es) ∧ f.fits es.length ∧ ∀ H' (r:Addr),Same H H' → H' r = some (.tup (f.words.map V.str)) → Q (.ref r) H'
noncomputable def spExTree (K:PySem.W.Frag) (n:Nat):Sp:=fun vs H Q _ => ∃ (x:V) (e:Ex),vs = [x] ∧ ExAt H x e ∧ e.ok ∧ e.dp < n ∧ ∀ H' v,Same H H' → TrAt K H' v e.tr → Q v H'
noncomputable def spExText (K:PySem.W.Frag):Sp:=fun vs H Q _ => ∃ (x:V) (e:Ex),vs = [x] ∧ ExAt H x e ∧ e.ok ∧ e.dp ≤ 30 ∧ e.tr.flat.length ≤ 200 ∧ ∀ H' (z:Str),Same H H' → cps z = e.tr.text → Q (.str z) H'
theorem ex_fits {e:Ex} (h:e.ok) (hl:e.tr.flat.length ≤ 200):(flats [e.tr]).length ≤ 200 ∧ ((flats [e.tr]).map List.length).sum ≤ 5000:=by
  rw [flats_one]
  refine ⟨hl,?_⟩
  have:=sum_le fun p hp => (ex_toks h p hp).1
  omega
theorem ahs_vals {f:Fm} {k:Nat} (h:f.fits k) (hc:f.isCall = false) (hl:∀ a b,f ≠ .lit a b):∃ (z:Str) (r:List V),f.vals = .str z :: r ∧ inV (.str z) lvV = false ∧ z ≠ "call" ∧ numAtS ahs z = some ((r.length + 1:Nat):Int):=by
  cases f with
  | lit a b => exact absurd rfl (hl a b)
  | op o n => exact ⟨_,_,rfl,by decide +kernel,by decide +kernel,rfl⟩
  | test o => exact ⟨_,_,rfl,by decide +kernel,by decide +kernel,rfl⟩
  | as_ n => exact ⟨_,_,rfl,by decide +kernel,by decide +kernel,rfl⟩
  | let_ s => exact ⟨_,_,rfl,by decide +kernel,by decide +kernel,rfl⟩
  | br z => rcases h with ⟨rfl,_⟩ | ⟨rfl,_⟩ | ⟨rfl,_⟩ | ⟨rfl,_⟩ <;> exact ⟨_,_,rfl,by decide +kernel,by decide +kernel,by decide +kernel⟩
  | call a b => cases hc
theorem node_head {H:Hp} {x:V} {f:Fm} {es:List Ex} (h:ExAt H x (.node f es)) (hf:f.fits es.length):∃ (p:Addr) (z:Str) (r:List V),x = .ref p ∧ H p = some (.tup (.str z :: r)) ∧ z ≠ "var":=by
  cases h with
  | @call p _ _ _ _ _ hp => exact ⟨p,_,_,rfl,hp,by decide +kernel⟩
  | @node p _ _ _ hc hp =>
    cases f with
    | lit a b => exact ⟨p,_,_,rfl,hp,by decide +kernel⟩
    | op o n => exact ⟨p,_,_,rfl,hp,by decide +kernel⟩
    | test o => exact ⟨p,_,_,rfl,hp,by decide +kernel⟩
    | as_ n => exact ⟨p,_,_,rfl,hp,by decide +kernel⟩
    | let_ s => exact ⟨p,_,_,rfl,hp,by decide +kernel⟩
    | br z => rcases hf with ⟨rfl,_⟩ | ⟨rfl,_⟩ | ⟨rfl,_⟩ | ⟨rfl,_⟩ <;> exact ⟨p,_,_,rfl,hp,by decide +kernel⟩
    | call a b => cases hc
theorem log_small {n:Nat} (h:n ≤ big):(n:Int).natAbs.log2 < 1920:=by
  by_cases z:n = 0
  · rw [z]
    decide
  · exact (Nat.log2_lt (by omega)).mpr (Nat.lt_of_le_of_lt (show (n:Int).natAbs ≤ 1000000000000000000 by have:n ≤ 1000000000000000000:=h; omega) (by decide))
section
variable {P:Program} {w:World} {K:PySem.W.Frag} {mg:Str → Option Value} {base:Heap}
theorem scWithin:FnScope ["expression","form"] ["expression"] (defScope sWithin):=⟨rfl,rfl,rfl,by decide +kernel,rfl,by decide +kernel,by decide +kernel⟩
set_option maxHeartbeats 0 in
theorem ok_within {f pA:Addr} {fd:FuncData} (F:Fun K "within" "within" sWithin f fd) (mA:mg "AHEAD" = some (.ref pA)) (hA:DKt K w pA ahs):FnOk P w K mg base CX0 1 f fd ["expression"] spWithin:=by
  refine F.ok scWithin (fun vs H Q E h => ?_) (fun cdv A outer s H vs Q E hr h => ?_)
  · obtain ⟨x,fm,es,rfl,_⟩:=h
    rfl
  obtain ⟨x,fm,es,rfl,hx,hf,q⟩:=h
  refine ⟨_,pss_cons (ps_set (i:=1) scWithin.nd rfl (Or.inl rfl) (pe_ix ix_tup (pv 0) pe_int (fun _ _ => rfl)))
    (pss_cons (ps_if (pt_cmpR op_in_seq (pv 1) (pe_tup (pa_cons pe_str (pa_cons pe_str pa_nil))) (by with_unfolding_all rfl)) (pss_one (ps_ret (pe_tup pa_nil))) pss_nil)
    (pss_cons (ps_if (pt_cmpR op_eq (pv 1) pe_str (nomark _)) (pss_one (ps_ret (pe_ix ix_tup (pv 0) pe_int (fun _ _ => rfl)))) pss_nil)
    (pss_one (ps_ret (pe_slice sl_tup (pv 0) (po_some (pe_dgetK (pe_glob rfl mA (v:=.ref pA) rfl) (pv 1) (fun _ _ => rfl))) po_none))))),?_⟩
  cases hx with
  | @call p p2 a t xs _ hp hp2 hxs =>
    refine ⟨_,rfl,p,_,_,.str "call",rfl,rfl,SqT.of hp,rfl,_,rfl,(by show 2 ≤ sizeLine; decide),fun p3 hp3 => ?_⟩
    have s3:=same_new hp3 (.tup lvV)
    refine ⟨p3,lvV,rfl,.inr (SqT.of upd_same),rfl,flat_lvV,_,rfl,ite2 (fun c => absurd c (by decide +kernel)) (fun _ => ?_)⟩
    refine ⟨_,rfl,rfl,_,rfl,ite2 (fun _ => ?_) (fun c => absurd (by decide +kernel) c)⟩
    exact ⟨_,rfl,p,_,_,.ref p2,rfl,rfl,SqT.of (s3 _ _ hp),rfl,q _ _ _ s3 (s3 _ _ hp2) (hxs.same s3)⟩
  | @node p _ xs _ hc hp hxs =>
    by_cases hl:∃ a b,fm = .lit a b
    · obtain ⟨a,b,rfl⟩:=hl
      obtain ⟨h0,_⟩:=hf
      obtain rfl:es = []:=List.eq_nil_of_length_eq_zero h0
      cases hxs
      refine ⟨_,rfl,p,_,_,.str "lit",rfl,rfl,SqT.of hp,rfl,_,rfl,(by show 2 ≤ sizeLine; decide),fun p3 hp3 => ?_⟩
      have s3:=same_new hp3 (.tup lvV)
      refine ⟨p3,lvV,rfl,.inr (SqT.of upd_same),rfl,flat_lvV,_,rfl,ite2 (fun _ => ?_) (fun c => absurd (by decide +kernel) c)⟩
      exact ⟨(by show 0 ≤ sizeLine; decide),fun p4 hp4 => q _ p4 [] (s3.trans (same_new hp4 _)) upd_same .nil⟩
    · obtain ⟨z,r,e1,e2,e3,e4⟩:=ahs_vals hf hc fun a b e => hl ⟨a,b,e⟩
      rw [e1] at hp
      refine ⟨_,rfl,p,_,_,.str z,rfl,rfl,SqT.of hp,?_,_,rfl,(by show 2 ≤ sizeLine; decide),fun p3 hp3 => ?_⟩
      · exact (atI_nat (j:=0) rfl:atI (V.str z :: (r ++ xs)) ((0:Nat):Int) = _)
      have s3:=same_new hp3 (.tup lvV)
      refine ⟨p3,lvV,rfl,.inr (SqT.of upd_same),rfl,flat_lvV,_,rfl,ite2 (fun c => absurd c (no_of e2)) (fun _ => ?_)⟩
      refine ⟨_,rfl,rfl,_,rfl,ite2 (fun c => absurd c (str_no e3)) (fun _ => ?_)⟩
      refine ⟨_,rfl,_,rfl,pA,ahs,z,_,rfl,hA,rfl,e4,_,rfl,p,_,rfl,SqT.of (s3 _ _ hp),not_whole (by omega) (by simp),fun p5 hp5 => ?_⟩
      have e5:cutV (V.str z :: r ++ xs) (some ((r.length + 1:Nat):Int)) none = xs:=by
        rw [cut_from]
        simp
      have h5:∀ Hq:Hp,(upd Hq p5 (.tup (cutV (V.str z :: r ++ xs) (some ((r.length + 1:Nat):Int)) none))) p5 = some (.tup xs):=fun Hq => by rw [upd_same,e5]
      exact q _ p5 xs (s3.trans (same_new hp5 _)) (h5 _) (hxs.same (s3.trans (same_new hp5 _)))
theorem scWords:FnScope ["expression","form"] ["expression"] (defScope sWords):=⟨rfl,rfl,rfl,by decide +kernel,rfl,by decide +kernel,by decide +kernel⟩
set_option maxHeartbeats 0 in
theorem ok_words {f fn:Addr} {fd fdn:FuncData} (F:Fun K "words_ahead" "words_ahead" sWords f fd)
    (GN:FnOk P w K mg base CX0 1 fn fdn ["part","name"] spNearFarW) (bN:Binds K fdn ["part","name"] []) (kN:PySem.W.keepIn K (.ref fn) = true) (mN:mg "near_or_far_word" = some (.ref fn)) (ms:mg "str" = none):FnOk P w K mg base CX0 2 f fd ["expression"] spWords:=by
  refine F.ok scWords (fun vs H Q E h => ?_) (fun cdv A outer s H vs Q E hr h => ?_)
  · obtain ⟨x,fm,es,rfl,_⟩:=h
    rfl
  obtain ⟨x,fm,es,rfl,hx,hf,q⟩:=h
  refine ⟨_,pss_cons (ps_set (i:=1) scWords.nd rfl (Or.inl rfl) (pe_ix ix_tup (pv 0) pe_int (fun _ _ => rfl)))
    (pss_cons (ps_if (pt_cmpR op_eq (pv 1) pe_str (nomark _)) (pss_one (ps_ret (pe_tup (pa_cons pe_str (pa_cons (pe_callTy call_str_int rfl ms bootStr (pa_cons (pe_ix ix_tup (pv 0) pe_int (fun _ _ => rfl)) pa_nil)) (pa_cons (pe_callTy call_str_int rfl ms bootStr (pa_cons (pe_ix ix_tup (pv 0) pe_int (fun _ _ => rfl)) pa_nil)) pa_nil)))))) pss_nil)
    (pss_cons (ps_if (pt_cmpR op_eq (pv 1) pe_str (nomark _)) (pss_one (ps_ret (pe_tup (pa_cons (pe_ix ix_tup (pv 0) pe_int (fun _ _ => rfl)) (pa_cons (pe_callTy call_str_int rfl ms bootStr (pa_cons (pe_ix ix_tup (pv 0) pe_int (fun _ _ => rfl)) pa_nil)) pa_nil))))) pss_nil)
    (pss_cons (ps_if (pt_cmpR op_eq (pv 1) pe_str (nomark _)) (pss_one (ps_ret (pe_tup (pa_cons (pe_ix ix_tup (pv 0) pe_int (fun _ _ => rfl)) pa_nil)))) pss_nil)
    (pss_cons (ps_if (pt_cmpR op_eq (pv 1) pe_str (nomark _)) (pss_one (ps_ret (pe_tup (pa_cons pe_str (pa_cons (pe_callTy call_str_int rfl ms bootStr (pa_cons (pe_ix ix_tup (pv 0) pe_int (fun _ _ => rfl)) pa_nil)) pa_nil))))) pss_nil)
    (pss_cons (ps_if (pt_cmpR op_eq (pv 1) pe_str (nomark _)) (pss_one (ps_ret (pe_tup (pa_cons pe_str (pa_cons (pe_ix ix_tup (pv 0) pe_int (fun _ _ => rfl)) pa_nil))))) pss_nil)
    (pss_cons (ps_if (pt_cmpR op_eq (pv 1) pe_str (nomark _)) (pss_one (ps_ret (pe_tup (pa_cons (pe_call GN hr rfl mN kN bN .nil pass0 (pa_cons (pe_ix ix_tup (pv 0) pe_int (fun _ _ => rfl)) (pa_cons (pe_ix ix_tup (pv 0) pe_int (fun _ _ => rfl)) pa_nil))) pa_nil)))) pss_nil)
    (pss_one (ps_ret (pe_tup (pa_cons (pv 1) pa_nil)))))))))),?_⟩
  have at0:∀ (v:V) (r:List V),atI (v :: r) 0 = some v:=fun v r => (atI_nat (j:=0) rfl:atI (v :: r) ((0:Nat):Int) = _)
  have at1:∀ (v u:V) (r:List V),atI (v :: u :: r) 1 = some u:=fun v u r => (atI_nat (j:=1) rfl:atI (v :: u :: r) ((1:Nat):Int) = _)
  have at2:∀ (v u t:V) (r:List V),atI (v :: u :: t :: r) 2 = some t:=fun v u t r => (atI_nat (j:=2) rfl:atI (v :: u :: t :: r) ((2:Nat):Int) = _)
  cases hx with
  | @call p p2 a t xs _ hp hp2 hxs =>
    obtain ⟨_,h1,h2⟩:=hf
    refine ⟨_,rfl,p,_,_,.str "call",rfl,rfl,SqT.of hp,rfl,?_⟩
    refine ⟨_,rfl,rfl,_,rfl,ite2 (fun c => absurd c (by decide +kernel)) (fun _ => ?_)⟩
    refine ⟨_,rfl,rfl,_,rfl,ite2 (fun c => absurd c (by decide +kernel)) (fun _ => ?_)⟩
    refine ⟨_,rfl,rfl,_,rfl,ite2 (fun c => absurd c (by decide +kernel)) (fun _ => ?_)⟩
    refine ⟨_,rfl,rfl,_,rfl,ite2 (fun c => absurd c (by decide +kernel)) (fun _ => ?_)⟩
    refine ⟨_,rfl,rfl,_,rfl,ite2 (fun c => absurd c (by decide +kernel)) (fun _ => ?_)⟩
    refine ⟨_,rfl,rfl,_,rfl,ite2 (fun _ => ?_) (fun c => absurd (by decide +kernel) c)⟩
    have l1:a.length ≤ 1000:=by
      rcases h2 with e | e
      · rw [e]; decide +kernel
      · have:=(name_facts e).2.1; omega
    have l2:t.length ≤ 1000:=by have:=(name_facts h1).2.1; omega
    exact ⟨_,rfl,p,_,_,.str a,rfl,rfl,SqT.of hp,rfl,_,rfl,p,_,_,.str t,rfl,rfl,SqT.of hp,rfl,a,t,rfl,l1,l2,(by show 1 ≤ sizeLine; decide),fun p3 hp3 => q _ _ (same_new hp3 _) upd_same⟩
  | @node p _ xs _ hc hp hxs =>
    cases fm with
    | lit v b =>
      obtain ⟨_,h1,h2⟩:=hf
      refine ⟨_,rfl,p,_,_,.str "lit",rfl,rfl,SqT.of hp,at0 _ _,?_⟩
      refine ⟨_,rfl,rfl,_,rfl,ite2 (fun _ => ?_) (fun c => absurd (by decide +kernel) c)⟩
      exact ⟨_,rfl,p,_,_,.int v,rfl,rfl,SqT.of hp,at1 _ _ _,v,rfl,log_small (Nat.le_trans (Nat.le_of_lt h1) h2),_,rfl,p,_,_,.int b,rfl,rfl,SqT.of hp,at2 _ _ _ _,b,rfl,log_small h2,(by show 3 ≤ sizeLine; decide),fun p3 hp3 => q _ _ (same_new hp3 _) upd_same⟩
    | op o b =>
      obtain ⟨_,h1,_,h2⟩:=hf
      refine ⟨_,rfl,p,_,_,.str "op",rfl,rfl,SqT.of hp,at0 _ _,?_⟩
      refine ⟨_,rfl,rfl,_,rfl,ite2 (fun c => absurd c (by decide +kernel)) (fun _ => ?_)⟩
      refine ⟨_,rfl,rfl,_,rfl,ite2 (fun _ => ?_) (fun c => absurd (by decide +kernel) c)⟩
      exact ⟨_,rfl,p,_,_,.str o,rfl,rfl,SqT.of hp,at1 _ _ _,_,rfl,p,_,_,.int b,rfl,rfl,SqT.of hp,at2 _ _ _ _,b,rfl,log_small h2,(by show 2 ≤ sizeLine; decide),fun p3 hp3 => q _ _ (same_new hp3 _) upd_same⟩
    | test o =>
      refine ⟨_,rfl,p,_,_,.str "test",rfl,rfl,SqT.of hp,at0 _ _,?_⟩
      refine ⟨_,rfl,rfl,_,rfl,ite2 (fun c => absurd c (by decide +kernel)) (fun _ => ?_)⟩
      refine ⟨_,rfl,rfl,_,rfl,ite2 (fun c => absurd c (by decide +kernel)) (fun _ => ?_)⟩
      refine ⟨_,rfl,rfl,_,rfl,ite2 (fun _ => ?_) (fun c => absurd (by decide +kernel) c)⟩
      exact ⟨_,rfl,p,_,_,.str o,rfl,rfl,SqT.of hp,at1 _ _ _,(by show 1 ≤ sizeLine; decide),fun p3 hp3 => q _ _ (same_new hp3 _) upd_same⟩
    | as_ b =>
      obtain ⟨_,_,h2⟩:=hf
      refine ⟨_,rfl,p,_,_,.str "as",rfl,rfl,SqT.of hp,at0 _ _,?_⟩
      refine ⟨_,rfl,rfl,_,rfl,ite2 (fun c => absurd c (by decide +kernel)) (fun _ => ?_)⟩
      refine ⟨_,rfl,rfl,_,rfl,ite2 (fun c => absurd c (by decide +kernel)) (fun _ => ?_)⟩
      refine ⟨_,rfl,rfl,_,rfl,ite2 (fun c => absurd c (by decide +kernel)) (fun _ => ?_)⟩
      refine ⟨_,rfl,rfl,_,rfl,ite2 (fun _ => ?_) (fun c => absurd (by decide +kernel) c)⟩
      exact ⟨_,rfl,p,_,_,.int b,rfl,rfl,SqT.of hp,at1 _ _ _,b,rfl,log_small h2,(by show 2 ≤ sizeLine; decide),fun p3 hp3 => q _ _ (same_new hp3 _) upd_same⟩
    | let_ z =>
      refine ⟨_,rfl,p,_,_,.str "let",rfl,rfl,SqT.of hp,at0 _ _,?_⟩
      refine ⟨_,rfl,rfl,_,rfl,ite2 (fun c => absurd c (by decide +kernel)) (fun _ => ?_)⟩
      refine ⟨_,rfl,rfl,_,rfl,ite2 (fun c => absurd c (by decide +kernel)) (fun _ => ?_)⟩
      refine ⟨_,rfl,rfl,_,rfl,ite2 (fun c => absurd c (by decide +kernel)) (fun _ => ?_)⟩
      refine ⟨_,rfl,rfl,_,rfl,ite2 (fun c => absurd c (by decide +kernel)) (fun _ => ?_)⟩
      refine ⟨_,rfl,rfl,_,rfl,ite2 (fun _ => ?_) (fun c => absurd (by decide +kernel) c)⟩
      exact ⟨_,rfl,p,_,_,.str z,rfl,rfl,SqT.of hp,at1 _ _ _,(by show 2 ≤ sizeLine; decide),fun p3 hp3 => q _ _ (same_new hp3 _) upd_same⟩
    | br z =>
      have hz:z ≠ "lit" ∧ z ≠ "op" ∧ z ≠ "test" ∧ z ≠ "as" ∧ z ≠ "let" ∧ z ≠ "call":=by
        rcases hf with ⟨rfl,_⟩ | ⟨rfl,_⟩ | ⟨rfl,_⟩ | ⟨rfl,_⟩ <;> decide +kernel
      obtain ⟨z1,z2,z3,z4,z5,z6⟩:=hz
      refine ⟨_,rfl,p,_,_,.str z,rfl,rfl,SqT.of hp,at0 _ _,?_⟩
      refine ⟨_,rfl,rfl,_,rfl,ite2 (fun c => absurd c (str_no z1)) (fun _ => ?_)⟩
      refine ⟨_,rfl,rfl,_,rfl,ite2 (fun c => absurd c (str_no z2)) (fun _ => ?_)⟩
      refine ⟨_,rfl,rfl,_,rfl,ite2 (fun c => absurd c (str_no z3)) (fun _ => ?_)⟩
      refine ⟨_,rfl,rfl,_,rfl,ite2 (fun c => absurd c (str_no z4)) (fun _ => ?_)⟩
      refine ⟨_,rfl,rfl,_,rfl,ite2 (fun c => absurd c (str_no z5)) (fun _ => ?_)⟩
      refine ⟨_,rfl,rfl,_,rfl,ite2 (fun c => absurd c (str_no z6)) (fun _ => ?_)⟩
      exact ⟨_,rfl,(by show 1 ≤ sizeLine; decide),fun p3 hp3 => q _ _ (same_new hp3 _) upd_same⟩
    | call a b => cases hc
theorem scExTree:FnScope ["expression","trees","inner"] ["expression"] (defScope sExTree):=⟨rfl,rfl,rfl,by decide +kernel,rfl,by decide +kernel,by decide +kernel⟩
theorem words_at {H:Hp}:∀ ws:List Str,TrsAt K H (ws.map V.str) (ws.map Tr.w)
  | [] => .nil
  | w :: ws => .cons (.w w) (words_at ws)
set_option maxHeartbeats 0 in
theorem ok_exTree {f fn fi:Addr} {fd fdn fdi:FuncData} (F:Fun K "expression_tree" "expression_tree" sExTree f fd) (bF:Binds K fd ["expression"] []) (kF:PySem.W.keepIn K (.ref f) = true) (mF:mg "expression_tree" = some (.ref f))
    (GN:FnOk P w K mg base CX0 2 fn fdn ["expression"] spWords) (bN:Binds K fdn ["expression"] []) (kN:PySem.W.keepIn K (.ref fn) = true) (mN:mg "words_ahead" = some (.ref fn))
    (GI:FnOk P w K mg base CX0 1 fi fdi ["expression"] spWithin) (bI:Binds K fdi ["expression"] []) (kI:PySem.W.keepIn K (.ref fi) = true) (mI:mg "within" = some (.ref fi))
    (ml:mg "list" = none) (mt:mg "tuple" = none):∀ n,FnOk P w K mg base CX0 (n + 2) f fd ["expression"] (spExTree K n)
  | 0 => ⟨fun vs H Q E h => by obtain ⟨x,k,rfl,_⟩:=h; rfl,fun A outer s H args us vs Q E _ _ _ _ h => by
      obtain ⟨x,k,_,_,_,hd,_⟩:=h
      omega⟩
  | n + 1 => by
    have IH:=ok_exTree F bF kF mF GN bN kN mN GI bI kI mI ml mt n
    refine F.ok scExTree (fun vs H Q E h => ?_) (fun cdv A outer s H vs Q E hr h => ?_)
    · obtain ⟨x,k,rfl,_⟩:=h
      rfl
    obtain ⟨x,k,rfl,hx,hk,hd,q⟩:=h
    have hr1:Room 1 _:=hr.mono (by omega)
    have hr2:Room 2 _:=hr.mono (by omega)
    refine ⟨_,pss_cons (ps_if (pt_cmpR op_eq (pe_ix ix_tup (pv 0) pe_int (fun _ _ => rfl)) pe_str (nomark _)) (pss_one (ps_ret (pe_ix ix_tup (pv 0) pe_int (fun _ _ => rfl)))) pss_nil)
      (pss_cons (ps_set (i:=1) scExTree.nd rfl (Or.inl rfl) (pe_callTy call_list_of rfl ml bootList (pa_cons (pe_call GN hr2 rfl mN kN bN .nil pass0 (pa_cons (pv 0) pa_nil)) pa_nil)))
      (pss_cons (ps_for PassesOwn.never rfl (pi_tup (pe_call GI hr1 rfl mI kI bI .nil pass0 (pa_cons (pv 0) pa_nil))) (pg_name (i:=2) scExTree.nd rfl (Or.inl rfl)) (pss_one (ps_expr (pe_bm PySem.F.plainAttrs_list PySem.F.slot_list_append PySem.F.type_list_append mt_append (pv 1) (pa_cons (pe_call IH hr rfl mF kF bF .nil pass0 (pa_cons (pv 2) pa_nil)) pa_nil)))))
      (pss_one (ps_ret (pe_callTy call_tuple_of rfl mt bootTuple (pa_cons (pv 1) pa_nil)))))),?_⟩
    cases k with
    | var z =>
      cases hx with
      | @var p _ h =>
        exact ⟨_,rfl,p,_,_,.str "var",rfl,rfl,SqT.of h,rfl,rfl,_,rfl,ite2 (fun _ => ⟨_,rfl,p,_,_,.str z,rfl,rfl,SqT.of h,rfl,q _ _ (Same.refl _) (.w _)⟩) (fun c => absurd (by decide +kernel) c)⟩
    | node fm es =>
      obtain ⟨hf,hes⟩:=hk
      obtain ⟨p,z,r,rfl,hp,hz⟩:=node_head hx hf
      have h4:=fits_le hf
      have hd':∀ e ∈ es,e.dp < n:=fun e he => by
        have h1:1 + edps es < n + 1:=hd
        have h2:=edps_mem he
        omega
      refine ⟨_,rfl,p,_,_,.str z,rfl,rfl,SqT.of hp,(atI_nat (j:=0) rfl:atI (V.str z :: r) ((0:Nat):Int) = _),rfl,_,rfl,ite2 (fun c => absurd c (str_no hz)) (fun _ => ?_)⟩
      refine ⟨_,rfl,.ref p,fm,es,rfl,hx,hf,fun H1 r1 s1 hr1' => ⟨r1,_,rfl,.inr (SqT.of hr1'),fun l hl => ?_⟩⟩
      have s2:=same_new hl (.lst (fm.words.map V.str))
      refine ⟨_,rfl,.ref p,fm,es,rfl,hx.same (s1.trans s2),hf,fun H3 r3 xs s3 hr3 hxs => ⟨r3,rfl,⟨_,SqT.of hr3⟩,?_⟩⟩
      have hln:H l = none:=Same.free s1 hl
      have xl:=hxs.length
      have wl:=words_len fm
      refine for_tup (K:=K) (xs:=xs) (fun i σ H4 => ∃ (ts:List V) (v2:Option V),σ = [some (.ref p),some (.ref l),v2] ∧ Same H H4 ∧ (∀ a us,H3 a = some (.tup us) → H4 a = some (.tup us)) ∧ H4 l = some (.lst ts) ∧ TrsAt K H4 ts (fm.words.map Tr.w ++ trs (es.take i)))
        ⟨_,none,rfl,s1.trans (s2.trans s3),(fun _ _ h => h),s3 _ _ upd_same,(by show TrsAt K H3 _ (_ ++ []); rw [List.append_nil]; exact words_at _)⟩ ?_ ?_ ?_
      · rintro i σ H4 _ ⟨ts,v2,rfl,_,k4,_⟩
        exact SqT.of (k4 _ _ hr3)
      · rintro i y σ H4 hy ⟨ts,v2,rfl,s4,k4,hl4,hts⟩
        obtain ⟨e,he,hye⟩:=hxs.get hy
        have hm:=List.mem_of_getElem? he
        have tl:=hts.length
        rw [List.length_append,List.length_map,trs_len,List.length_take] at tl
        refine ⟨_,rfl,.inl ⟨rfl,_,SqL.of hl4⟩,_,rfl,y,e,rfl,hye.keep k4,eoks_mem hes hm,hd' e hm,fun H5 v5 s5 hv5 => ?_⟩
        have hl5:=s5 _ _ hl4
        have kp:∀ a us,H5 a = some (.tup us) → upd H5 l (.lst (ts ++ [v5])) a = some (.tup us):=fun a us h => tup_upd hl5 h
        refine ⟨l,_,_,rfl,rfl,hl5,mid (by omega),ts ++ [v5],_,rfl,sput (s4.trans s5) hln,fun a us h => kp a us (s5 _ _ (k4 a us h)),upd_same,?_⟩
        rw [List.take_add_one,he]
        show TrsAt K _ _ (_ ++ trs (es.take i ++ [e]))
        rw [trs_app,← List.append_assoc]
        exact ((hts.same s5).keep kp).append (.cons (hv5.keep kp) .nil)
      · rintro σ H4 ⟨ts,v2,rfl,s4,k4,hl4,hts⟩
        rw [xl,List.take_length] at hts
        exact ⟨_,rfl,l,ts,rfl,.inl ⟨SqL.of hl4,fun p5 hp5 => q _ _ (s4.trans (same_new hp5 _)) (.n upd_same (hts.same (same_new hp5 _)))⟩⟩
theorem scExText:FnScope ["expression"] ["expression"] (defScope sExText):=⟨rfl,rfl,rfl,by decide +kernel,rfl,by decide +kernel,by decide +kernel⟩
theorem ok_exText {f fk fo:Addr} {fd fdk fdo:FuncData} (F:Fun K "expression_text" "expression_text" sExText f fd)
    (GK:FnOk P w K mg base CX0 33 fk fdk ["expression"] (spExTree K 31)) (bK:Binds K fdk ["expression"] []) (kK:PySem.W.keepIn K (.ref fk) = true) (mK:mg "expression_tree" = some (.ref fk))
    (GO:FnOk P w K mg base CX0 3 fo fdo ["trees"] (spTextOf K)) (bO:Binds K fdo ["trees"] []) (kO:PySem.W.keepIn K (.ref fo) = true) (mO:mg "text_of" = some (.ref fo)):FnOk P w K mg base CX0 34 f fd ["expression"] (spExText K):=by
  refine F.ok scExText (fun vs H Q E h => ?_) (fun cdv A outer s H vs Q E hr h => ?_)
  · obtain ⟨x,k,rfl,_⟩:=h
    rfl
  obtain ⟨x,k,rfl,hx,hk,hd,hl,q⟩:=h
  have hr3:Room 3 _:=hr.mono (by decide)
  refine ⟨_,pss_one (ps_ret (pe_call GO hr3 rfl mO kO bO .nil pass0 (pa_cons (pe_lst (pa_cons (pe_call GK hr rfl mK kK bK .nil pass0 (pa_cons (pv 0) pa_nil)) pa_nil)) pa_nil))),?_⟩
  obtain ⟨f1,f2⟩:=ex_fits hk hl
  obtain ⟨g1,g2,g3⟩:=text_fits (ts:=[k.tr]) (by omega) (by omega)
  refine ⟨_,rfl,x,k,rfl,hx,hk,by omega,fun H1 v s1 hv => ⟨(by show 1 ≤ sizeLine; decide),fun l hl1 => ?_⟩⟩
  have s2:=same_new hl1 (.lst [v])
  exact ⟨l,_,[k.tr],rfl,SqL.of upd_same,.cons (hv.same s2) .nil,g1,g2,g3,fun H3 z s3 hz => q _ _ (s1.trans (s2.trans s3)) hz⟩
end
end K18
namespace K18
open PySem L2
theorem kd_dep:∀ k:Kd,k.dp ≤ k.tr.dep
  | .num _ => Nat.zero_le _
  | .name _ _ => Nat.zero_le _
  | .pair a b => by
    have h1:=kd_dep a
    have h2:=kd_dep b
    show 1 + max a.dp b.dp ≤ 1 + max 0 (max a.tr.dep (max b.tr.dep 0))
    omega
theorem kind_fits {k:Kd} (hk:k.ok) (hl:k.tr.flat.length ≤ 200):(flats [k.tr]).length ≤ 200 ∧ ((flats [k.tr]).map List.length).sum ≤ 5000:=by
  rw [flats_one]
  have:=sum_le (ps:=k.tr.flat) fun p hp => (tr_toks hk p hp).1
  exact ⟨hl,by omega⟩
noncomputable def spKindTree (K:PySem.W.Frag) (n:Nat):Sp:=fun vs H Q _ => ∃ (x:V) (k:Kd),vs = [x] ∧ KdAt K H x k ∧ k.ok ∧ k.dp < n ∧ ∀ H' v,Same H H' → TrAt K H' v k.tr → Q v H'
noncomputable def spKindText (K:PySem.W.Frag):Sp:=fun vs H Q _ => ∃ (x:V) (k:Kd),vs = [x] ∧ KdAt K H x k ∧ k.ok ∧ k.dp ≤ 30 ∧ k.tr.flat.length ≤ 200 ∧ ∀ H' (z:Str),Same H H' → cps z = k.tr.text → Q (.str z) H'
section
variable {P:Program} {w:World} {K:PySem.W.Frag} {mg:Str → Option Value} {base:Heap}
theorem scKindTree:FnScope ["kind"] ["kind"] (defScope sKindTree):=⟨rfl,rfl,rfl,by decide +kernel,rfl,by decide +kernel,by decide +kernel⟩
set_option maxHeartbeats 0 in
theorem ok_kindTree {f fn:Addr} {fd fdn:FuncData} (F:Fun K "kind_tree" "kind_tree" sKindTree f fd) (bF:Binds K fd ["kind"] []) (kF:PySem.W.keepIn K (.ref f) = true) (mF:mg "kind_tree" = some (.ref f))
    (GN:FnOk P w K mg base CX0 1 fn fdn ["part","name"] spNearFarW) (bN:Binds K fdn ["part","name"] []) (kN:PySem.W.keepIn K (.ref fn) = true) (mN:mg "near_or_far_word" = some (.ref fn)) (ms:mg "str" = none):∀ n,FnOk P w K mg base CX0 (n + 1) f fd ["kind"] (spKindTree K n)
  | 0 => ⟨fun vs H Q E h => by obtain ⟨x,k,rfl,_⟩:=h; rfl,fun A outer s H args us vs Q E _ _ _ _ h => by
      obtain ⟨x,k,_,_,_,hd,_⟩:=h
      omega⟩
  | n + 1 => by
    have IH:=ok_kindTree F bF kF mF GN bN kN mN ms n
    refine F.ok scKindTree (fun vs H Q E h => ?_) (fun cdv A outer s H vs Q E hr h => ?_)
    · obtain ⟨x,k,rfl,_⟩:=h
      rfl
    obtain ⟨x,k,rfl,hx,hk,hd,q⟩:=h
    have hr1:Room 1 _:=hr.mono (by omega)
    refine ⟨_,pss_cons (ps_if (pt_cmpR op_eq (pe_ix ix_tup (pv 0) pe_int (fun _ _ => rfl)) pe_str (nomark _)) (pss_one (ps_ret (pe_tup (pa_cons pe_str (pa_cons (pe_callTy call_str_int rfl ms bootStr (pa_cons (pe_ix ix_tup (pv 0) pe_int (fun _ _ => rfl)) pa_nil)) pa_nil))))) pss_nil)
      (pss_cons (ps_if (pt_cmpR op_eq (pe_ix ix_tup (pv 0) pe_int (fun _ _ => rfl)) pe_str (nomark _)) (pss_one (ps_ret (pe_tup (pa_cons pe_str (pa_cons (pe_call IH hr rfl mF kF bF .nil pass0 (pa_cons (pe_ix ix_tup (pv 0) pe_int (fun _ _ => rfl)) pa_nil)) (pa_cons (pe_call IH hr rfl mF kF bF .nil pass0 (pa_cons (pe_ix ix_tup (pv 0) pe_int (fun _ _ => rfl)) pa_nil)) pa_nil)))))) pss_nil)
      (pss_one (ps_ret (pe_call GN hr1 rfl mN kN bN .nil pass0 (pa_cons (pe_ix ix_tup (pv 0) pe_int (fun _ _ => rfl)) (pa_cons (pe_ix ix_tup (pv 0) pe_int (fun _ _ => rfl)) pa_nil)))))),?_⟩
    cases hx with
    | @num p m h =>
      refine ⟨_,rfl,p,_,_,.str "num",rfl,rfl,SqT.of h,rfl,rfl,_,rfl,ite2 (fun _ => ?_) (fun c => absurd (by decide +kernel) c)⟩
      have hm:1 ≤ m ∧ m ≤ 1000000000000000000:=hk
      refine ⟨_,rfl,p,_,_,.int m,rfl,rfl,SqT.of h,rfl,m,rfl,?_,(by show 2 ≤ sizeLine; decide),fun p2 hp2 => ?_⟩
      · exact (Nat.log2_lt (by omega)).mpr (Nat.lt_of_le_of_lt (show (m:Int).natAbs ≤ 1000000000000000000 by omega) (by decide))
      · exact q _ _ (same_new hp2 _) (.n upd_same (.cons (.w "num") (.cons (.w _) .nil)))
    | @name p a t h =>
      have hk':nameOk t = true ∧ (a = "" ∨ nameOk a = true):=hk
      refine ⟨_,rfl,p,_,_,.str "name",rfl,rfl,SqT.of h,rfl,rfl,_,rfl,ite2 (fun c => absurd c (by decide +kernel)) (fun _ => ?_)⟩
      refine ⟨_,rfl,p,_,_,.str "name",rfl,rfl,SqT.of h,rfl,rfl,_,rfl,ite2 (fun c => absurd c (by decide +kernel)) (fun _ => ?_)⟩
      have l1:a.length ≤ 1000:=by
        rcases hk'.2 with e | e
        · rw [e]; decide +kernel
        · have:=(name_facts e).2.1; omega
      have l2:t.length ≤ 1000:=by have:=(name_facts hk'.1).2.1; omega
      exact ⟨_,rfl,p,_,_,.str a,rfl,rfl,SqT.of h,rfl,_,rfl,p,_,_,.str t,rfl,rfl,SqT.of h,rfl,a,t,rfl,l1,l2,q _ _ (Same.refl _) (.w _)⟩
    | @pair p x1 y1 a b h ha hb =>
      have hd':1 + max a.dp b.dp < n + 1:=hd
      refine ⟨_,rfl,p,_,_,.str "pair",rfl,rfl,SqT.of h,rfl,rfl,_,rfl,ite2 (fun c => absurd c (by decide +kernel)) (fun _ => ?_)⟩
      refine ⟨_,rfl,p,_,_,.str "pair",rfl,rfl,SqT.of h,rfl,rfl,_,rfl,ite2 (fun _ => ?_) (fun c => absurd (by decide +kernel) c)⟩
      refine ⟨_,rfl,p,_,_,x1,rfl,rfl,SqT.of h,rfl,x1,a,rfl,ha,hk.1,by omega,fun H2 v2 s2 k2 => ?_⟩
      refine ⟨_,rfl,p,_,_,y1,rfl,rfl,SqT.of (s2 _ _ h),rfl,y1,b,rfl,hb.same s2,hk.2,by omega,fun H3 v3 s3 k3 => ⟨(by show 3 ≤ sizeLine; decide),fun p4 hp4 => ?_⟩⟩
      have s4:=same_new hp4 (.tup [.str "pair",v2,v3])
      exact q _ _ (s2.trans (s3.trans s4)) (.n upd_same (.cons (.w "pair") (.cons (k2.same (s3.trans s4)) (.cons (k3.same s4) .nil))))
theorem scKindText:FnScope ["kind"] ["kind"] (defScope sKindText):=⟨rfl,rfl,rfl,by decide +kernel,rfl,by decide +kernel,by decide +kernel⟩
theorem ok_kindText {f fk fo:Addr} {fd fdk fdo:FuncData} (F:Fun K "kind_text" "kind_text" sKindText f fd)
    (GK:FnOk P w K mg base CX0 32 fk fdk ["kind"] (spKindTree K 31)) (bK:Binds K fdk ["kind"] []) (kK:PySem.W.keepIn K (.ref fk) = true) (mK:mg "kind_tree" = some (.ref fk))
    (GO:FnOk P w K mg base CX0 3 fo fdo ["trees"] (spTextOf K)) (bO:Binds K fdo ["trees"] []) (kO:PySem.W.keepIn K (.ref fo) = true) (mO:mg "text_of" = some (.ref fo)):FnOk P w K mg base CX0 33 f fd ["kind"] (spKindText K):=by
  refine F.ok scKindText (fun vs H Q E h => ?_) (fun cdv A outer s H vs Q E hr h => ?_)
  · obtain ⟨x,k,rfl,_⟩:=h
    rfl
  obtain ⟨x,k,rfl,hx,hk,dk,hl,q⟩:=h
  have hr3:Room 3 _:=hr.mono (by decide)
  refine ⟨_,pss_one (ps_ret (pe_call GO hr3 rfl mO kO bO .nil pass0 (pa_cons (pe_lst (pa_cons (pe_call GK hr rfl mK kK bK .nil pass0 (pa_cons (pv 0) pa_nil)) pa_nil)) pa_nil))),?_⟩
  obtain ⟨f1,f2⟩:=kind_fits hk hl
  obtain ⟨g1,g2,g3⟩:=text_fits (ts:=[k.tr]) (by omega) (by omega)
  refine ⟨_,rfl,x,k,rfl,hx,hk,by omega,fun H1 v s1 hv => ⟨(by show 1 ≤ sizeLine; decide),fun l hl1 => ?_⟩⟩
  have s2:=same_new hl1 (.lst [v])
  exact ⟨l,_,[k.tr],rfl,SqL.of upd_same,.cons (hv.same s2) .nil,g1,g2,g3,fun H3 z s3 hz => q _ _ (s1.trans (s2.trans s3)) hz⟩
end
end K18
namespace K18
open PySem L2
noncomputable def kd1:List Tr → Option Kd
  | [t] => kd? t
  | _ => none
noncomputable def ex1:List Tr → Option Ex
  | [t] => ex? t
  | _ => none
structure TxOk (z:Str):Prop where
  len:z.length ≤ 9000
  tok:∀ p ∈ Tk.toks (cps z),TokC p
  cnt:(Tk.toks (cps z)).length ≤ 200
theorem TxOk.sms {z:Str} (h:TxOk z) {ts:List Tr} (ho:oks ts) (hf:flats ts = Tk.toks (cps z)) (hg:hgt 0 (Tk.toks (cps z)) = some 0):Sms ts :=
  ⟨by rw [hf]; exact h.tok,by rw [hf]; exact h.cnt,deps_le ho (by rw [hf]; exact hg)⟩
noncomputable def spReadKind (K:PySem.W.Frag) (CF CT:Addr):Sp:=fun vs H Q E => ∃ z:Str,vs = [.str z] ∧ TxOk z ∧ (hgt 0 (Tk.toks (cps z)) ≠ some 0 → Rf CT E H) ∧
  (hgt 0 (Tk.toks (cps z)) = some 0 → ∀ ts,oks ts → flats ts = Tk.toks (cps z) → (∀ k,kd1 ts = some k → ∀ H' v,Same H H' → KdAt K H' v k → Q v H') ∧ (kd1 ts = none → Rf CF E H))
noncomputable def spReadEx (K:PySem.W.Frag) (CF CT:Addr):Sp:=fun vs H Q E => ∃ z:Str,vs = [.str z] ∧ TxOk z ∧ (hgt 0 (Tk.toks (cps z)) ≠ some 0 → Rf CT E H) ∧
  (hgt 0 (Tk.toks (cps z)) = some 0 → ∀ ts,oks ts → flats ts = Tk.toks (cps z) → (∀ e,ex1 ts = some e → ∀ H' v,Same H H' → ExAt H' v e → Q v H') ∧ (ex1 ts = none → Rf CF E H))
section
variable {P:Program} {w:World} {K:PySem.W.Frag} {mg:Str → Option Value} {base:Heap}
theorem scReadKind:FnScope ["text"] ["text"] (defScope sReadKind):=⟨rfl,rfl,rfl,by decide +kernel,rfl,by decide +kernel,by decide +kernel⟩
theorem ok_readKind {f ft fs fk CT CF:Addr} {fd fdt fds fdk:FuncData} (F:Fun K "read_kind" "read_kind" sReadKind f fd)
    (GT:FnOk P w K mg base (CX1 P w) 2 ft fdt ["text"] (spTrees K CT)) (bT:Binds K fdt ["text"] []) (kT:PySem.W.keepIn K (.ref ft) = true) (mT:mg "trees_of" = some (.ref ft))
    (GS:FnOk P w K mg base (CX1 P w) 1 fs fds ["trees"] (spSingle K CF)) (bS:Binds K fds ["trees"] []) (kS:PySem.W.keepIn K (.ref fs) = true) (mS:mg "single" = some (.ref fs))
    (GK:FnOk P w K mg base (CX1 P w) 34 fk fdk ["tree"] (spKindOf K CF 31)) (bK:Binds K fdk ["tree"] []) (kK:PySem.W.keepIn K (.ref fk) = true) (mK:mg "kind_of_tree" = some (.ref fk)):FnOk P w K mg base (CX1 P w) 35 f fd ["text"] (spReadKind K CF CT):=by
  refine F.okX scReadKind (fun vs H Q E h => ?_) (fun cdv A outer s H vs Q E hr h => ?_)
  · obtain ⟨z,rfl,_⟩:=h
    rfl
  obtain ⟨z,rfl,hz,qT,q⟩:=h
  have hr1:Room 1 _:=hr.mono (by decide)
  have hr2:Room 2 _:=hr.mono (by decide)
  refine ⟨_,pss_one (ps_ret (pe_call GK hr rfl mK kK bK .nil pass1 (pa_cons (pe_call GS hr1 rfl mS kS bS .nil pass1 (pa_cons (pe_call GT hr2 rfl mT kT bT .nil pass1 (pa_cons (pv 0) pa_nil)) pa_nil)) pa_nil))),?_⟩
  refine ⟨_,rfl,z,rfl,hz.len,qT,fun hg H1 l xs ts s1 _ hl1 hts hok hf => ?_⟩
  have sm:=hz.sms hok hf hg
  obtain ⟨q1,q2⟩:=q hg ts hok hf
  have tl:=hts.length
  have cl:=sm.count
  refine ⟨l,xs,rfl,SqL.of hl1,by omega,fun x e => ?_,fun ne => Rf.same (q2 ?_) s1⟩
  · subst e
    match ts,hts,sm,q1,q2 with
    | [t],.cons hx .nil,sm,q1,q2 => exact ⟨x,t,rfl,hx,sm.head,by have:=sm.head.dep; omega,fun k ek H' v s' hv => q1 k ek H' v (s1.trans s') hv,fun ek => Rf.same (q2 ek) s1⟩
  · match ts,tl with
    | [],_ => rfl
    | [_],tl => exact absurd tl ne
    | _ :: _ :: _,_ => rfl
theorem scReadEx:FnScope ["text"] ["text"] (defScope sReadEx):=⟨rfl,rfl,rfl,by decide +kernel,rfl,by decide +kernel,by decide +kernel⟩
theorem ok_readEx {f ft fs fk CT CF:Addr} {fd fdt fds fdk:FuncData} (F:Fun K "read_expression" "read_expression" sReadEx f fd)
    (GT:FnOk P w K mg base (CX1 P w) 2 ft fdt ["text"] (spTrees K CT)) (bT:Binds K fdt ["text"] []) (kT:PySem.W.keepIn K (.ref ft) = true) (mT:mg "trees_of" = some (.ref ft))
    (GS:FnOk P w K mg base (CX1 P w) 1 fs fds ["trees"] (spSingle K CF)) (bS:Binds K fds ["trees"] []) (kS:PySem.W.keepIn K (.ref fs) = true) (mS:mg "single" = some (.ref fs))
    (GK:FnOk P w K mg base (CX1 P w) 98 fk fdk ["tree"] (spExOf K CF 31)) (bK:Binds K fdk ["tree"] []) (kK:PySem.W.keepIn K (.ref fk) = true) (mK:mg "expression_of_tree" = some (.ref fk)):FnOk P w K mg base (CX1 P w) 99 f fd ["text"] (spReadEx K CF CT):=by
  refine F.okX scReadEx (fun vs H Q E h => ?_) (fun cdv A outer s H vs Q E hr h => ?_)
  · obtain ⟨z,rfl,_⟩:=h
    rfl
  obtain ⟨z,rfl,hz,qT,q⟩:=h
  have hr1:Room 1 _:=hr.mono (by decide)
  have hr2:Room 2 _:=hr.mono (by decide)
  refine ⟨_,pss_one (ps_ret (pe_call GK hr rfl mK kK bK .nil pass1 (pa_cons (pe_call GS hr1 rfl mS kS bS .nil pass1 (pa_cons (pe_call GT hr2 rfl mT kT bT .nil pass1 (pa_cons (pv 0) pa_nil)) pa_nil)) pa_nil))),?_⟩
  refine ⟨_,rfl,z,rfl,hz.len,qT,fun hg H1 l xs ts s1 _ hl1 hts hok hf => ?_⟩
  have sm:=hz.sms hok hf hg
  obtain ⟨q1,q2⟩:=q hg ts hok hf
  have tl:=hts.length
  have cl:=sm.count
  refine ⟨l,xs,rfl,SqL.of hl1,by omega,fun x e => ?_,fun ne => Rf.same (q2 ?_) s1⟩
  · subst e
    match ts,hts,sm,q1,q2 with
    | [t],.cons hx .nil,sm,q1,q2 => exact ⟨x,t,rfl,hx,sm.head,by have:=sm.head.dep; omega,fun k ek H' v s' hv => q1 k ek H' v (s1.trans s') hv,fun ek => Rf.same (q2 ek) s1⟩
  · match ts,tl with
    | [],_ => rfl
    | [_],tl => exact absurd tl ne
    | _ :: _ :: _,_ => rfl
end
noncomputable def fitB (b:Bool) (t:Tr):Bool:=if b = true then (kd? t).isSome else (ex? t).isSome
noncomputable def fit1 (b:Bool):List Tr → Bool
  | [t] => fitB b t
  | _ => false
noncomputable def spRead (K:PySem.W.Frag):Sp:=fun vs H Q _ => ∃ (z:Str) (b:Bool),vs = [.str z,.bl b] ∧ TxOk z ∧ (hgt 0 (Tk.toks (cps z)) ≠ some 0 → ∀ H' (p:Addr),Same H H' → H' p = some (.tup [.str "tree",.non]) → Q (.ref p) H') ∧
  (hgt 0 (Tk.toks (cps z)) = some 0 → ∀ ts,oks ts → flats ts = Tk.toks (cps z) → (fit1 b ts = true → ∀ t,ts = [t] → ∀ H' (p:Addr) (y:Str),Same H H' → cps y = t.text → H' p = some (.tup [.str "",.str y]) → Q (.ref p) H') ∧ (fit1 b ts = false → ∀ H' (p:Addr),Same H H' → H' p = some (.tup [.str "form",.non]) → Q (.ref p) H'))
noncomputable def spOfTree (K:PySem.W.Frag):Sp:=fun vs H Q _ => ∃ (x:V) (t:Tr) (b:Bool),vs = [x,.bl b] ∧ TrAt K H x t ∧ Sm t ∧ ∀ H',Same H H' → Q (.bl (!fitB b t)) H'
noncomputable def tryHs:List Stmt → List ExceptHandler
  | .Try _ hs _ _ _ :: _ => hs
  | _ => []
section
variable {P:Program} {w:World} {K:PySem.W.Frag} {mg:Str → Option Value} {base:Heap}
noncomputable abbrev otN:List Str:=["_law_tree","_law_is_kind_here","_law_refused"]
noncomputable abbrev otP:List Str:=["_law_tree","_law_is_kind_here"]
theorem scOfTree:FnScope otN otP (defScope sOfTree):=⟨rfl,rfl,rfl,by decide +kernel,rfl,by decide +kernel,by decide +kernel⟩
set_option maxHeartbeats 0 in
theorem ok_ofTree {f fk fe CF:Addr} {fd fdk fde:FuncData} (F:Fun K "_law_of_tree" "_law_of_tree" sOfTree f fd)
    (GK:FnOk P w K mg base (CX1 P w) 34 fk fdk ["tree"] (spKindOf K CF 31)) (bK:Binds K fdk ["tree"] []) (kK:PySem.W.keepIn K (.ref fk) = true) (mK:mg "kind_of_tree" = some (.ref fk))
    (GE:FnOk P w K mg base (CX1 P w) 98 fe fde ["tree"] (spExOf K CF 31)) (bE:Binds K fde ["tree"] []) (kE:PySem.W.keepIn K (.ref fe) = true) (mE:mg "expression_of_tree" = some (.ref fe))
    (mF:mg "NoForm" = some (.ref CF)) (x1:PySem.W.exmOne K (.ref CF) (.ref CF) = some true):FnOk P w K mg base CX0 99 f fd otP (spOfTree K):=by
  refine F.ok scOfTree (fun vs H Q E h => ?_) (fun cdv A outer s H vs Q E hr h => ?_)
  · obtain ⟨x,t,b,rfl,_⟩:=h
    rfl
  obtain ⟨x,t,b,rfl,hx,sm,q⟩:=h
  have hr34:Room 34 _:=hr.mono (by decide)
  have dp:=sm.dep
  obtain ⟨th,hh,hW⟩:∃ th,PH (cxOf CX0 P w K mg base otN "_law_of_tree" (defScope sOfTree) f cdv A outer s H E).nox (tryHs (List.drop 1 (defBody sOfTree))) th ∧
      (∀ D e H',H' e = none → (∀ H2,Same H' H2 → D.nx [some x,some (.bl b),some (.bl true)] H2) → th D (.ref CF) none e [some x,some (.bl b),some (.bl false)] H'):=by
    refine ⟨_,ph_cons rfl mF (fun e => pss_one (ps_set (i:=2) scOfTree.nd rfl (Or.inl rfl) pe_bl)) ph_nil,?_⟩
    intro D e H' he q
    exact ⟨true,x1,iteT (q _ (Same.refl _))⟩
  refine ⟨_,pss_cons (ps_set (i:=2) scOfTree.nd rfl (Or.inl rfl) pe_bl)
    (pss_cons (ps_try fun pins D => pss_one (ps_if (pt_val (pv 1)) (pss_one (ps_expr (pe_callE GK hr34 (by rfl) mK kK bK .nil (passT rfl rfl hh) (pa_cons (pv 0) pa_nil)))) (pss_one (ps_expr (pe_callE GE hr (by rfl) mE kE bE .nil (passT rfl rfl hh) (pa_cons (pv 0) pa_nil))))))
    (pss_one (ps_ret (pv 2)))),?_⟩
  cases b with
  | true =>
    refine ⟨_,rfl,true,rfl,iteT ?_⟩
    refine ⟨_,rfl,x,t,rfl,hx,sm,by omega,fun k ek H' v s' hv => ⟨_,rfl,?_⟩,fun ek H' s' a ha => hW _ a H' ha fun H2 s2 => ⟨_,rfl,?_⟩⟩
    · have:=q H' s'
      unfold fitB at this
      rw [if_pos rfl,ek] at this
      exact this
    · have:=q H2 (s'.trans s2)
      unfold fitB at this
      rw [if_pos rfl,ek] at this
      exact this
  | false =>
    refine ⟨_,rfl,false,rfl,iteF ?_⟩
    refine ⟨_,rfl,x,t,rfl,hx,sm,by omega,fun k ek H' v s' hv => ⟨_,rfl,?_⟩,fun ek H' s' a ha => hW _ a H' ha fun H2 s2 => ⟨_,rfl,?_⟩⟩
    · have:=q H' s'
      unfold fitB at this
      rw [if_neg (by decide),ek] at this
      exact this
    · have:=q H2 (s'.trans s2)
      unfold fitB at this
      rw [if_neg (by decide),ek] at this
      exact this
end
end K18
namespace K18
open PySem L2
theorem kd1_is {ts:List Tr} {k:Kd} (h:kd1 ts = some k):ts = [k.tr] ∧ k.ok:=by
  match ts,h with
  | [t],h =>
    obtain ⟨h1,h2⟩:=kd_is t k h
    exact ⟨by rw [h1],h2⟩
theorem ex1_is {ts:List Tr} {e:Ex} (h:ex1 ts = some e):ts = [e.tr] ∧ e.ok:=by
  match ts,h with
  | [t],h =>
    obtain ⟨h1,h2⟩:=ex_is t e h
    exact ⟨by rw [h1],h2⟩
theorem fit1_k (ts:List Tr):fit1 true ts = (kd1 ts).isSome:=by
  match ts with
  | [] => rfl
  | [t] => rfl
  | _ :: _ :: _ => rfl
theorem fit1_e (ts:List Tr):fit1 false ts = (ex1 ts).isSome:=by
  match ts with
  | [] => rfl
  | [t] => rfl
  | _ :: _ :: _ => rfl
section
variable {P:Program} {w:World} {K:PySem.W.Frag} {mg:Str → Option Value} {base:Heap}
noncomputable abbrev rdN:List Str:=["_law_text","_law_is_kind_here","_law_found","_law_refused"]
noncomputable abbrev rdP:List Str:=["_law_text","_law_is_kind_here"]
theorem scRead:FnScope rdN rdP (defScope sRead):=⟨rfl,rfl,rfl,by decide +kernel,rfl,by decide +kernel,by decide +kernel⟩
set_option maxHeartbeats 0 in
theorem ok_read {f fk fe fx fy CF CT:Addr} {fd fdk fde fdx fdy:FuncData} (F:Fun K "_law_read" "_law_read" sRead f fd)
    (GK:FnOk P w K mg base (CX1 P w) 35 fk fdk ["text"] (spReadKind K CF CT)) (bK:Binds K fdk ["text"] []) (kK:PySem.W.keepIn K (.ref fk) = true) (mK:mg "read_kind" = some (.ref fk))
    (GE:FnOk P w K mg base (CX1 P w) 99 fe fde ["text"] (spReadEx K CF CT)) (bE:Binds K fde ["text"] []) (kE:PySem.W.keepIn K (.ref fe) = true) (mE:mg "read_expression" = some (.ref fe))
    (GX:FnOk P w K mg base CX0 33 fx fdx ["kind"] (spKindText K)) (bX:Binds K fdx ["kind"] []) (kX:PySem.W.keepIn K (.ref fx) = true) (mX:mg "kind_text" = some (.ref fx))
    (GY:FnOk P w K mg base CX0 34 fy fdy ["expression"] (spExText K)) (bY:Binds K fdy ["expression"] []) (kY:PySem.W.keepIn K (.ref fy) = true) (mY:mg "expression_text" = some (.ref fy))
    (mF:mg "NoForm" = some (.ref CF)) (mT:mg "NoTree" = some (.ref CT)) (x1:PySem.W.exmOne K (.ref CF) (.ref CF) = some true) (x2:PySem.W.exmOne K (.ref CT) (.ref CF) = some false) (x3:PySem.W.exmOne K (.ref CT) (.ref CT) = some true):FnOk P w K mg base CX0 100 f fd rdP (spRead K):=by
  refine F.ok scRead (fun vs H Q E h => ?_) (fun cdv A outer s H vs Q E hr h => ?_)
  · obtain ⟨z,b,rfl,_⟩:=h
    rfl
  obtain ⟨z,b,rfl,hz,qT,q⟩:=h
  have hr35:Room 35 _:=hr.mono (by decide)
  have hr33:Room 33 _:=hr.mono (by decide)
  have hr34:Room 34 _:=hr.mono (by decide)
  obtain ⟨th,hh,hW,hN⟩:∃ th,PH (cxOf CX0 P w K mg base rdN "_law_read" (defScope sRead) f cdv A outer s H E).nox (tryHs (List.drop 2 (defBody sRead))) th ∧
      (∀ D e H',H' e = none → (∀ H2,Same H' H2 → D.nx [some (.str z),some (.bl b),some .non,some (.str "form")] H2) → th D (.ref CF) none e [some (.str z),some (.bl b),some .non,some (.str "")] H') ∧
      (∀ D e H',H' e = none → (∀ H2,Same H' H2 → D.nx [some (.str z),some (.bl b),some .non,some (.str "tree")] H2) → th D (.ref CT) none e [some (.str z),some (.bl b),some .non,some (.str "")] H'):=by
    refine ⟨_,ph_cons rfl mF (fun e => pss_one (ps_set (i:=3) scRead.nd rfl (Or.inl rfl) pe_str)) (ph_cons rfl mT (fun e => pss_one (ps_set (i:=3) scRead.nd rfl (Or.inl rfl) pe_str)) ph_nil),?_,?_⟩
    · intro D e H' he q
      exact ⟨true,x1,iteT (q _ (Same.refl _))⟩
    · intro D e H' he q
      exact ⟨false,x2,iteF ⟨true,x3,iteT (q _ (Same.refl _))⟩⟩
  refine ⟨_,pss_cons (ps_set (i:=2) scRead.nd rfl (Or.inl rfl) pe_non) (pss_cons (ps_set (i:=3) scRead.nd rfl (Or.inl rfl) pe_str)
    (pss_cons (ps_try fun pins D => pss_one (ps_if (pt_val (pv 1)) (pss_one (ps_set (i:=2) scRead.nd rfl (Or.inl rfl) (pe_call GX hr33 (by rfl) mX kX bX .nil pass0 (pa_cons (pe_callE GK hr35 (by rfl) mK kK bK .nil (passT rfl rfl hh) (pa_cons (pv 0) pa_nil)) pa_nil))))
      (pss_one (ps_set (i:=2) scRead.nd rfl (Or.inl rfl) (pe_call GY hr34 (by rfl) mY kY bY .nil pass0 (pa_cons (pe_callE GE hr (by rfl) mE kE bE .nil (passT rfl rfl hh) (pa_cons (pv 0) pa_nil)) pa_nil))))))
    (pss_one (ps_ret (pe_tup (pa_cons (pv 3) (pa_cons (pv 2) pa_nil))))))),?_⟩
  cases b with
  | true =>
    refine ⟨_,rfl,true,rfl,iteT ?_⟩
    refine ⟨_,rfl,z,rfl,hz,fun bad H1 s1 a ha => hN _ a H1 ha fun H2 s2 => ?_,fun good ts hok hf => ⟨fun k ek H1 v s1 hv => ?_,fun ek H1 s1 a ha => hW _ a H1 ha fun H2 s2 => ?_⟩⟩
    · exact ⟨_,rfl,_,rfl,(by show 2 ≤ sizeLine; decide),fun p hp => qT bad _ p ((s1.trans s2).trans (same_new hp _)) upd_same⟩
    · obtain ⟨e1,e2⟩:=kd1_is ek
      have sm:=hz.sms hok hf good
      obtain ⟨q1,_⟩:=q good ts hok hf
      subst e1
      have dk:=kd_dep k
      have dd:=sm.head.dep
      refine ⟨v,k,rfl,hv,e2,by omega,sm.head.len,fun H2 y s2 hy => ?_⟩
      exact ⟨_,rfl,_,rfl,(by show 2 ≤ sizeLine; decide),fun p hp => q1 (by rw [fit1_k,ek]; rfl) _ rfl _ p y ((s1.trans s2).trans (same_new hp _)) hy upd_same⟩
    · obtain ⟨_,q2⟩:=q good ts hok hf
      exact ⟨_,rfl,_,rfl,(by show 2 ≤ sizeLine; decide),fun p hp => q2 (by rw [fit1_k,ek]; rfl) _ p ((s1.trans s2).trans (same_new hp _)) upd_same⟩
  | false =>
    refine ⟨_,rfl,false,rfl,iteF ?_⟩
    refine ⟨_,rfl,z,rfl,hz,fun bad H1 s1 a ha => hN _ a H1 ha fun H2 s2 => ?_,fun good ts hok hf => ⟨fun k ek H1 v s1 hv => ?_,fun ek H1 s1 a ha => hW _ a H1 ha fun H2 s2 => ?_⟩⟩
    · exact ⟨_,rfl,_,rfl,(by show 2 ≤ sizeLine; decide),fun p hp => qT bad _ p ((s1.trans s2).trans (same_new hp _)) upd_same⟩
    · obtain ⟨e1,e2⟩:=ex1_is ek
      have sm:=hz.sms hok hf good
      obtain ⟨q1,_⟩:=q good ts hok hf
      subst e1
      have dk:=ex_dep k
      have dd:=sm.head.dep
      refine ⟨v,k,rfl,hv,e2,by omega,sm.head.len,fun H2 y s2 hy => ?_⟩
      exact ⟨_,rfl,_,rfl,(by show 2 ≤ sizeLine; decide),fun p hp => q1 (by rw [fit1_e,ek]; rfl) _ rfl _ p y ((s1.trans s2).trans (same_new hp _)) hy upd_same⟩
    · obtain ⟨_,q2⟩:=q good ts hok hf
      exact ⟨_,rfl,_,rfl,(by show 2 ≤ sizeLine; decide),fun p hp => q2 (by rw [fit1_e,ek]; rfl) _ p ((s1.trans s2).trans (same_new hp _)) upd_same⟩
end
theorem Sm.laid {t:Tr} (h:Sm t):t.dat.canLay0 = true ∧ t.dat.depth ≤ 30 :=
  ⟨dat_lay fun p hp => (h.tok p hp).2.2,Nat.le_trans (shw_tr h.tok).dp h.dep⟩
theorem Sm.shaped {t:Tr} (h:Sm t):SeqAt.shaped t.dat = true:=by
  unfold SeqAt.shaped
  rw [h.laid.1,decide_eq_true (by have:=h.laid.2; omega)]
  rfl
noncomputable def isW (u:Tr) (s:Str):Bool:=match u with
  | .w z => decide (z = s)
  | .n _ => false
theorem eqv_w (u:Tr) (s:Str):PyData.eqv u.dat (.str s) = isW u s:=by
  cases u with
  | w z => simp only [Tr.dat,PyData.eqv,isW]; rfl
  | n ts => simp [Tr.dat,PyData.eqv,isW]
theorem eqv_w' (u:Tr) (s:Str):PyData.eqv (.str s) u.dat = isW u s:=by
  cases u with
  | w z =>
    simp only [Tr.dat,PyData.eqv,isW]
    show decide (s = z) = decide (z = s)
    by_cases h:s = z
    · rw [decide_eq_true h,decide_eq_true h.symm]
    · rw [decide_eq_false h,decide_eq_false fun e => h e.symm]
  | n ts => simp [Tr.dat,PyData.eqv,isW]
noncomputable def spIsName (K:PySem.W.Frag):Sp:=fun vs H Q _ => ∃ x,vs = [x] ∧ ((∃ s:Str,x = .str s ∧ s.length ≤ 25 ∧ ∀ H',Same H H' → Q (.bl (nameOk s)) H') ∨ ∃ (p:Addr) (xs:List V),x = .ref p ∧ H p = some (.tup xs) ∧ Q (.bl false) H)
noncomputable def farB:Tr → Bool
  | .w z => (far? z).isSome
  | .n _ => false
noncomputable def spIsFar (K:PySem.W.Frag):Sp:=fun vs H Q _ => ∃ (x:V) (t:Tr),vs = [x] ∧ TrAt K H x t ∧ Sm t ∧ ∀ H',Same H H' → Q (.bl (farB t)) H'
noncomputable def numL:Tr → Int
  | .w z => if numOk z = true then (numOf (cps z):Int) else -1
  | .n _ => -1
noncomputable def spNumL (K:PySem.W.Frag):Sp:=fun vs H Q _ => ∃ (x:V) (t:Tr),vs = [x] ∧ TrAt K H x t ∧ Sm t ∧ Q (.int (numL t)) H
noncomputable def spIsSize (K:PySem.W.Frag):Sp:=fun vs H Q _ => ∃ (x:V) (t:Tr),vs = [x] ∧ TrAt K H x t ∧ Sm t ∧ Q (.bl (size? t).isSome) H
theorem far_all (z:Str):(far? z).isSome = (decide ((Txt.split z ".").length < 3) && ((Txt.split z ".").map nameOk).all id):=by
  have e:(Txt.split z ⟨#[46]⟩).map Tk.lst = Tk.spl 46 (cps z):=Tk.split_lst z 46
  have g:=Tk.glue_spl 46 [46] (cps z)
  rw [← e,glue_one] at g
  have fr:nameOk z = true → Txt.split z ⟨#[46]⟩ = [z]:=fun h => by
    have e2:(Txt.split z ⟨#[46]⟩).map Tk.lst = [cps z]:=by
      rw [e,Tk.spl_free]
      intro hm
      have:=(name_facts h).2.2 46 hm
      omega
    generalize Txt.split z ⟨#[46]⟩ = ws at e2
    match ws,e2 with
    | [a],e2 => rw [Tk.lst_inj (List.cons.inj e2).1]
    | [],e2 => cases e2
    | _ :: _ :: _,e2 => simp at e2
  have ne:=Tk.spl_ne 46 (cps z)
  rw [← e] at ne
  show (far? z).isSome = (decide ((Txt.split z ⟨#[46]⟩).length < 3) && ((Txt.split z ⟨#[46]⟩).map nameOk).all id)
  have ef:far? z = if nameOk z = true then some ((Str.ofString ""),z) else two? (Txt.split z ⟨#[46]⟩):=rfl
  rw [ef]
  generalize Txt.split z ⟨#[46]⟩ = ws at *
  match ws,g,fr,ne with
  | [],_,_,ne => exact absurd rfl ne
  | [a],g,fr,_ =>
    have ea:a = z:=Tk.lst_inj g
    subst ea
    cases h:nameOk a with
    | true => simp [h]
    | false => simp [h,two?]
  | [a,b],_,fr,_ =>
    cases h:nameOk z with
    | true => exact absurd (fr h) (by simp)
    | false =>
      cases h1:nameOk a <;> cases h2:nameOk b <;> simp [two?,h1,h2]
  | _ :: _ :: _ :: _,_,fr,_ =>
    cases h:nameOk z with
    | true => exact absurd (fr h) (by simp)
    | false =>
      simp [two?]
      intro h
      omega
section
variable {P:Program} {w:World} {K:PySem.W.Frag} {mg:Str → Option Value} {base:Heap}
theorem scIsName:FnScope ["_law_tree"] ["_law_tree"] (defScope sIsName):=⟨rfl,rfl,rfl,by decide +kernel,rfl,by decide +kernel,by decide +kernel⟩
set_option maxHeartbeats 0 in
theorem ok_isName {f:Addr} {fd:FuncData} (F:Fun K "_law_is_name" "_law_is_name" sIsName f fd) (ml:mg "len" = none) (mall:mg "all" = none) (mi:mg "isinstance" = none) (ms:mg "str" = none) :
    FnOk P w K mg base CX0 1 f fd ["_law_tree"] (spIsName K):=by
  refine F.ok scIsName (fun vs H Q E h => ?_) (fun cdv A outer s H vs Q E hr h => ?_)
  · obtain ⟨z,rfl,_⟩:=h
    rfl
  obtain ⟨x,rfl,h⟩:=h
  refine ⟨_,pss_cons (ps_if (PW.pt (pw_or (pt_not (pt_val (pe_callB call_isi rfl mi bootIsi (pa_cons (pv 0) (pa_cons (pe_bltn rfl ms bootStr (v:=.ty "str") rfl) pa_nil))))) (pw_or (pt_cmpR op_lt (pe_callB call_len_str rfl ml PySem.boot_len (pa_cons (pv 0) pa_nil)) pe_int (nomark _)) (pw_or1 (pt_cmpR op_gt (pe_callB call_len_str rfl ml PySem.boot_len (pa_cons (pv 0) pa_nil)) pe_int (nomark _)))))) (pss_one (ps_ret pe_bl)) pss_nil)
    (pss_cons (ps_if (pt_cmpR op_in_seq (pv 0) (pe_tup (pa_cons pe_str (pa_cons pe_str (pa_cons pe_str (pa_cons pe_str (pa_cons pe_str (pa_cons pe_str (pa_cons pe_str (pa_cons pe_str (pa_cons pe_str pa_nil)))))))))) (by with_unfolding_all rfl)) (pss_one (ps_ret pe_bl)) pss_nil)
    (pss_one (ps_ret (pe_callB (call_allB rfl) rfl mall bootAll (pa_cons (pe_comp (own:=["_law_sign"]) (caps:=[]) (κ:=[]) (cl:=[]) rfl ⟨rfl,by decide +kernel,by decide +kernel,rfl,rfl,(fun y hy => nomatch hy),(fun y hy => nomatch hy)⟩ rfl (pi_str (pv 0))
      (fun _ _ _ _ => pg_name (i:=0) (show (["_law_sign"]:List Str).Nodup from by decide +kernel) rfl (Or.inl rfl)) (fun _ _ _ _ => pe_cmpR op_in_str (pv 0) pe_str (by with_unfolding_all rfl))) pa_nil))))),?_⟩
  rcases h with ⟨z,rfl,zl,q⟩ | ⟨p,xs,rfl,hp,q⟩
  · have hzz:z.length ≤ sizeLine:=small (by omega)
    refine ⟨_,rfl,.str z,"str",_,true,rfl,.str _,kit_ss K,true,rfl,iteF ?_⟩
    have bad:∀ {H':Hp},Same H H' → nameOk z = false → Q (.bl false) H':=fun hs e => by have:=q _ hs; rw [e] at this; exact this
    refine ⟨_,rfl,z,rfl,hzz,_,_,rfl,rfl,_,rfl,ite2 (fun c => iteT ?_) (fun c => ?_)⟩
    · have c1:(z.length:Int) < 1:=of_decide_eq_true c
      refine bad (Same.refl _) ?_
      unfold nameOk fits
      rw [decide_eq_false (p:=1 ≤ z.length) (by omega)]
      rfl
    have c1:¬ (z.length:Int) < 1:=fun y => c (decide_eq_true y)
    refine ⟨_,rfl,z,rfl,hzz,_,_,rfl,rfl,_,rfl,ite2 (fun d => ?_) (fun d => ?_)⟩
    · have d1:(12:Int) < (z.length:Int):=of_decide_eq_true d
      refine bad (Same.refl _) ?_
      unfold nameOk fits
      rw [decide_eq_false (p:=z.length ≤ 12) (by omega),Bool.and_false]
      rfl
    have d1:¬ (12:Int) < (z.length:Int):=fun y => d (decide_eq_true y)
    refine ⟨_,rfl,(by show 9 ≤ sizeLine; decide),fun p hp => ?_⟩
    have sp:=same_new hp (.tup takenV)
    refine ⟨p,takenV,rfl,.inr (SqT.of upd_same),rfl,flat_taken,_,rfl,ite2 (fun c => ?_) (fun c => ?_)⟩
    · have c':inV (.str z) takenV = true:=c
      refine bad sp ?_
      unfold nameOk fits
      rw [c']
      simp
    · have c':inV (.str z) takenV = false:=Bool.eq_false_iff.mpr c
      have hb:fits z = true:=by
        unfold fits
        rw [decide_eq_true (by omega),decide_eq_true (by omega),c']
        rfl
      refine ⟨_,rfl,z,rfl,?_⟩
      refine comp_by (J:=Its z) (xs:=signsV z) (fun i ys H2 => i ≤ z.length ∧ ys = ((z.cps.toList.take i).map inL).map V.bl ∧ H2 = upd H p (.tup takenV)) ⟨Nat.zero_le _,rfl,rfl⟩ (by rw [signsV_len]; exact hzz) ?_ ?_ ?_ ?_ ?_ ?_
      · rintro i ys H3 ⟨hi,rfl,_⟩
        rw [List.length_map,List.length_map,List.length_take]
        omega
      · rintro i x ys H3 hx _
        exact its_go i x hx
      · rintro i ys x H3 H' hi _ hy
        exact its_yld i x H' hy
      · rintro ys H3 _
        exact its_stop
      · rintro i x ys H3 N hN hx ⟨hi,rfl,rfl⟩
        obtain ⟨c,hc,rfl⟩:=signsV_get.mp hx
        have hc':z.cps.toList[i]? = some c:=by simpa using hc
        have hlt:i < z.length:=by
          have:=(List.getElem?_eq_some_iff.mp hx).1
          rw [signsV_len] at this
          exact this
        refine ⟨rfl,tYes_go ⟨_,rfl,_,_,rfl,rfl,hN _ _ ⟨hlt,?_,rfl⟩⟩⟩
        rw [List.take_add_one,hc',List.map_append,List.map_append]
        rfl
      · rintro ys H3 D ⟨hi,rfl,rfl⟩ hD
        refine ⟨D,z.cps.toList.map inL,rfl,SqL.of ?_,?_⟩
        · rw [upd_same,signsV_len,List.take_of_length_le (by rw [len_list]; exact Nat.le_refl _)]
        · have q':=q _ (sp.trans (same_new hD (.lst (((z.cps.toList.take (signsV z).length).map inL).map V.bl))))
          rw [show nameOk z = (z.cps.toList.map inL).all id from by unfold nameOk; rw [hb] <;> rfl] at q'
          exact q'
  · exact ⟨_,rfl,.ref p,"str",_,false,rfl,.tup hp,kit_ts K,false,rfl,iteT (iteT q)⟩
theorem scIsFar:FnScope ["_law_tree","_law_words"] ["_law_tree"] (defScope sIsFar):=⟨rfl,rfl,rfl,by decide +kernel,rfl,by decide +kernel,by decide +kernel⟩
set_option maxHeartbeats 0 in
theorem ok_isFar {f fn:Addr} {fd fdn:FuncData} (F:Fun K "_law_is_far" "_law_is_far" sIsFar f fd)
    (GN:FnOk P w K mg base CX0 1 fn fdn ["_law_tree"] (spIsName K)) (bN:Binds K fdn ["_law_tree"] []) (kN:PySem.W.keepIn K (.ref fn) = true) (mN:mg "_law_is_name" = some (.ref fn))
    (ml:mg "len" = none) (mall:mg "all" = none) (mi:mg "isinstance" = none) (ms:mg "str" = none):FnOk P w K mg base CX0 2 f fd ["_law_tree"] (spIsFar K):=by
  refine F.ok scIsFar (fun vs H Q E h => ?_) (fun cdv A outer s H vs Q E hr h => ?_)
  · obtain ⟨x,t,rfl,_⟩:=h
    rfl
  obtain ⟨x,t,rfl,hx,sm,q⟩:=h
  refine ⟨_,pss_cons (ps_if (pt_not (pt_val (pe_callB call_isi rfl mi bootIsi (pa_cons (pv 0) (pa_cons (pe_bltn rfl ms bootStr (v:=.ty "str") rfl) pa_nil))))) (pss_one (ps_ret pe_bl)) pss_nil)
    (pss_cons (ps_set (i:=1) scIsFar.nd rfl (Or.inl rfl) (pe_bm PySem.F.plainAttrs_str PySem.F.slot_str_split PySem.F.type_str_split mt_split (pv 0) (pa_cons pe_str pa_nil)))
    (pss_one (ps_ret (pe_and (pe_cmpR op_lt (pe_callB call_len_seq rfl ml PySem.boot_len (pa_cons (pv 1) pa_nil)) pe_int (nomark _)) (pe_one (pe_callB (call_allB rfl) rfl mall bootAll (pa_cons (pe_comp (own:=["_law_word"]) (caps:=[]) (κ:=[]) (cl:=[]) rfl ⟨rfl,by decide +kernel,by decide +kernel,rfl,rfl,(fun y hy => nomatch hy),(fun y hy => nomatch hy)⟩ rfl (pi_list (pv 1))
      (fun _ _ _ _ => pg_name (i:=0) (show (["_law_word"]:List Str).Nodup from by decide +kernel) rfl (Or.inl rfl)) (fun _ _ _ _ => pe_call GN hr rfl mN kN bN .nil pass0 (pa_cons (pv 0) pa_nil))) pa_nil))))))),?_⟩
  cases hx with
  | @n a us vs ha hus => exact ⟨_,rfl,.ref a,"str",_,false,rfl,.tup ha,kit_ts K,false,rfl,iteT (q _ (Same.refl _))⟩
  | w z =>
    obtain ⟨zl,_⟩:=sm.word
    refine ⟨_,rfl,.str z,"str",_,true,rfl,.str _,kit_ss K,true,rfl,iteF ?_⟩
    obtain ⟨d1,d2⟩:=dot_split z
    have ef:farB (.w z) = _:=far_all z
    refine ⟨_,rfl,rfl,z,".",rfl,rfl,by decide +kernel,by omega,by show (Txt.split z ".").length ≤ _; omega,fun l hl => ?_⟩
    show (_:Prop)
    rw [ef] at q
    generalize Txt.split z (Str.ofString ".") = ws at *
    have s1:=same_new hl (.lst (ws.map V.str))
    have wl:(ws.map V.str).length = ws.length:=List.length_map _
    refine ⟨_,rfl,l,_,rfl,.inl (SqL.of upd_same),_,_,rfl,rfl,_,rfl,ite2 (fun c => ?_) (fun c => ?_)⟩
    · have c':((ws.map V.str).length:Int) < 3:=of_decide_eq_true c
      rw [wl] at c'
      refine ⟨_,rfl,l,rfl,⟨_,SqL.of upd_same⟩,?_⟩
      refine comp_by (J:=Itl K l) (xs:=ws.map V.str) (fun i ys H2 => i ≤ ws.length ∧ ys = ((ws.take i).map nameOk).map V.bl ∧ Same (upd H l (.lst (ws.map V.str))) H2) ⟨Nat.zero_le _,rfl,Same.refl _⟩ (by rw [wl]; exact small (by omega)) ?_ ?_ ?_ ?_ ?_ ?_
      · rintro i ys H3 ⟨hi,rfl,_⟩
        rw [List.length_map,List.length_map,List.length_take]
        omega
      · rintro i u ys H3 hu ⟨_,_,s3⟩
        exact ⟨_,_,SqL.of (s3 _ _ upd_same),hu⟩
      · rintro i ys u H3 H' hn ⟨_,_,s3⟩ hy
        exact ⟨hy.1,hy.2 _ (SqL.of (s3 _ _ upd_same))⟩
      · rintro ys H3 ⟨_,_,s3⟩
        exact ⟨_,SqL.of (s3 _ _ upd_same),Nat.le_refl _⟩
      · rintro i u ys H3 N hN hu ⟨hi,rfl,s3⟩
        rw [List.getElem?_map] at hu
        obtain ⟨y,hy,rfl⟩:=Option.map_eq_some_iff.mp hu
        have hlt:=(List.getElem?_eq_some_iff.mp hy).1
        have ly:=d2 y (List.mem_of_getElem? hy)
        refine ⟨rfl,tYes_go ⟨_,rfl,.str y,rfl,.inl ⟨y,rfl,by omega,fun H4 s4 => hN _ _ ⟨hlt,?_,s3.trans s4⟩⟩⟩⟩
        rw [List.take_add_one,hy,List.map_append,List.map_append]
        rfl
      · rintro ys H3 D ⟨hi,rfl,s3⟩ hD
        refine ⟨D,ws.map nameOk,rfl,SqL.of ?_,?_⟩
        · rw [upd_same,wl,List.take_length]
        · have:=q _ (s1.trans (s3.trans (same_new hD (.lst (((ws.take (ws.map V.str).length).map nameOk).map V.bl)))))
          rw [decide_eq_true (by omega),Bool.true_and] at this
          exact this
    · have c':¬ (((ws.map V.str).length:Int) < 3):=fun y => c (decide_eq_true y)
      rw [wl] at c'
      have:=q _ s1
      rw [decide_eq_false (by omega),Bool.false_and] at this
      exact this
theorem scNumL:FnScope ["_law_tree","_law_sign"] ["_law_tree"] (defScope sNumL):=⟨rfl,rfl,rfl,by decide +kernel,rfl,by decide +kernel,by decide +kernel⟩
set_option maxHeartbeats 0 in
theorem ok_numL {f:Addr} {fd:FuncData} (F:Fun K "_law_number" "_law_number" sNumL f fd) (ml:mg "len" = none) (mi:mg "isinstance" = none) (ms:mg "str" = none) (mI:mg "int" = none):FnOk P w K mg base CX0 1 f fd ["_law_tree"] (spNumL K):=by
  refine F.ok scNumL (fun vs H Q E h => ?_) (fun cdv A outer s H vs Q E hr h => ?_)
  · obtain ⟨x,t,rfl,_⟩:=h
    rfl
  obtain ⟨x,t,rfl,hx,sm,q⟩:=h
  obtain ⟨u1,d1,k1⟩:∃ t,PSs (cxOf CX0 P w K mg base ["_law_tree","_law_sign"] "_law_number" (defScope sNumL) f cdv A outer s H E).nox (List.drop 1 (defBody sNumL)) t ∧ ∀ (z:Str) (c0:Nat),Q (.int (numL (.w z))) H → 1 ≤ z.length → z.length ≤ 19 → z.cps.toList.head? = some c0 → (first0 c0 = true → z.length = 1) → t { nx:=fun _ H' => Q .non H',rt:=Q } [some (.str z),none] H:=by
    refine ⟨_,pss_cons (ps_for PassesOwn.never rfl (pi_str (pv 0)) (pg_name (i:=1) scNumL.nd rfl (Or.inl rfl)) (pss_one (ps_if (pt_cmpR op_notin_str (pv 1) pe_str (by with_unfolding_all rfl)) (pss_one (ps_ret (pe_un un_neg pe_int))) pss_nil)))
      (pss_one (ps_ret (pe_callTy call_intT rfl mI bootInt (pa_cons (pv 0) pa_nil)))),fun z c0 q l1 l2 h0 hf => ?_⟩
    have bad:numOk z = false → Q (.int (-1)) H:=fun e => by
      have:numL (.w z) = -1:=if_neg (by rw [e]; decide)
      rw [this] at q
      exact q
    refine ⟨_,rfl,z,rfl,?_⟩
    refine for_str (z:=z) (fun i σ H3 => ∃ v1,σ = [some (.str z),v1] ∧ H3 = H ∧ ∀ c ∈ z.cps.toList.take i,inF c = true) ⟨none,rfl,rfl,fun c hc => by simp at hc⟩ ?_ ?_
    · rintro i c σ H3 hc ⟨v1,rfl,rfl,hall⟩
      have hc':z.cps.toList[i]? = some c:=by simpa using hc
      refine ⟨_,rfl,⟨#[c]⟩,figT,rfl,rfl,_,rfl,ite2 (fun y => ⟨_,rfl,?_⟩) (fun y => ?_)⟩
      · refine bad (num_bad (Bool.eq_false_iff.mpr fun a => ?_))
        unfold allF at a
        rw [List.all_eq_true] at a
        have h1:inF c = true:=a _ (List.mem_map_of_mem (List.mem_of_getElem? hc'))
        have h2:(!(inF c)) = true:=y
        rw [h1] at h2
        cases h2
      · have h2:¬ ((!(inF c)) = true):=y
        refine ⟨_,rfl,rfl,fun d hd => ?_⟩
        rw [List.take_add_one,hc'] at hd
        rcases List.mem_append.mp hd with hd | hd
        · exact hall d hd
        · rw [List.mem_singleton.mp (show d ∈ [c] from hd)]
          cases e:inF c with
          | true => rfl
          | false => rw [e] at h2; exact absurd rfl h2
    · rintro σ H3 ⟨v1,rfl,rfl,hall⟩
      have al:allF z = true:=by
        unfold allF
        rw [List.all_eq_true]
        intro b hb
        obtain ⟨c,hc,rfl⟩:=List.mem_map.mp hb
        exact hall c (by rw [List.take_of_length_le (by simp)]; exact hc)
      have ok:numOk z = true:=by
        rw [num_ok l1 l2 al,h0]
        show (decide (z.length = 1) || !(first0 c0)) = true
        cases e:first0 c0 with
        | false => simp
        | true => rw [decide_eq_true (hf e)]; rfl
      have e:numL (.w z) = (numOf (cps z):Int):=if_pos ok
      rw [e] at q
      exact ⟨_,rfl,z,rfl,(numOk_tx ok).1,q⟩
  refine ⟨_,pss_cons (ps_if (PW.pt (pw_or (pt_not (pt_val (pe_callB call_isi rfl mi bootIsi (pa_cons (pv 0) (pa_cons (pe_bltn rfl ms bootStr (v:=.ty "str") rfl) pa_nil))))) (pw_or (pt_cmpR op_lt (pe_callB call_len_str rfl ml PySem.boot_len (pa_cons (pv 0) pa_nil)) pe_int (nomark _)) (pw_or (pt_cmpR op_gt (pe_callB call_len_str rfl ml PySem.boot_len (pa_cons (pv 0) pa_nil)) pe_int (nomark _))
        (pw_or1 (PW.pt (pw_and (pt_cmpR op_eq (pe_ix ix_str (pv 0) pe_int (fun _ _ => rfl)) pe_str (nomark _)) (pw_and1 (pt_cmpR op_gt (pe_callB call_len_str rfl ml PySem.boot_len (pa_cons (pv 0) pa_nil)) pe_int (nomark _)))))))))) (pss_one (ps_ret (pe_un un_neg pe_int))) pss_nil) d1,?_⟩
  cases hx with
  | @n a us vs ha hus => exact ⟨_,rfl,.ref a,"str",_,false,rfl,.tup ha,kit_ts K,false,rfl,iteT (iteT ⟨_,rfl,q⟩)⟩
  | w z =>
    obtain ⟨zl,_⟩:=sm.word
    have hzz:z.length ≤ sizeLine:=small (by omega)
    have bad:numOk z = false → Q (.int (-1)) H:=fun e => by
      have:numL (.w z) = -1:=if_neg (by rw [e]; decide)
      rw [this] at q
      exact q
    refine ⟨_,rfl,.str z,"str",_,true,rfl,.str _,kit_ss K,true,rfl,iteF ?_⟩
    refine ⟨_,rfl,z,rfl,hzz,_,_,rfl,rfl,_,rfl,ite2 (fun c => iteT ⟨_,rfl,bad (num_short (by have c1:(z.length:Int) < 1:=of_decide_eq_true c; omega))⟩) (fun c => ?_)⟩
    have c1:¬ (z.length:Int) < 1:=fun y => c (decide_eq_true y)
    refine ⟨_,rfl,z,rfl,hzz,_,_,rfl,rfl,_,rfl,ite2 (fun d => iteT ⟨_,rfl,bad (num_short (by have d1:(19:Int) < (z.length:Int):=of_decide_eq_true d; omega))⟩) (fun d => ?_)⟩
    have d1:¬ (19:Int) < (z.length:Int):=fun y => d (decide_eq_true y)
    obtain ⟨c0,hc0⟩:=at_ex (xs:=z.cps.toList) (i:=0) (by omega) (by rw [len_list]; omega)
    have h0:=head_at hc0
    refine ⟨_,rfl,z,_,c0,rfl,rfl,hzz,hc0,rfl,_,rfl,ite2 (fun e => ?_) (fun e => ?_)⟩
    · refine ⟨_,rfl,z,rfl,hzz,_,_,rfl,rfl,_,rfl,ite2 (fun g => ?_) (fun g => ?_)⟩
      · have g1:(1:Int) < (z.length:Int):=of_decide_eq_true g
        refine ⟨_,rfl,bad ?_⟩
        cases e2:allF z with
        | false => exact num_bad e2
        | true =>
          rw [num_ok (by omega) (by omega) e2,h0]
          show (decide (z.length = 1) || !(first0 c0)) = false
          rw [decide_eq_false (by omega),show first0 c0 = true from e]
          rfl
      · have g1:¬ (1:Int) < (z.length:Int):=fun y => g (decide_eq_true y)
        exact k1 z c0 q (by omega) (by omega) h0 fun _ => by omega
    · exact iteF (k1 z c0 q (by omega) (by omega) h0 fun y => absurd y e)
end
end K18
namespace K18
open PySem L2
theorem size_num (t:Tr):(size? t).isSome = (decide (1 ≤ numL t) && decide (numL t ≤ 1000000000000000000)):=by
  match t with
  | .n ts => rfl
  | .w z =>
    show (if numOk z = true ∧ (1:Int) ≤ (numOf (cps z):Int) ∧ (numOf (cps z):Int) ≤ 1000000000000000000 then some (numOf (cps z)) else none).isSome = (decide (1 ≤ if numOk z = true then (numOf (cps z):Int) else -1) && decide ((if numOk z = true then (numOf (cps z):Int) else -1) ≤ 1000000000000000000))
    by_cases h:numOk z = true
    · rw [if_pos h]
      by_cases h1:(1:Int) ≤ (numOf (cps z):Int)
      · by_cases h2:(numOf (cps z):Int) ≤ 1000000000000000000
        · rw [if_pos ⟨h,h1,h2⟩,decide_eq_true h1,decide_eq_true h2]
          rfl
        · rw [if_neg (fun c => h2 c.2.2),decide_eq_false h2,Bool.and_false]
          rfl
      · rw [if_neg (fun c => h1 c.2.1),decide_eq_false h1]
        rfl
    · rw [if_neg (fun c => h c.1),if_neg h]
      rfl
theorem kd_len2 (u a:Tr):(kd? (.n [u,a])).isSome = (isW u "num" && (size? a).isSome):=by
  match u with
  | .n _ => rfl
  | .w z =>
    rw [kd_num]
    show _ = (decide (z = "num") && _)
    by_cases h:z = "num"
    · rw [if_pos h,decide_eq_true h,Option.isSome_map,Bool.true_and]
    · rw [if_neg h,decide_eq_false h]
      rfl
theorem kd_len3 (u a b:Tr):(kd? (.n [u,a,b])).isSome = (isW u "pair" && ((kd? a).isSome && (kd? b).isSome)):=by
  match u with
  | .n _ => rfl
  | .w z =>
    rw [kd_pair]
    show _ = (decide (z = "pair") && _)
    by_cases h:z = "pair"
    · rw [if_pos h,decide_eq_true h,Bool.true_and]
      cases kd? a <;> cases kd? b <;> rfl
    · rw [if_neg h,decide_eq_false h]
      rfl
theorem kd_other {ts:List Tr} (h2:ts.length ≠ 2) (h3:ts.length ≠ 3):kd? (.n ts) = none:=kd_none fun h => by
  rcases h with ⟨a,rfl⟩ | ⟨a,b,rfl⟩
  · exact h2 rfl
  · exact h3 rfl
noncomputable def litB (a b:Tr):Bool:=(size? b).isSome && (decide (0 ≤ numL a) && decide (numL a < numL b))
noncomputable def hd0:List Tr → Tr
  | t :: _ => t
  | [] => .n []
noncomputable def opsB (u:Tr):Bool:=isW u "+" || (isW u "-" || isW u "*")
noncomputable def prs:List (Str × Int):=[("=",2),("<",2),("if",3),("two",2),("first",1),("second",1)]
noncomputable def prB (u:Tr) (n:Nat):Bool:=prs.any fun p => isW u p.1 && decide (p.2 = (n:Int))
noncomputable def lr5 (u:Tr) (ts:List Tr):Option Nat:=if (farB u && decide (ts.length < 5)) = true then some 0 else none
noncomputable def lr4 (u:Tr) (ts:List Tr):Option Nat:=if prB u ts.length = true then some 0 else lr5 u ts
noncomputable def lr3 (u:Tr) (ts:List Tr):Option Nat:=if (isW u "let" && (decide (ts.length = 3) && (name? (hd0 ts)).isSome)) = true then some 1 else lr4 u ts
noncomputable def lr2 (u:Tr) (ts:List Tr):Option Nat:=if (isW u "as" && (decide (ts.length = 2) && (size? (hd0 ts)).isSome)) = true then some 1 else lr3 u ts
noncomputable def lr1 (u:Tr) (ts:List Tr):Option Nat:=if (opsB u && (decide (ts.length = 3) && (size? (hd0 ts)).isSome)) = true then some 1 else lr2 u ts
noncomputable def lrL:List Tr → Option Nat
  | [a,b] => if litB a b = true then some 2 else none
  | _ => none
noncomputable def lr (u:Tr) (ts:List Tr):Option Nat:=if (isW u "lit" && decide (ts.length = 2)) = true then lrL ts else lr1 u ts
theorem lr_n (us ts:List Tr):lr (.n us) ts = none:=by
  unfold lr lr1 lr2 lr3 lr4 lr5 isW opsB prB prs farB
  simp [isW]
theorem lit_B (a b:Tr):(lit? [a,b]).map (·.2) = if litB a b = true then some 2 else none:=by
  unfold litB
  cases eb:size? b with
  | none => simp [lit?,eb]
  | some n =>
    obtain ⟨rfl,s1,s2⟩:=size_is eb
    have s2':n ≤ 1000000000000000000:=s2
    have nb:numL (.w (numS n)) = n:=by
      obtain ⟨_,x2,_⟩:=num_tx s2'
      show (if numOk (numS n) = true then (numOf (cps (numS n)):Int) else -1) = n
      rw [if_pos (num_is0 s2'),x2]
    rw [nb]
    simp only [lit?,eb,Option.isSome_some,Bool.true_and]
    match a with
    | .n _ => rfl
    | .w z =>
      have na:numL (.w z) = if numOk z = true then (numOf (cps z):Int) else -1:=rfl
      have nu:numb? (.w z) 0 ((n:Int) - 1) = if numOk z = true ∧ (0:Int) ≤ (numOf (cps z):Int) ∧ (numOf (cps z):Int) ≤ (n:Int) - 1 then some (numOf (cps z)) else none:=rfl
      rw [na,nu]
      by_cases h:numOk z = true
      · rw [if_pos h]
        by_cases h2:(numOf (cps z):Int) < (n:Int)
        · rw [if_pos ⟨h,by omega,by omega⟩,decide_eq_true h2,decide_eq_true (by omega)]
          rfl
        · rw [if_neg (fun c => by omega),decide_eq_false h2,Bool.and_false]
          rfl
      · rw [if_neg (fun c => h c.1),if_neg h]
        rfl
theorem far_heads:∀ w ∈ heads,far? w = none:=by decide +kernel
theorem isW_no {z s:Str} (h:z ≠ s):isW (.w z) s = false:=decide_eq_false h
theorem isW_yes (s:Str):isW (.w s) s = true:=decide_eq_true rfl
theorem ops_B (z:Str):opsB (.w z) = inV (.str z) opsV:=by
  unfold opsB inV opsV isW
  simp only [List.any_cons,List.any_nil,eqV,Bool.or_false]
  have:∀ a b:Str,decide (a = b) = (b == a):=fun a b => by
    by_cases h:a = b
    · subst h; simp
    · rw [decide_eq_false h]; symm; simp; exact fun e => h e.symm
  simp only [this]
theorem pr_no {z:Str} (h:∀ p ∈ prs,z ≠ p.1) (n:Nat):prB (.w z) n = false:=by
  refine Bool.eq_false_iff.mpr fun y => ?_
  unfold prB at y
  rw [List.any_eq_true] at y
  obtain ⟨p,hp,e⟩:=y
  rw [Bool.and_eq_true] at e
  exact h p hp (of_decide_eq_true e.1)
theorem prs_one:∀ p ∈ prs,∀ q ∈ prs,p.1 = q.1 → p.2 = q.2:=by decide +kernel
theorem pr_yes {z:Str} {k:Int} (hm:(z,k) ∈ prs) (n:Nat):prB (.w z) n = decide ((n:Int) = k):=by
  by_cases h:(n:Int) = k
  · rw [decide_eq_true h]
    unfold prB
    refine List.any_eq_true.mpr ⟨_,hm,?_⟩
    rw [Bool.and_eq_true]
    exact ⟨isW_yes z,decide_eq_true h.symm⟩
  · rw [decide_eq_false h]
    refine Bool.eq_false_iff.mpr fun y => ?_
    unfold prB at y
    rw [List.any_eq_true] at y
    obtain ⟨p,hp,e⟩:=y
    rw [Bool.and_eq_true] at e
    have e1:z = p.1:=of_decide_eq_true e.1
    have e2:p.2 = (n:Int):=of_decide_eq_true e.2
    have:=prs_one _ hm p hp e1
    exact h (by rw [← e2]; exact this.symm)
theorem lr_w (z:Str) (ts:List Tr):lr (.w z) ts = (form? z ts).map (·.2):=by
  by_cases c1:z = "lit"
  · subst c1
    have ef:form? "lit" ts = lit? ts:=if_pos rfl
    rw [ef]
    match ts with
    | [a,b] =>
      rw [lit_B]
      unfold lr lrL
      rw [isW_yes]
      rfl
    | [] => decide +kernel
    | [t] =>
      have h0:farB (.w "lit") = false:=by decide +kernel
      have h1:prB (.w "lit") 1 = false:=by decide +kernel
      have h2:opsB (.w "lit") = false:=by decide +kernel
      have h3:isW (.w "lit") "as" = false:=by decide +kernel
      have h4:isW (.w "lit") "let" = false:=by decide +kernel
      unfold lr lr1 lr2 lr3 lr4 lr5
      simp [h0,h1,h2,h3,h4,lit?]
    | t1 :: t2 :: t3 :: r =>
      have h0:farB (.w "lit") = false:=by decide +kernel
      have h1:∀ n,prB (.w "lit") n = false:=pr_no (by decide +kernel)
      have h2:opsB (.w "lit") = false:=by decide +kernel
      have h3:isW (.w "lit") "as" = false:=by decide +kernel
      have h4:isW (.w "lit") "let" = false:=by decide +kernel
      unfold lr lr1 lr2 lr3 lr4 lr5
      simp [h0,h1,h2,h3,h4,lit?]
  have e0:lr (.w z) ts = lr1 (.w z) ts:=by unfold lr; rw [isW_no c1]; rfl
  rw [e0]
  unfold lr1
  rw [ops_B]
  by_cases c2:inV (.str z) opsV = true
  · rw [form_op c1 c2,c2]
    have hm:=inV_mem (ws:=["+","-","*"]) c2
    have hf:farB (.w z) = false:=by
      show (far? z).isSome = false
      rw [far_heads z (by simp only [List.mem_cons,List.mem_nil_iff,or_false] at hm ⊢; rcases hm with h | h | h <;> simp [h])]
      rfl
    have h3:isW (.w z) "as" = false:=isW_no (by rintro rfl; revert c2; decide +kernel)
    have h4:isW (.w z) "let" = false:=isW_no (by rintro rfl; revert c2; decide +kernel)
    have hp:∀ n,prB (.w z) n = false:=by
      simp only [List.mem_cons,List.mem_nil_iff,or_false] at hm
      rcases hm with rfl | rfl | rfl <;> exact pr_no (by decide +kernel)
    unfold lr2 lr3 lr4 lr5
    match ts with
    | [a,b,d] =>
      cases es:size? a with
      | none => simp [op?,es,hd0,h3,h4,hp,hf]
      | some n => simp [op?,es,hd0]
    | [] => simp [op?,h3,h4,hp,hf]
    | [_] => simp [op?,h3,h4,hp,hf]
    | [_,_] => simp [op?,h3,h4,hp,hf]
    | _ :: _ :: _ :: _ :: _ => simp [op?,h3,h4,hp,hf]
  have c2':inV (.str z) opsV = false:=Bool.eq_false_iff.mpr c2
  rw [c2']
  show lr2 (.w z) ts = _
  by_cases c3:inV (.str z) tstV = true
  · rw [form_tst c1 c2 c3]
    have hm:=inV_mem (ws:=["=","<"]) c3
    have hf:farB (.w z) = false:=by
      show (far? z).isSome = false
      rw [far_heads z (by simp only [List.mem_cons,List.mem_nil_iff,or_false] at hm ⊢; rcases hm with h | h <;> simp [h])]
      rfl
    have h3:isW (.w z) "as" = false:=isW_no (by rintro rfl; revert c3; decide +kernel)
    have h4:isW (.w z) "let" = false:=isW_no (by rintro rfl; revert c3; decide +kernel)
    have hp:prB (.w z) ts.length = decide (ts.length = 2):=by
      simp only [List.mem_cons,List.mem_nil_iff,or_false] at hm
      rcases hm with rfl | rfl
      · rw [pr_yes (z:="=") (k:=2) (by decide +kernel)]
        by_cases h:ts.length = 2
        · rw [h]; rfl
        · rw [decide_eq_false h,decide_eq_false (by omega)]
      · rw [pr_yes (z:="<") (k:=2) (by decide +kernel)]
        by_cases h:ts.length = 2
        · rw [h]; rfl
        · rw [decide_eq_false h,decide_eq_false (by omega)]
    unfold lr2 lr3 lr4 lr5
    rw [hp,h3,h4,hf]
    by_cases h:ts.length = 2
    · simp [h]
    · simp [h]
  by_cases c4:z = "as"
  · subst c4
    have ef:form? "as" ts = as? ts:=by unfold form?; rw [if_neg c1,if_neg c2,if_neg c3,if_pos rfl]
    rw [ef]
    have hf:farB (.w "as") = false:=by decide +kernel
    have hp:∀ n,prB (.w "as") n = false:=pr_no (by decide +kernel)
    have h4:isW (.w "as") "let" = false:=by decide +kernel
    have h3:isW (.w "as") "as" = true:=by decide +kernel
    unfold lr2 lr3 lr4 lr5
    match ts with
    | [a,b] =>
      cases es:size? a with
      | none => simp [as?,es,hd0,h3,h4,hp,hf]
      | some n => simp [as?,es,hd0,h3]
    | [] => simp [as?,h4,hp,hf]
    | [_] => simp [as?,h4,hp,hf]
    | _ :: _ :: _ :: _ => simp [as?,h4,hp,hf]
  have e2:lr2 (.w z) ts = lr3 (.w z) ts:=by unfold lr2; rw [isW_no c4]; rfl
  rw [e2]
  by_cases c5:z = "let"
  · subst c5
    have ef:form? "let" ts = let? ts:=by unfold form?; rw [if_neg c1,if_neg c2,if_neg c3,if_neg c4,if_pos rfl]
    rw [ef]
    have hf:farB (.w "let") = false:=by decide +kernel
    have hp:∀ n,prB (.w "let") n = false:=pr_no (by decide +kernel)
    have h3:isW (.w "let") "let" = true:=by decide +kernel
    unfold lr3 lr4 lr5
    match ts with
    | [a,b,d] =>
      cases es:name? a with
      | none => simp [let?,es,hd0,h3,hp,hf]
      | some n => simp [let?,es,hd0,h3]
    | [] => simp [let?,hp,hf]
    | [_] => simp [let?,hp,hf]
    | [_,_] => simp [let?,hp,hf]
    | _ :: _ :: _ :: _ :: _ => simp [let?,hp,hf]
  have e3:lr3 (.w z) ts = lr4 (.w z) ts:=by unfold lr3; rw [isW_no c5]; rfl
  rw [e3,form_br c1 c2 c3 c4 c5]
  cases en:numAtS brs z with
  | some k =>
    obtain ⟨n,rfl,hn⟩:=brs_is en
    have hf:farB (.w z) = false:=by
      show (far? z).isSome = false
      rw [far_heads z (by rcases hn with ⟨h,_⟩ | ⟨h,_⟩ | ⟨h,_⟩ | ⟨h,_⟩ <;> simp [h])]
      rfl
    have hp:prB (.w z) ts.length = decide ((ts.length:Int) = (n:Int)):=by
      rcases hn with ⟨rfl,rfl⟩ | ⟨rfl,rfl⟩ | ⟨rfl,rfl⟩ | ⟨rfl,rfl⟩
      · exact pr_yes (k:=3) (by decide +kernel) _
      · exact pr_yes (k:=2) (by decide +kernel) _
      · exact pr_yes (k:=1) (by decide +kernel) _
      · exact pr_yes (k:=1) (by decide +kernel) _
    unfold lr4 lr5
    rw [hp,hf]
    by_cases h:(ts.length:Int) = (n:Int)
    · simp [h]
    · simp [h]
  | none =>
    have hp:prB (.w z) ts.length = false:=by
      refine Bool.eq_false_iff.mpr fun y => ?_
      unfold prB at y
      rw [List.any_eq_true] at y
      obtain ⟨p,hp,e⟩:=y
      rw [Bool.and_eq_true] at e
      have ez:z = p.1:=of_decide_eq_true e.1
      unfold prs at hp
      simp only [List.mem_cons,List.mem_nil_iff,or_false] at hp
      rcases hp with rfl | rfl | rfl | rfl | rfl | rfl
      · rw [ez] at c3; exact c3 (by decide +kernel)
      · rw [ez] at c3; exact c3 (by decide +kernel)
      · rw [ez] at en; revert en; decide +kernel
      · rw [ez] at en; revert en; decide +kernel
      · rw [ez] at en; revert en; decide +kernel
      · rw [ez] at en; revert en; decide +kernel
    unfold lr4 lr5 call?
    rw [hp]
    show (if (((far? z).isSome) && decide (ts.length < 5)) = true then some 0 else none) = _
    cases ef:far? z with
    | none => simp
    | some p =>
      by_cases h:ts.length ≤ 4
      · simp [h,show ts.length < 5 by omega]
      · simp [h,show ¬ ts.length < 5 by omega]
theorem ex_lr (u:Tr) (ts:List Tr):(ex? (.n (u :: ts))).isSome = match lr u ts with
    | some k => ((ts.drop k).map fun t => (ex? t).isSome).all id
    | none => false:=by
  match u with
  | .n us =>
    rw [lr_n,ex_none]
    · rfl
    · rintro ⟨z,r,h⟩
      cases h
  | .w z =>
    rw [lr_w,ex_node]
    cases form? z ts with
    | none => rfl
    | some p =>
      show ((exs? (ts.drop p.2)).map (Ex.node p.1)).isSome = ((ts.drop p.2).map fun t => (ex? t).isSome).all id
      rw [Option.isSome_map]
      exact alls_isSome _
end K18
namespace K18
open PySem L2
noncomputable def spIsKind (K:PySem.W.Frag) (n:Nat):Sp:=fun vs H Q _ => ∃ (x:V) (t:Tr),vs = [x] ∧ TrAt K H x t ∧ Sm t ∧ t.dep < n ∧ ∀ H',Same H H' → Q (.bl (kd? t).isSome) H'
noncomputable def spIsEx (K:PySem.W.Frag) (n:Nat):Sp:=fun vs H Q _ => ∃ (x:V) (t:Tr),vs = [x] ∧ TrAt K H x t ∧ Sm t ∧ t.dep < n ∧ ∀ H',Same H H' → Q (.bl (ex? t).isSome) H'
noncomputable def SeqV (K:PySem.W.Frag) (H:Hp) (v:V) (ys:List V):Prop:=∃ a,v = .ref a ∧ (SqL K H a ys ∨ SqT K H a ys)
noncomputable def spRest (K:PySem.W.Frag):Sp:=fun vs H Q _ => ∃ (x:V) (u:Tr) (p:Addr) (xs:List V) (ts:List Tr),vs = [x,.ref p] ∧ TrAt K H x u ∧ Sm u ∧ H p = some (.tup xs) ∧ TrsAt K H xs ts ∧ Sms ts ∧
  (∀ k,lr u ts = some k → ∀ H' v ys,Same H H' → SeqV K H' v ys → TrsAt K H' ys (ts.drop k) → Q v H') ∧ (lr u ts = none → ∀ H',Same H H' → Q .non H')
noncomputable def spFits (K:PySem.W.Frag):Sp:=fun vs H Q _ => ∃ (x:V) (t:Tr) (b:Bool),vs = [x,.bl b] ∧ TrAt K H x t ∧ Sm t ∧ ∀ H',Same H H' → Q (.bl (fitB b t)) H'
theorem shaped_str (s:Str) (h:PyData.strOk s = true):SeqAt.shaped (.str s) = true:=by
  unfold SeqAt.shaped
  simp only [PyData.canLay0,PyData.depth,h]
  rfl
theorem at0 {y:V} {ys:List V}:atI (y :: ys) 0 = some y:=(atI_nat (j:=0) rfl:atI (y :: ys) ((0:Nat):Int) = some y)
theorem eqv_pr (u:Tr) (a:Str) (i j:Int):PyData.eqv (.tuple [.str a,.int i]) (.tuple [u.dat,.int j]) = (isW u a && decide (i = j)):=by
  cases u with
  | w z =>
    simp only [Tr.dat,PyData.eqv,PyData.eqvAll,isW,Bool.and_true]
    have e1:(a == z) = decide (z = a):=by
      show decide (a = z) = decide (z = a)
      by_cases h:a = z
      · rw [decide_eq_true h,decide_eq_true h.symm]
      · rw [decide_eq_false h,decide_eq_false fun e => h e.symm]
    rw [e1]
    rfl
  | n ts => simp [Tr.dat,PyData.eqv,PyData.eqvAll,isW]
section
variable {P:Program} {w:World} {K:PySem.W.Frag} {mg:Str → Option Value} {base:Heap}
theorem scIsSize:FnScope ["_law_tree"] ["_law_tree"] (defScope sIsSize):=⟨rfl,rfl,rfl,by decide +kernel,rfl,by decide +kernel,by decide +kernel⟩
theorem ok_isSize {f fn:Addr} {fd fdn:FuncData} (F:Fun K "_law_is_size" "_law_is_size" sIsSize f fd)
    (GN:FnOk P w K mg base CX0 1 fn fdn ["_law_tree"] (spNumL K)) (bN:Binds K fdn ["_law_tree"] []) (kN:PySem.W.keepIn K (.ref fn) = true) (mN:mg "_law_number" = some (.ref fn)):FnOk P w K mg base CX0 2 f fd ["_law_tree"] (spIsSize K):=by
  refine F.ok scIsSize (fun vs H Q E h => ?_) (fun cdv A outer s H vs Q E hr h => ?_)
  · obtain ⟨x,t,rfl,_⟩:=h
    rfl
  obtain ⟨x,t,rfl,hx,sm,q⟩:=h
  refine ⟨_,pss_one (ps_ret (pe_chain op_le op_le pe_int (pe_call GN hr rfl mN kN bN .nil pass0 (pa_cons (pv 0) pa_nil)) (pe_op op_pow pe_int pe_int))),?_⟩
  rw [size_num] at q
  have pw:(10:Int) ^ (18:Int).toNat = 1000000000000000000:=by decide
  refine ⟨_,rfl,x,t,rfl,hx,sm,_,_,rfl,rfl,_,rfl,ite2 (fun c => ⟨_,_,rfl,rfl,⟨by decide,by decide,by decide⟩,_,_,rfl,rfl,?_⟩) (fun c => ?_)⟩
  · have c':(1:Int) ≤ numL t:=of_decide_eq_true c
    rw [decide_eq_true c',Bool.true_and] at q
    show Q (.bl (decide (numL t ≤ (10:Int) ^ (18:Int).toNat))) H
    rw [pw]
    exact q
  · have c':¬ (1:Int) ≤ numL t:=fun y => c (decide_eq_true y)
    rw [decide_eq_false c',Bool.false_and] at q
    exact q
theorem scIsKind:FnScope ["_law_tree"] ["_law_tree"] (defScope sIsKind):=⟨rfl,rfl,rfl,by decide +kernel,rfl,by decide +kernel,by decide +kernel⟩
set_option maxHeartbeats 0 in
theorem ok_isKind {f fr fs:Addr} {fd fdr fds:FuncData} (F:Fun K "_law_is_kind" "_law_is_kind" sIsKind f fd) (bF:Binds K fd ["_law_tree"] []) (kF:PySem.W.keepIn K (.ref f) = true) (mF:mg "_law_is_kind" = some (.ref f))
    (GR:FnOk P w K mg base CX0 2 fr fdr ["_law_tree"] (spIsFar K)) (bR:Binds K fdr ["_law_tree"] []) (kR:PySem.W.keepIn K (.ref fr) = true) (mR:mg "_law_is_far" = some (.ref fr))
    (GS:FnOk P w K mg base CX0 2 fs fds ["_law_tree"] (spIsSize K)) (bS:Binds K fds ["_law_tree"] []) (kS:PySem.W.keepIn K (.ref fs) = true) (mS:mg "_law_is_size" = some (.ref fs))
    (mi:mg "isinstance" = none) (ms:mg "str" = none) (ml:mg "len" = none):∀ n,FnOk P w K mg base CX0 (n + 3) f fd ["_law_tree"] (spIsKind K n)
  | 0 => ⟨fun vs H Q E h => by obtain ⟨x,k,rfl,_⟩:=h; rfl,fun A outer s H args us vs Q E _ _ _ _ h => by
      obtain ⟨x,k,_,_,_,hd,_⟩:=h
      omega⟩
  | n + 1 => by
    have IH:=ok_isKind F bF kF mF GR bR kR mR GS bS kS mS mi ms ml n
    refine F.ok scIsKind (fun vs H Q E h => ?_) (fun cdv A outer s H vs Q E hr h => ?_)
    · obtain ⟨x,k,rfl,_⟩:=h
      rfl
    obtain ⟨x,t,rfl,hx,sm,hd,q⟩:=h
    have hr2:Room 2 _:=hr.mono (by omega)
    have hu:=hr.units
    refine ⟨_,pss_cons (ps_if (pt_val (pe_callB call_isi rfl mi bootIsi (pa_cons (pv 0) (pa_cons (pe_bltn rfl ms bootStr (v:=.ty "str") rfl) pa_nil)))) (pss_one (ps_ret (pe_call GR hr2 rfl mR kR bR .nil pass0 (pa_cons (pv 0) pa_nil)))) pss_nil)
      (pss_cons (ps_if (pt_cmpR op_eq (pe_callB call_len_seq rfl ml PySem.boot_len (pa_cons (pv 0) pa_nil)) pe_int (nomark _)) (pss_one (ps_ret (pe_and (pe_cmpR (op_eqD hu) (pe_ix ix_tup (pv 0) pe_int (fun _ _ => rfl)) pe_str (nomark _)) (pe_one (pe_call GS hr2 rfl mS kS bS .nil pass0 (pa_cons (pe_ix ix_tup (pv 0) pe_int (fun _ _ => rfl)) pa_nil)))))) pss_nil)
      (pss_one (ps_ret (pe_and (pe_cmpR op_eq (pe_callB call_len_seq rfl ml PySem.boot_len (pa_cons (pv 0) pa_nil)) pe_int (nomark _)) (pe_and (pe_cmpR (op_eqD hu) (pe_ix ix_tup (pv 0) pe_int (fun _ _ => rfl)) pe_str (nomark _))
        (pe_and (pe_call IH hr rfl mF kF bF .nil pass0 (pa_cons (pe_ix ix_tup (pv 0) pe_int (fun _ _ => rfl)) pa_nil)) (pe_one (pe_call IH hr rfl mF kF bF .nil pass0 (pa_cons (pe_ix ix_tup (pv 0) pe_int (fun _ _ => rfl)) pa_nil))))))))),?_⟩
    cases hx with
    | w z =>
      refine ⟨_,rfl,.str z,"str",_,true,rfl,.str _,kit_ss K,true,rfl,iteT ?_⟩
      refine ⟨_,rfl,.str z,.w z,rfl,.w z,sm,fun H' s' => ?_⟩
      have:=q H' s'
      rw [show (kd? (.w z)).isSome = farB (.w z) from Option.isSome_map] at this
      exact this
    | @n a xs ts ha hxs =>
      have hdr:∀ u ∈ ts,u.dep < n:=fun u hu => by
        have h1:1 + deps ts < n + 1:=hd
        have h2:=dep_mem hu
        omega
      have smr:=sm.sub
      have xl:=hxs.length
      refine ⟨_,rfl,.ref a,"str",_,false,rfl,.tup ha,kit_ts K,false,rfl,iteF ?_⟩
      refine ⟨_,rfl,a,_,rfl,.inr (SqT.of ha),rfl,_,rfl,ite2 (fun c => ?_) (fun c => ?_)⟩
      · have c':(xs.length:Int) = 2:=V.int.inj (of_decide_eq_true c)
        have l2:ts.length = 2:=by omega
        match ts,l2,xs,hxs,smr,q with
        | [u,v],_,[y,y2],.cons hy (.cons hy2 .nil),smr,q =>
          rw [kd_len2] at q
          refine ⟨_,rfl,a,_,_,y,rfl,rfl,SqT.of ha,rfl,_,_,hy.dat,.str "num",smr.head.shaped,shaped_str _ (by decide +kernel),?_⟩
          show ∃ c,V.bl (PyData.eqv u.dat (.str "num")) = .bl c ∧ _
          rw [eqv_w]
          refine ⟨_,rfl,?_⟩
          cases e:isW u "num" with
          | false =>
            have:=q H (Same.refl _)
            rw [e] at this
            exact iteF this
          | true =>
            refine iteT ⟨_,rfl,a,_,_,y2,rfl,rfl,SqT.of ha,rfl,y2,v,rfl,hy2,smr.tail.head,?_⟩
            have:=q H (Same.refl _)
            rw [e,Bool.true_and] at this
            exact this
      · have n2:ts.length ≠ 2:=fun e => c (decide_eq_true (by rw [xl,e]; rfl))
        refine ⟨_,rfl,a,_,rfl,.inr (SqT.of ha),rfl,_,rfl,ite2 (fun c2 => ?_) (fun c2 => ?_)⟩
        · have c':(xs.length:Int) = 3:=V.int.inj (of_decide_eq_true c2)
          have l2:ts.length = 3:=by omega
          match ts,l2,xs,hxs,smr,q,hdr with
          | [u,v,v2],_,[y,y2,y3],.cons hy (.cons hy2 (.cons hy3 .nil)),smr,q,hdr =>
            rw [kd_len3] at q
            refine ⟨_,rfl,a,_,_,y,rfl,rfl,SqT.of ha,rfl,_,_,hy.dat,.str "pair",smr.head.shaped,shaped_str _ (by decide +kernel),?_⟩
            show ∃ c,V.bl (PyData.eqv u.dat (.str "pair")) = .bl c ∧ _
            rw [eqv_w]
            refine ⟨_,rfl,?_⟩
            cases e:isW u "pair" with
            | false =>
              have:=q H (Same.refl _)
              rw [e] at this
              exact iteF this
            | true =>
              rw [e] at q
              refine iteT ⟨_,rfl,a,_,_,y2,rfl,rfl,SqT.of ha,rfl,y2,v,rfl,hy2,smr.tail.head,hdr v (.tail _ (.head _)),fun H2 s2 => ⟨_,rfl,?_⟩⟩
              cases e2:(kd? v).isSome with
              | false =>
                have:=q H2 s2
                rw [e2] at this
                exact iteF this
              | true =>
                refine iteT ⟨_,rfl,a,_,_,y3,rfl,rfl,SqT.of (s2 _ _ ha),rfl,y3,v2,rfl,hy3.same s2,smr.tail.tail.head,hdr v2 (.tail _ (.tail _ (.head _))),fun H3 s3 => ?_⟩
                have:=q H3 (s2.trans s3)
                rw [e2] at this
                exact this
        · have n3:ts.length ≠ 3:=fun e => c2 (decide_eq_true (by rw [xl,e]; rfl))
          have:=q H (Same.refl _)
          rw [kd_other n2 n3] at this
          exact this
noncomputable def tSI (a:Str) (i:Int):TE:=fun _ H Q => ∀ p,H p = none → Q (.ref p) (upd H p (.tup [.str a,.int i]))
theorem pe_si {X:Cx} {a:Str} {i:Int} {j1 j2 k:Nat} {p1 p2 pos:Pos}:PE X (.Tuple [.Constant (.str a) j1 p1,.Constant (.int i) j2 p2] k pos) (tSI a i):=fun pins s σ H Q I h =>
  (@pe_tup _ _ _ _ _ (@pa_cons _ _ _ _ _ (@pe_str _ _ _ _) (@pa_cons _ _ _ _ _ (@pe_int _ _ _ _) (@pa_nil _) rfl) rfl)) pins s σ H Q I ⟨(by show 2 ≤ sizeLine; decide),h⟩
theorem se2 {env:Env} {es fs:List Expr} {k:Nat} {pos:Pos}:starEach (.Tuple fs k pos :: es) env = (false,eval (.Tuple fs k pos) env) :: starEach es env:=rfl
noncomputable abbrev rsN:List Str:=["_law_head","_law_rest_here"]
theorem scRest:FnScope rsN rsN (defScope sRest):=⟨rfl,rfl,rfl,by decide +kernel,rfl,by decide +kernel,by decide +kernel⟩
theorem head_at0 {H:Hp} {xs:List V} {ts:List Tr} (h:TrsAt K H xs ts) (hl:1 ≤ ts.length):∃ y,atI xs 0 = some y ∧ TrAt K H y (hd0 ts):=by
  match ts,xs,h,hl with
  | t :: ts,y :: ys,.cons hy _,_ => exact ⟨y,at0,hy⟩
theorem Sms.hd {ts:List Tr} (h:Sms ts) (hl:1 ≤ ts.length):Sm (hd0 ts):=by
  match ts,h,hl with
  | t :: ts,h,_ => exact h.head
theorem name_B (t:Tr):(name? t).isSome = (match t with | .w z => nameOk z | .n _ => false):=by
  match t with
  | .n _ => rfl
  | .w z =>
    show (if nameOk z = true then some z else none).isSome = nameOk z
    cases nameOk z <;> rfl
theorem name_or {H:Hp} {x:V} {t:Tr} (hx:TrAt K H x t) (sm:Sm t):(∃ z:Str,x = .str z ∧ z.length ≤ 25 ∧ (name? t).isSome = nameOk z) ∨ ∃ (p:Addr) (xs:List V),x = .ref p ∧ H p = some (.tup xs) ∧ (name? t).isSome = false:=by
  cases hx with
  | w z => exact .inl ⟨z,rfl,sm.word.1,name_B _⟩
  | @n a us vs ha hus => exact .inr ⟨a,us,rfl,ha,rfl⟩
set_option maxHeartbeats 0 in
theorem ok_rest {f fr fs fn fm:Addr} {fd fdr fds fdn fdm:FuncData} (F:Fun K "_law_rest" "_law_rest" sRest f fd)
    (GR:FnOk P w K mg base CX0 2 fr fdr ["_law_tree"] (spIsFar K)) (bR:Binds K fdr ["_law_tree"] []) (kR:PySem.W.keepIn K (.ref fr) = true) (mR:mg "_law_is_far" = some (.ref fr))
    (GS:FnOk P w K mg base CX0 2 fs fds ["_law_tree"] (spIsSize K)) (bS:Binds K fds ["_law_tree"] []) (kS:PySem.W.keepIn K (.ref fs) = true) (mS:mg "_law_is_size" = some (.ref fs))
    (GN:FnOk P w K mg base CX0 1 fn fdn ["_law_tree"] (spNumL K)) (bN:Binds K fdn ["_law_tree"] []) (kN:PySem.W.keepIn K (.ref fn) = true) (mN:mg "_law_number" = some (.ref fn))
    (GM:FnOk P w K mg base CX0 1 fm fdm ["_law_tree"] (spIsName K)) (bM:Binds K fdm ["_law_tree"] []) (kM:PySem.W.keepIn K (.ref fm) = true) (mM:mg "_law_is_name" = some (.ref fm))
    (ml:mg "len" = none) (mI:mg "int" = none):FnOk P w K mg base CX0 3 f fd rsN (spRest K):=by
  refine F.ok scRest (fun vs H Q E h => ?_) (fun cdv A outer s H vs Q E hr h => ?_)
  · obtain ⟨x,u,p,xs,ts,rfl,_⟩:=h
    rfl
  obtain ⟨x,u,p,xs,ts,rfl,hx,smu,hp,hxs,sm,q,qN⟩:=h
  have hr1:Room 1 _:=hr.mono (by omega)
  have hu:=hr.units
  have xl:=hxs.length
  have cl:=sm.count
  obtain ⟨t5,d5,k5⟩:∃ t,PSs (cxOf CX0 P w K mg base rsN "_law_rest" (defScope sRest) f cdv A outer s H E).nox (List.drop 5 (defBody sRest)) t ∧ ∀ H1,Same H H1 → lr u ts = lr5 u ts → t { nx:=fun _ H' => Q .non H',rt:=Q } [some x,some (.ref p)] H1:=by
    refine ⟨_,pss_cons (ps_if (PW.pt (pw_and (pt_val (pe_call GR hr rfl mR kR bR .nil pass0 (pa_cons (pv 0) pa_nil))) (pw_and1 (pt_cmpR op_lt (pe_callB call_len_seq rfl ml PySem.boot_len (pa_cons (pv 1) pa_nil)) pe_int (nomark _))))) (pss_one (ps_ret (pv 1))) pss_nil) (pss_one (ps_ret pe_non)),fun H1 s1 el => ?_⟩
    refine ⟨_,rfl,x,u,rfl,hx.same s1,smu,fun H2 s2 => ⟨_,rfl,?_⟩⟩
    have s12:=s1.trans s2
    unfold lr5 at el
    cases ef:farB u with
    | false =>
      rw [ef] at el
      exact iteF (iteF (qN el _ s12))
    | true =>
      rw [ef,Bool.true_and] at el
      refine iteT ⟨_,rfl,p,_,rfl,.inr (SqT.of (s12 _ _ hp)),_,_,rfl,rfl,_,rfl,ite2 (fun c => ?_) (fun c => ?_)⟩
      · have c':(xs.length:Int) < 5:=of_decide_eq_true c
        rw [decide_eq_true (by omega),if_pos rfl] at el
        exact ⟨_,rfl,q 0 el _ _ xs s12 ⟨p,rfl,.inr (SqT.of (s12 _ _ hp))⟩ (hxs.same s12)⟩
      · have c':¬ (xs.length:Int) < 5:=fun y => c (decide_eq_true y)
        rw [decide_eq_false (by omega)] at el
        exact qN el _ s12
  obtain ⟨t4,d4,k4⟩:∃ t,PSs (cxOf CX0 P w K mg base rsN "_law_rest" (defScope sRest) f cdv A outer s H E).nox (List.drop 4 (defBody sRest)) t ∧ ∀ H1,Same H H1 → lr u ts = lr4 u ts → t { nx:=fun _ H' => Q .non H',rt:=Q } [some x,some (.ref p)] H1:=by
    refine ⟨_,@pss_cons _ _ _ _ _ (ps_if (pt_cmpR (op_inD hu) (pe_tup (pa_cons (pv 0) (pa_cons (pe_callB call_len_seq rfl ml PySem.boot_len (pa_cons (pv 1) pa_nil)) pa_nil)))
      (@pe_lst _ _ _ _ (@pa_cons _ _ _ _ _ pe_si (@pa_cons _ _ _ _ _ pe_si (@pa_cons _ _ _ _ _ pe_si (@pa_cons _ _ _ _ _ pe_si (@pa_cons _ _ _ _ _ pe_si (@pa_cons _ _ _ _ _ pe_si (@pa_nil _) se2) se2) se2) se2) se2) se2)) (by with_unfolding_all rfl)) (pss_one (ps_ret (pv 1))) pss_nil) @d5,fun H1 s1 el => ?_⟩
    refine ⟨_,rfl,_,rfl,p,_,rfl,.inr (SqT.of (s1 _ _ hp)),(by show 2 ≤ sizeLine; decide),fun p0 h0 => ?_⟩
    intro p1 h1 p2 h2 p3 h3 p4 h4 p5 h5 p6 h6
    refine ⟨(by show 6 ≤ sizeLine; decide),fun l hl => ?_⟩
    have z0:=same_new h0 (.tup [x,.int (xs.length:Int)])
    have z1:=same_new h1 (.tup [.str "=",.int 2])
    have z2:=same_new h2 (.tup [.str "<",.int 2])
    have z3:=same_new h3 (.tup [.str "if",.int 3])
    have z4:=same_new h4 (.tup [.str "two",.int 2])
    have z5:=same_new h5 (.tup [.str "first",.int 1])
    have z6:=same_new h6 (.tup [.str "second",.int 1])
    have z7:=same_new hl (.lst [.ref p1,.ref p2,.ref p3,.ref p4,.ref p5,.ref p6])
    have y6:=z6.trans z7
    have y5:=z5.trans y6
    have y4:=z4.trans y5
    have y3:=z3.trans y4
    have y2:=z2.trans y3
    have y1:=z1.trans y2
    have y0:=z0.trans y1
    have s2:=s1.trans y0
    have pr:∀ {Hf:Hp} {pp:Addr} {a:Str} {i:Int},Hf pp = some (.tup [.str a,.int i]) → Dat K Hf (.ref pp) (.tuple [.str a,.int i]):=fun h => .tup (SqT.of h) (.cons (.str _) (.cons (.int _) .nil))
    refine ⟨l,_,[.tuple [.str "=",.int 2],.tuple [.str "<",.int 2],.tuple [.str "if",.int 3],.tuple [.str "two",.int 2],.tuple [.str "first",.int 1],.tuple [.str "second",.int 1]],.tuple [u.dat,.int (xs.length:Int)],rfl,SqL.of upd_same,
      .cons (pr (y2 _ _ upd_same)) (.cons (pr (y3 _ _ upd_same)) (.cons (pr (y4 _ _ upd_same)) (.cons (pr (y5 _ _ upd_same)) (.cons (pr (y6 _ _ upd_same)) (.cons (pr (z7 _ _ upd_same)) .nil))))),.tup (SqT.of (y1 _ _ upd_same)) (.cons (hx.same s2).dat (.cons (.int _) .nil)),by decide +kernel,?_,?_,?_⟩
    · simp only [PyData.canLay0,PyData.canLayAll0,smu.laid.1,Bool.and_self]
    · simp only [PyData.depth,PyData.depthAll]
      have:=smu.laid.2
      omega
    have ev:∀ (a:Str) (i:Int),PyData.eqv (.tuple [.str a,.int i]) (.tuple [u.dat,.int (xs.length:Int)]) = (isW u a && decide (i = (ts.length:Int))):=fun a i => by
      rw [xl]
      exact eqv_pr u a i _
    have e:([PyData.tuple [.str "=",.int 2],.tuple [.str "<",.int 2],.tuple [.str "if",.int 3],.tuple [.str "two",.int 2],.tuple [.str "first",.int 1],.tuple [.str "second",.int 1]].any fun e => PyData.eqv e (.tuple [u.dat,.int (xs.length:Int)])) = prB u ts.length:=by
      unfold prB prs
      simp only [List.any_cons,List.any_nil,ev]
    show ∃ k,V.bl ([PyData.tuple [.str "=",.int 2],.tuple [.str "<",.int 2],.tuple [.str "if",.int 3],.tuple [.str "two",.int 2],.tuple [.str "first",.int 1],.tuple [.str "second",.int 1]].any fun e => PyData.eqv e (.tuple [u.dat,.int (xs.length:Int)])) = .bl k ∧ _
    rw [e]
    refine ⟨_,rfl,?_⟩
    unfold lr4 at el
    cases ep:prB u ts.length with
    | true =>
      rw [ep,if_pos rfl] at el
      exact iteT ⟨_,rfl,q 0 el _ _ xs s2 ⟨p,rfl,.inr (SqT.of (s2 _ _ hp))⟩ (hxs.same s2)⟩
    | false =>
      rw [ep] at el
      exact iteF (k5 _ s2 el)
  /- the slice behind the first -/
  have cut:∀ (H1:Hp) (Q':VK),Same H H1 → 2 ≤ ts.length → (∀ H2 v ys,Same H1 H2 → SeqV K H2 v ys → TrsAt K H2 ys (ts.drop 1) → Q' v H2) → rSlT K (.ref p) (some 1) none H1 Q':=fun H1 Q' s1 l1 h => by
    refine ⟨p,xs,rfl,SqT.of (s1 _ _ hp),not_whole (k:=1) (by decide) (by omega),fun p5 hp5 => ?_⟩
    have s5:=same_new hp5 (.tup (cutV xs (some 1) none))
    have e5:cutV xs (some 1) none = xs.drop 1:=cut_from _ 1
    refine h _ _ (xs.drop 1) s5 ⟨p5,rfl,.inr (SqT.of (by rw [upd_same,e5]))⟩ ?_
    have h0:=hxs.same (s1.trans s5)
    match ts,xs,h0 with
    | _ :: _,_ :: _,.cons _ h => exact h
    | [],[],.nil => exact .nil
  obtain ⟨t3,d3,k3⟩:∃ t,PSs (cxOf CX0 P w K mg base rsN "_law_rest" (defScope sRest) f cdv A outer s H E).nox (List.drop 3 (defBody sRest)) t ∧ ∀ H1,Same H H1 → lr u ts = lr3 u ts → t { nx:=fun _ H' => Q .non H',rt:=Q } [some x,some (.ref p)] H1:=by
    refine ⟨_,@pss_cons _ _ _ _ _ (ps_if (PW.pt (pw_and (pt_cmpR (op_eqD hu) (pv 0) pe_str (nomark _)) (pw_and (pt_cmpR op_eq (pe_callB call_len_seq rfl ml PySem.boot_len (pa_cons (pv 1) pa_nil)) pe_int (nomark _)) (pw_and1 (pt_val (pe_call GM hr1 rfl mM kM bM .nil pass0 (pa_cons (pe_ix ix_tup (pv 1) pe_int (fun _ _ => rfl)) pa_nil))))))) (pss_one (ps_ret (pe_slice sl_tup (pv 1) (po_some pe_int) po_none))) pss_nil) @d4,fun H1 s1 el => ?_⟩
    refine ⟨_,rfl,_,_,(hx.same s1).dat,.str "let",smu.shaped,shaped_str _ (by decide +kernel),?_⟩
    show ∃ k,V.bl (PyData.eqv u.dat (.str "let")) = .bl k ∧ _
    rw [eqv_w]
    refine ⟨_,rfl,?_⟩
    unfold lr3 at el
    cases ew:isW u "let" with
    | false =>
      rw [ew] at el
      exact iteF (iteF (k4 _ s1 el))
    | true =>
      rw [ew,Bool.true_and] at el
      refine iteT ⟨_,rfl,p,_,rfl,.inr (SqT.of (s1 _ _ hp)),rfl,_,rfl,ite2 (fun c => ?_) (fun c => ?_)⟩
      · have c':(xs.length:Int) = 3:=V.int.inj (of_decide_eq_true c)
        have l3:ts.length = 3:=by omega
        rw [decide_eq_true l3,Bool.true_and] at el
        obtain ⟨y,hy,hyt⟩:=head_at0 hxs (by omega)
        rcases name_or (hyt.same s1) (sm.hd (by omega)) with ⟨z,rfl,lz,ez⟩ | ⟨pp,us,rfl,hpp,ez⟩
        · refine ⟨_,rfl,p,_,_,.str z,rfl,rfl,SqT.of (s1 _ _ hp),hy,_,rfl,.inl ⟨z,rfl,lz,fun H2 s2 => ⟨_,rfl,?_⟩⟩⟩
          have s12:=s1.trans s2
          rw [ez] at el
          cases en:nameOk z with
          | true =>
            rw [en,if_pos rfl] at el
            exact iteT ⟨_,rfl,_,rfl,cut H2 _ s12 (by omega) fun H3 v ys s3 hv hys => q 1 el _ _ ys (s12.trans s3) hv hys⟩
          | false =>
            rw [en] at el
            exact iteF (k4 _ s12 el)
        · refine ⟨_,rfl,p,_,_,.ref pp,rfl,rfl,SqT.of (s1 _ _ hp),hy,_,rfl,.inr ⟨pp,us,rfl,hpp,_,rfl,iteF ?_⟩⟩
          rw [ez] at el
          exact k4 _ s1 el
      · have l3:ts.length ≠ 3:=fun e => c (decide_eq_true (by rw [xl,e]; rfl))
        rw [decide_eq_false l3] at el
        exact iteF (k4 _ s1 el)
  obtain ⟨t2,d2,k2⟩:∃ t,PSs (cxOf CX0 P w K mg base rsN "_law_rest" (defScope sRest) f cdv A outer s H E).nox (List.drop 2 (defBody sRest)) t ∧ ∀ H1,Same H H1 → lr u ts = lr2 u ts → t { nx:=fun _ H' => Q .non H',rt:=Q } [some x,some (.ref p)] H1:=by
    refine ⟨_,@pss_cons _ _ _ _ _ (ps_if (PW.pt (pw_and (pt_cmpR (op_eqD hu) (pv 0) pe_str (nomark _)) (pw_and (pt_cmpR op_eq (pe_callB call_len_seq rfl ml PySem.boot_len (pa_cons (pv 1) pa_nil)) pe_int (nomark _)) (pw_and1 (pt_val (pe_call GS hr rfl mS kS bS .nil pass0 (pa_cons (pe_ix ix_tup (pv 1) pe_int (fun _ _ => rfl)) pa_nil))))))) (pss_one (ps_ret (pe_slice sl_tup (pv 1) (po_some pe_int) po_none))) pss_nil) @d3,fun H1 s1 el => ?_⟩
    refine ⟨_,rfl,_,_,(hx.same s1).dat,.str "as",smu.shaped,shaped_str _ (by decide +kernel),?_⟩
    show ∃ k,V.bl (PyData.eqv u.dat (.str "as")) = .bl k ∧ _
    rw [eqv_w]
    refine ⟨_,rfl,?_⟩
    unfold lr2 at el
    cases ew:isW u "as" with
    | false =>
      rw [ew] at el
      exact iteF (iteF (k3 _ s1 el))
    | true =>
      rw [ew,Bool.true_and] at el
      refine iteT ⟨_,rfl,p,_,rfl,.inr (SqT.of (s1 _ _ hp)),rfl,_,rfl,ite2 (fun c => ?_) (fun c => ?_)⟩
      · have c':(xs.length:Int) = 2:=V.int.inj (of_decide_eq_true c)
        have l3:ts.length = 2:=by omega
        rw [decide_eq_true l3,Bool.true_and] at el
        obtain ⟨y,hy,hyt⟩:=head_at0 hxs (by omega)
        refine ⟨_,rfl,p,_,_,y,rfl,rfl,SqT.of (s1 _ _ hp),hy,y,_,rfl,hyt.same s1,sm.hd (by omega),_,rfl,?_⟩
        cases en:(size? (hd0 ts)).isSome with
        | true =>
          rw [en,if_pos rfl] at el
          exact iteT ⟨_,rfl,_,rfl,cut H1 _ s1 (by omega) fun H3 v ys s3 hv hys => q 1 el _ _ ys (s1.trans s3) hv hys⟩
        | false =>
          rw [en] at el
          exact iteF (k3 _ s1 el)
      · have l3:ts.length ≠ 2:=fun e => c (decide_eq_true (by rw [xl,e]; rfl))
        rw [decide_eq_false l3] at el
        exact iteF (k3 _ s1 el)
  obtain ⟨t1,d1,k1⟩:∃ t,PSs (cxOf CX0 P w K mg base rsN "_law_rest" (defScope sRest) f cdv A outer s H E).nox (List.drop 1 (defBody sRest)) t ∧ ∀ H1,Same H H1 → lr u ts = lr1 u ts → t { nx:=fun _ H' => Q .non H',rt:=Q } [some x,some (.ref p)] H1:=by
    refine ⟨_,@pss_cons _ _ _ _ _ (ps_if (PW.pt (pw_and (pt_cmpR (op_inDT hu) (pv 0) (pe_tup (pa_cons pe_str (pa_cons pe_str (pa_cons pe_str pa_nil)))) (by with_unfolding_all rfl)) (pw_and (pt_cmpR op_eq (pe_callB call_len_seq rfl ml PySem.boot_len (pa_cons (pv 1) pa_nil)) pe_int (nomark _)) (pw_and1 (pt_val (pe_call GS hr rfl mS kS bS .nil pass0 (pa_cons (pe_ix ix_tup (pv 1) pe_int (fun _ _ => rfl)) pa_nil))))))) (pss_one (ps_ret (pe_slice sl_tup (pv 1) (po_some pe_int) po_none))) pss_nil) @d2,fun H1 s1 el => ?_⟩
    refine ⟨_,rfl,(by show 3 ≤ sizeLine; decide),fun p0 h0 => ?_⟩
    have z0:=same_new h0 (.tup [.str "+",.str "-",.str "*"])
    have s2:=s1.trans z0
    refine ⟨p0,_,[.str "+",.str "-",.str "*"],u.dat,rfl,SqT.of upd_same,.cons (.str _) (.cons (.str _) (.cons (.str _) .nil)),(hx.same s2).dat,by decide +kernel,smu.laid.1,by have:=smu.laid.2; omega,?_⟩
    have e:([PyData.str "+",.str "-",.str "*"].any fun e => PyData.eqv e u.dat) = opsB u:=by
      unfold opsB
      simp only [List.any_cons,List.any_nil,eqv_w',Bool.or_false]
    show ∃ k,V.bl ([PyData.str "+",.str "-",.str "*"].any fun e => PyData.eqv e u.dat) = .bl k ∧ _
    rw [e]
    refine ⟨_,rfl,?_⟩
    unfold lr1 at el
    cases ew:opsB u with
    | false =>
      rw [ew] at el
      exact iteF (iteF (k2 _ s2 el))
    | true =>
      rw [ew,Bool.true_and] at el
      refine iteT ⟨_,rfl,p,_,rfl,.inr (SqT.of (s2 _ _ hp)),rfl,_,rfl,ite2 (fun c => ?_) (fun c => ?_)⟩
      · have c':(xs.length:Int) = 3:=V.int.inj (of_decide_eq_true c)
        have l3:ts.length = 3:=by omega
        rw [decide_eq_true l3,Bool.true_and] at el
        obtain ⟨y,hy,hyt⟩:=head_at0 hxs (by omega)
        refine ⟨_,rfl,p,_,_,y,rfl,rfl,SqT.of (s2 _ _ hp),hy,y,_,rfl,hyt.same s2,sm.hd (by omega),_,rfl,?_⟩
        cases en:(size? (hd0 ts)).isSome with
        | true =>
          rw [en,if_pos rfl] at el
          exact iteT ⟨_,rfl,_,rfl,cut _ _ s2 (by omega) fun H3 v ys s3 hv hys => q 1 el _ _ ys (s2.trans s3) hv hys⟩
        | false =>
          rw [en] at el
          exact iteF (k2 _ s2 el)
      · have l3:ts.length ≠ 3:=fun e => c (decide_eq_true (by rw [xl,e]; rfl))
        rw [decide_eq_false l3] at el
        exact iteF (k2 _ s2 el)
  refine ⟨_,@pss_cons _ _ _ _ _ (ps_if (PW.pt (pw_and (pt_cmpR (op_eqD hu) (pv 0) pe_str (nomark _)) (pw_and1 (pt_cmpR op_eq (pe_callB call_len_seq rfl ml PySem.boot_len (pa_cons (pv 1) pa_nil)) pe_int (nomark _)))))
    (pss_one (ps_ret (pe_ix ix_list (pe_lst (pa_cons (pe_lst pa_nil) (pa_cons pe_non pa_nil))) (pe_callTy call_int1 rfl mI bootInt (pa_cons (pe_not (pe_and (pe_call GS hr rfl mS kS bS .nil pass0 (pa_cons (pe_ix ix_tup (pv 1) pe_int (fun _ _ => rfl)) pa_nil))
      (pe_one (pe_chain op_le op_lt pe_int (pe_call GN hr1 rfl mN kN bN .nil pass0 (pa_cons (pe_ix ix_tup (pv 1) pe_int (fun _ _ => rfl)) pa_nil)) (pe_call GN hr1 rfl mN kN bN .nil pass0 (pa_cons (pe_ix ix_tup (pv 1) pe_int (fun _ _ => rfl)) pa_nil)))))) pa_nil)) (fun _ _ => rfl)))) pss_nil) @d1,?_⟩
  refine ⟨_,rfl,_,_,hx.dat,.str "lit",smu.shaped,shaped_str _ (by decide +kernel),?_⟩
  show ∃ k,V.bl (PyData.eqv u.dat (.str "lit")) = .bl k ∧ _
  rw [eqv_w]
  refine ⟨_,rfl,?_⟩
  have el:lr u ts = if (isW u "lit" && decide (ts.length = 2)) = true then lrL ts else lr1 u ts:=rfl
  cases ew:isW u "lit" with
  | false =>
    rw [ew] at el
    exact iteF (iteF (k1 _ (Same.refl _) el))
  | true =>
    rw [ew,Bool.true_and] at el
    refine iteT ⟨_,rfl,p,_,rfl,.inr (SqT.of hp),rfl,_,rfl,ite2 (fun c => ?_) (fun c => ?_)⟩
    · have c':(xs.length:Int) = 2:=V.int.inj (of_decide_eq_true c)
      have l2:ts.length = 2:=by omega
      rw [decide_eq_true l2,if_pos rfl] at el
      match ts,l2,xs,hxs,sm,el,q,qN with
      | [t1,t2],_,[y1,y2],.cons hy1 (.cons hy2 .nil),sm,el,q,qN =>
        have el':lr u [t1,t2] = if litB t1 t2 = true then some 2 else none:=el
        refine ⟨(by show 0 ≤ sizeLine; decide),fun l0 h0 => ⟨(by show 2 ≤ sizeLine; decide),fun l hl => ?_⟩⟩
        have z0:=same_new h0 (.lst [])
        have z1:=same_new hl (.lst [.ref l0,.non])
        have s1:=z0.trans z1
        have fin:∀ b:Bool,litB t1 t2 = b → ∃ q0 xs i v,V.ref l = V.ref q0 ∧ V.int (if (!b) = true then 1 else 0) = V.int i ∧ SqL K (upd (upd H l0 (.lst [])) l (.lst [.ref l0,.non])) q0 xs ∧ atI xs i = some v ∧ Q v (upd (upd H l0 (.lst [])) l (.lst [.ref l0,.non])):=fun b hb => by
          rw [hb] at el'
          cases b with
          | true =>
            rw [if_pos rfl] at el'
            exact ⟨l,_,_,.ref l0,rfl,rfl,SqL.of upd_same,at0,q 2 el' _ _ [] s1 ⟨l0,rfl,.inl (SqL.of (z1 _ _ upd_same))⟩ .nil⟩
          | false => exact ⟨l,_,_,.non,rfl,rfl,SqL.of upd_same,at1,qN el' _ s1⟩
        refine ⟨_,rfl,p,_,_,y2,rfl,rfl,SqT.of (s1 _ _ hp),at1,y2,t2,rfl,hy2.same s1,sm.tail.head,_,rfl,?_⟩
        unfold litB at fin
        cases e1:(size? t2).isSome with
        | false =>
          refine iteF ⟨_,rfl,.inr ⟨_,rfl,?_⟩⟩
          exact fin false (by rw [e1]; rfl)
        | true =>
          rw [e1,Bool.true_and] at fin
          refine iteT ⟨_,rfl,p,_,_,y1,rfl,rfl,SqT.of (s1 _ _ hp),at0,y1,t1,rfl,hy1.same s1,sm.head,_,_,rfl,rfl,_,rfl,ite2 (fun c2 => ?_) (fun c2 => ?_)⟩
          · have c3:(0:Int) ≤ numL t1:=of_decide_eq_true c2
            rw [decide_eq_true c3,Bool.true_and] at fin
            refine ⟨_,rfl,p,_,_,y2,rfl,rfl,SqT.of (s1 _ _ hp),at1,y2,t2,rfl,hy2.same s1,sm.tail.head,_,_,rfl,rfl,_,rfl,.inr ⟨_,rfl,?_⟩⟩
            exact fin _ rfl
          · have c3:¬ (0:Int) ≤ numL t1:=fun y => c2 (decide_eq_true y)
            rw [decide_eq_false c3] at fin
            exact ⟨_,rfl,.inr ⟨_,rfl,fin false rfl⟩⟩
    · have l2:ts.length ≠ 2:=fun e => c (decide_eq_true (by rw [xl,e]; rfl))
      rw [decide_eq_false l2] at el
      exact k1 _ (Same.refl _) el
end
end K18
namespace K18
open PySem L2
section
variable {P:Program} {w:World} {K:PySem.W.Frag} {mg:Str → Option Value} {base:Heap}
theorem scIsEx:FnScope ["_law_tree","_law_rest_here"] ["_law_tree"] (defScope sIsEx):=⟨rfl,rfl,rfl,by decide +kernel,rfl,by decide +kernel,by decide +kernel⟩
set_option maxHeartbeats 0 in
theorem ok_isEx {f fr fn:Addr} {fd fdr fdn:FuncData} (F:Fun K "_law_is_expression" "_law_is_expression" sIsEx f fd) (bF:Binds K fd ["_law_tree"] []) (kF:PySem.W.keepIn K (.ref f) = true) (mF:mg "_law_is_expression" = some (.ref f))
    (GR:FnOk P w K mg base CX0 3 fr fdr rsN (spRest K)) (bR:Binds K fdr rsN []) (kR:PySem.W.keepIn K (.ref fr) = true) (mR:mg "_law_rest" = some (.ref fr))
    (GN:FnOk P w K mg base CX0 1 fn fdn ["_law_tree"] (spIsName K)) (bN:Binds K fdn ["_law_tree"] []) (kN:PySem.W.keepIn K (.ref fn) = true) (mN:mg "_law_is_name" = some (.ref fn))
    (mi:mg "isinstance" = none) (ms:mg "str" = none) (ml:mg "len" = none) (mall:mg "all" = none):∀ n,FnOk P w K mg base CX0 (n + 4) f fd ["_law_tree"] (spIsEx K n)
  | 0 => ⟨fun vs H Q E h => by obtain ⟨x,k,rfl,_⟩:=h; rfl,fun A outer s H args us vs Q E _ _ _ _ h => by
      obtain ⟨x,k,_,_,_,hd,_⟩:=h
      omega⟩
  | n + 1 => by
    have IH:=ok_isEx F bF kF mF GR bR kR mR GN bN kN mN mi ms ml mall n
    refine F.ok scIsEx (fun vs H Q E h => ?_) (fun cdv A outer s H vs Q E hr h => ?_)
    · obtain ⟨x,k,rfl,_⟩:=h
      rfl
    obtain ⟨x,t,rfl,hx,sm,hd,q⟩:=h
    have hr1:Room 1 _:=hr.mono (by omega)
    have hr3:Room 3 _:=hr.mono (by omega)
    refine ⟨_,pss_cons (ps_if (pt_val (pe_callB call_isi rfl mi bootIsi (pa_cons (pv 0) (pa_cons (pe_bltn rfl ms bootStr (v:=.ty "str") rfl) pa_nil)))) (pss_one (ps_ret (pe_call GN hr1 rfl mN kN bN .nil pass0 (pa_cons (pv 0) pa_nil)))) pss_nil)
      (pss_cons (ps_if (pt_cmpR op_eq (pe_callB call_len_seq rfl ml PySem.boot_len (pa_cons (pv 0) pa_nil)) pe_int (nomark _)) (pss_one (ps_ret pe_bl)) pss_nil)
      (pss_cons (ps_set (i:=1) scIsEx.nd rfl (Or.inl rfl) (pe_call GR hr3 rfl mR kR bR .nil pass0 (pa_cons (pe_ix ix_tup (pv 0) pe_int (fun _ _ => rfl)) (pa_cons (pe_slice sl_tup (pv 0) (po_some pe_int) po_none) pa_nil))))
      (pss_one (ps_ret (pe_and (pe_cmpR op_notN (pv 1) pe_non (nomark _)) (pe_one (pe_callB (call_allB rfl) rfl mall bootAll (pa_cons (pe_comp (own:=["_law_one"]) (caps:=[]) (κ:=[]) (cl:=[]) rfl ⟨rfl,by decide +kernel,by decide +kernel,rfl,rfl,(fun y hy => nomatch hy),(fun y hy => nomatch hy)⟩ rfl (pi_seq (pv 1))
        (fun _ _ _ _ => pg_name (i:=0) (show (["_law_one"]:List Str).Nodup from by decide +kernel) rfl (Or.inl rfl)) (fun _ _ _ _ => pe_call IH hr rfl mF kF bF .nil pass0 (pa_cons (pv 0) pa_nil))) pa_nil)))))))),?_⟩
    cases hx with
    | w z =>
      refine ⟨_,rfl,.str z,"str",_,true,rfl,.str _,kit_ss K,true,rfl,iteT ?_⟩
      refine ⟨_,rfl,_,rfl,.inl ⟨z,rfl,sm.word.1,fun H' s' => ?_⟩⟩
      have:=q H' s'
      rw [show (ex? (.w z)).isSome = nameOk z from by show (if nameOk z = true then some (Ex.var z) else none).isSome = nameOk z; cases nameOk z <;> rfl] at this
      exact this
    | @n a xs ts ha hxs =>
      refine ⟨_,rfl,.ref a,"str",_,false,rfl,.tup ha,kit_ts K,false,rfl,iteF ?_⟩
      match ts,xs,hxs,ha,sm,hd,q with
      | [],[],.nil,ha,sm,hd,q =>
        refine ⟨_,rfl,a,_,rfl,.inr (SqT.of ha),rfl,_,rfl,ite2 (fun _ => ?_) (fun c => absurd (by decide) c)⟩
        exact q H (Same.refl _)
      | u :: ts,y :: ys,.cons hy hys,ha,sm,hd,q =>
        have hdr:∀ v ∈ ts,v.dep < n:=fun v hv => by
          have h1:1 + deps (u :: ts) < n + 1:=hd
          have h2:=dep_mem (ts:=u :: ts) (.tail _ hv)
          omega
        have smr:=sm.sub.tail
        refine ⟨_,rfl,a,_,rfl,.inr (SqT.of ha),rfl,_,rfl,ite2 (fun c => ?_) (fun _ => ?_)⟩
        · have c':((y :: ys).length:Int) = 0:=V.int.inj (of_decide_eq_true c)
          rw [List.length_cons] at c'
          omega
        rw [ex_lr] at q
        refine ⟨_,rfl,a,_,_,y,rfl,rfl,SqT.of ha,at0,_,rfl,_,rfl,a,_,rfl,SqT.of ha,not_whole (k:=1) (by decide) (by simp),fun p5 hp5 => ?_⟩
        have s5:=same_new hp5 (.tup (cutV (y :: ys) (some 1) none))
        have e5:cutV (y :: ys) (some 1) none = ys:=cut_from _ 1
        have h5:∀ Hq:Hp,(upd Hq p5 (.tup (cutV (y :: ys) (some 1) none))) p5 = some (.tup ys):=fun Hq => by rw [upd_same,e5]
        refine ⟨y,u,p5,ys,ts,rfl,hy.same s5,sm.sub.head,h5 _,hys.same s5,smr,fun k ek H2 v zs s2 hv hzs => ?_,fun ek H2 s2 => ?_⟩
        · rw [ek] at q
          have smd:=smr.drop k
          have zl:=hzs.length
          have cl:=smd.count
          have dd:∀ v ∈ ts.drop k,v.dep < n:=fun v hv => hdr v (List.mem_of_mem_drop hv)
          obtain ⟨b,rfl,hsq⟩:=hv
          refine ⟨_,rfl,rfl,_,rfl,iteT ⟨_,rfl,b,rfl,?_⟩⟩
          have S:=s5.trans s2
          rcases hsq with hsq | hsq
          · refine .inl ⟨⟨_,hsq⟩,?_⟩
            refine comp_by (J:=Itl K b) (xs:=zs) (fun i os H3 => i ≤ (ts.drop k).length ∧ os = (((ts.drop k).take i).map fun t => (ex? t).isSome).map V.bl ∧ Same H2 H3) ⟨Nat.zero_le _,rfl,Same.refl _⟩ (small (by omega)) ?_ ?_ ?_ ?_ ?_ ?_
            · rintro i os H3 ⟨hi,rfl,_⟩
              rw [List.length_map,List.length_map,List.length_take]
              omega
            · rintro i u os H3 hu ⟨_,_,s3⟩
              exact ⟨_,_,s3.seq hsq,hu⟩
            · rintro i os u H3 H' hn ⟨_,_,s3⟩ hy
              exact ⟨hy.1,hy.2 _ (s3.seq hsq)⟩
            · rintro os H3 ⟨_,_,s3⟩
              exact ⟨_,s3.seq hsq,Nat.le_refl _⟩
            · rintro i u os H3 N hN hu ⟨hi,rfl,s3⟩
              obtain ⟨t,ht,hut⟩:=hzs.get hu
              have hm:=List.mem_of_getElem? ht
              refine ⟨rfl,tYes_go ⟨_,rfl,u,t,rfl,hut.same s3,smd.mem hm,dd t hm,fun H4 s4 => hN _ _ ⟨(List.getElem?_eq_some_iff.mp ht).1,?_,s3.trans s4⟩⟩⟩
              rw [List.take_add_one,ht,List.map_append,List.map_append]
              rfl
            · rintro os H3 D ⟨hi,rfl,s3⟩ hD
              refine ⟨D,(ts.drop k).map fun t => (ex? t).isSome,rfl,SqL.of ?_,?_⟩
              · rw [upd_same,zl,List.take_length]
              · exact q _ (S.trans (s3.trans (same_new hD _)))
          · refine .inr ⟨⟨_,hsq⟩,?_⟩
            refine comp_by (J:=Itt K b) (xs:=zs) (fun i os H3 => i ≤ (ts.drop k).length ∧ os = (((ts.drop k).take i).map fun t => (ex? t).isSome).map V.bl ∧ Same H2 H3) ⟨Nat.zero_le _,rfl,Same.refl _⟩ (small (by omega)) ?_ ?_ ?_ ?_ ?_ ?_
            · rintro i os H3 ⟨hi,rfl,_⟩
              rw [List.length_map,List.length_map,List.length_take]
              omega
            · rintro i u os H3 hu ⟨_,_,s3⟩
              exact ⟨_,_,s3.tup hsq,hu⟩
            · rintro i os u H3 H' hn ⟨_,_,s3⟩ hy
              exact ⟨hy.1,hy.2 _ (s3.tup hsq)⟩
            · rintro os H3 ⟨_,_,s3⟩
              exact ⟨_,s3.tup hsq,Nat.le_refl _⟩
            · rintro i u os H3 N hN hu ⟨hi,rfl,s3⟩
              obtain ⟨t,ht,hut⟩:=hzs.get hu
              have hm:=List.mem_of_getElem? ht
              refine ⟨rfl,tYes_go ⟨_,rfl,u,t,rfl,hut.same s3,smd.mem hm,dd t hm,fun H4 s4 => hN _ _ ⟨(List.getElem?_eq_some_iff.mp ht).1,?_,s3.trans s4⟩⟩⟩
              rw [List.take_add_one,ht,List.map_append,List.map_append]
              rfl
            · rintro os H3 D ⟨hi,rfl,s3⟩ hD
              refine ⟨D,(ts.drop k).map fun t => (ex? t).isSome,rfl,SqL.of ?_,?_⟩
              · rw [upd_same,zl,List.take_length]
              · exact q _ (S.trans (s3.trans (same_new hD _)))
        · rw [ek] at q
          exact ⟨_,rfl,rfl,_,rfl,iteF (q _ (s5.trans s2))⟩
theorem scFits:FnScope ["_law_tree","_law_is_kind_here"] ["_law_tree","_law_is_kind_here"] (defScope sFits):=⟨rfl,rfl,rfl,by decide +kernel,rfl,by decide +kernel,by decide +kernel⟩
theorem ok_fits {f fk fe:Addr} {fd fdk fde:FuncData} (F:Fun K "_law_fits" "_law_fits" sFits f fd)
    (GK:FnOk P w K mg base CX0 34 fk fdk ["_law_tree"] (spIsKind K 31)) (bK:Binds K fdk ["_law_tree"] []) (kK:PySem.W.keepIn K (.ref fk) = true) (mK:mg "_law_is_kind" = some (.ref fk))
    (GE:FnOk P w K mg base CX0 35 fe fde ["_law_tree"] (spIsEx K 31)) (bE:Binds K fde ["_law_tree"] []) (kE:PySem.W.keepIn K (.ref fe) = true) (mE:mg "_law_is_expression" = some (.ref fe)):FnOk P w K mg base CX0 36 f fd ["_law_tree","_law_is_kind_here"] (spFits K):=by
  refine F.ok scFits (fun vs H Q E h => ?_) (fun cdv A outer s H vs Q E hr h => ?_)
  · obtain ⟨x,t,b,rfl,_⟩:=h
    rfl
  obtain ⟨x,t,b,rfl,hx,sm,q⟩:=h
  have hr34:Room 34 _:=hr.mono (by decide)
  have dp:=sm.dep
  refine ⟨_,pss_cons (ps_if (pt_val (pv 1)) (pss_one (ps_ret (pe_call GK hr34 rfl mK kK bK .nil pass0 (pa_cons (pv 0) pa_nil)))) pss_nil) (pss_one (ps_ret (pe_call GE hr rfl mE kE bE .nil pass0 (pa_cons (pv 0) pa_nil)))),?_⟩
  cases b with
  | true => exact ⟨_,rfl,true,rfl,iteT ⟨_,rfl,x,t,rfl,hx,sm,by omega,q⟩⟩
  | false => exact ⟨_,rfl,false,rfl,iteF ⟨_,rfl,x,t,rfl,hx,sm,by omega,q⟩⟩
end
structure MidL (K:PySem.W.Frag) (H H3:Hp) (R T:Addr) (st:List (Addr × List Tr)) (ts:List Tr) (ps:List (List Nat)) (i:Nat):Prop where
  same:Same H H3
  rl:H3 R = some (.lst ((st.map fun p => .ref p.1) ++ [.ref T]))
  tl:∃ xs,H3 T = some (.lst xs) ∧ TrsAt K H3 xs ts
  sl:∀ p ∈ st,∃ ys,H3 p.1 = some (.lst ys) ∧ TrsAt K H3 ys p.2
  nd:(R :: T :: st.map (·.1)).Nodup
  new:∀ a ∈ R :: T :: st.map (·.1),H a = none
  ok:oks ts
  oks:∀ p ∈ st,oks p.2
  hg:hgt st.length (ps.drop i) = hgt 0 ps
  fl:stFlat st ts = ps.take i
  l1:ts.length ≤ i
  l2:∀ p ∈ st,p.2.length ≤ i
  l3:st.length ≤ i
noncomputable def spTreesL (K:PySem.W.Frag):Sp:=fun vs H Q _ => ∃ (p:Addr) (ws:List Str),vs = [.ref p] ∧ SqL K H p (ws.map V.str) ∧ ws.length ≤ 300 ∧ (∀ s ∈ ws,TokL s) ∧ hgt 0 (ws.map cps) = some 0 ∧
  ∀ H' (l:Addr) (xs:List V) (ts:List Tr),Same H H' → H' l = some (.lst xs) → TrsAt K H' xs ts → oks ts → flats ts = ws.map cps → Q (.ref l) H'
section
variable {P:Program} {w:World} {K:PySem.W.Frag} {mg:Str → Option Value} {base:Heap}
noncomputable abbrev tlN:List Str:=["_law_tokens_here","_law_rows","_law_token","_law_whole"]
theorem scTreesL:FnScope tlN ["_law_tokens_here"] (defScope sTreesL):=⟨rfl,rfl,rfl,by decide +kernel,rfl,by decide +kernel,by decide +kernel⟩
set_option maxHeartbeats 0 in
theorem ok_treesL {f:Addr} {fd:FuncData} (F:Fun K "_law_trees" "_law_trees" sTreesL f fd) (mt:mg "tuple" = none):FnOk P w K mg base CX0 1 f fd ["_law_tokens_here"] (spTreesL K):=by
  refine F.ok scTreesL (fun vs H Q E h => ?_) (fun cdv A outer s H vs Q E hr h => ?_)
  · obtain ⟨p,ws,rfl,_⟩:=h
    rfl
  obtain ⟨Pl,ws,rfl,hPl,hw3,htok,h0,qQ⟩:=h
  refine ⟨_,pss_cons (ps_set (i:=1) scTreesL.nd rfl (Or.inl rfl) (pe_lst (pa_cons (pe_lst pa_nil) pa_nil)))
    (pss_cons (ps_for PassesOwn.never rfl (pi_list (pv 0)) (pg_name (i:=2) scTreesL.nd rfl (Or.inl rfl))
      (pss_one (ps_if (pt_cmpR op_eq (pv 2) pe_str (nomark _))
        (pss_one (ps_expr (pe_bm PySem.F.plainAttrs_list PySem.F.slot_list_append PySem.F.type_list_append mt_append (pv 1) (pa_cons (pe_lst pa_nil) pa_nil))))
        (pss_one (ps_if (pt_cmpR op_eq (pv 2) pe_str (nomark _))
          (pss_cons (ps_set (i:=3) scTreesL.nd rfl (Or.inl rfl) (pe_callTy call_tuple_of rfl mt bootTuple (pa_cons (pe_bm0 PySem.F.plainAttrs_list PySem.F.slot_list_pop PySem.F.type_list_pop mt_pop (pv 1)) pa_nil)))
          (pss_one (ps_expr (pe_bm PySem.F.plainAttrs_list PySem.F.slot_list_append PySem.F.type_list_append mt_append (pe_ix ix_list (pv 1) (pe_un un_neg pe_int) (fun _ _ => rfl)) (pa_cons (pv 3) pa_nil)))))
          (pss_one (ps_expr (pe_bm PySem.F.plainAttrs_list PySem.F.slot_list_append PySem.F.type_list_append mt_append (pe_ix ix_list (pv 1) (pe_un un_neg pe_int) (fun _ _ => rfl)) (pa_cons (pv 2) pa_nil)))))))))
    (pss_one (ps_ret (pe_ix ix_list (pv 1) pe_int (fun _ _ => rfl))))),?_⟩
  refine ⟨(by show 0 ≤ sizeLine; decide),fun T0 hT0 => ⟨(by show 1 ≤ sizeLine; decide),fun R hR => ?_⟩⟩
  have hRT:R ≠ T0:=fun e => by rw [e,upd_same] at hR; cases hR
  have hR':H R = none:=by rw [upd_ne hRT] at hR; exact hR
  have s0:=(same_new hT0 (.lst [])).trans (same_new hR (.lst [.ref T0]))
  have hpc:∀ (i:Nat) (p:Str),ws[i]? = some p → (ws.map cps)[i]? = some (cps p) ∧ Pc (cps p):=fun i p hp => by
    exact ⟨by rw [List.getElem?_map,hp]; rfl,(htok p (List.mem_of_getElem? hp)).2.1⟩
  refine ⟨_,rfl,Pl,rfl,⟨_,s0.seq hPl⟩,for_list (K:=K) (xs:=ws.map V.str) (fun i σ H3 => ∃ (T:Addr) (st:List (Addr × List Tr)) (ts:List Tr) (v2 v3:Option V),σ = [some (.ref Pl),some (.ref R),v2,v3] ∧ MidL K H H3 R T st ts (ws.map cps) i)
    ⟨T0,[],[],none,none,rfl,⟨s0,upd_same,⟨[],(same_new hR _) _ _ upd_same,.nil⟩,(fun p hp => nomatch hp),?_,?_,True.intro,(fun p hp => nomatch hp),rfl,rfl,Nat.le_refl _,(fun p hp => nomatch hp),Nat.zero_le _⟩⟩ ?_ ?_ ?_⟩
  · simp only [List.map_nil,List.nodup_cons,List.mem_cons,List.not_mem_nil,or_false,List.nodup_nil,not_false_eq_true,and_true]
    exact hRT
  · intro a ha
    simp only [List.map_nil,List.mem_cons,List.not_mem_nil,or_false] at ha
    rcases ha with rfl | rfl
    · exact hR'
    · exact hT0
  · rintro i σ H3 _ ⟨T,st,ts,v2,v3,rfl,M⟩
    exact M.same.seq hPl
  · rintro i y σ H3 hy ⟨T,st,ts,v2,v3,rfl,M⟩
    rw [List.getElem?_map] at hy
    obtain ⟨p,hp,rfl⟩:=Option.map_eq_some_iff.mp hy
    obtain ⟨hpi,hPc⟩:=hpc i p hp
    have hil:i < ws.length:=(List.getElem?_eq_some_iff.mp hp).1
    have hil2:i < (ws.map cps).length:=(List.getElem?_eq_some_iff.mp hpi).1
    obtain ⟨xs,hT,hxs⟩:=M.tl
    have hdrop:(ws.map cps).drop i = cps p :: (ws.map cps).drop (i + 1):=by rw [List.drop_eq_getElem_cons hil2]; congr 1; exact Option.some.inj ((List.getElem?_eq_getElem hil2).symm.trans hpi)
    have htake:(ws.map cps).take (i + 1) = (ws.map cps).take i ++ [cps p]:=by rw [List.take_add_one,hpi]; rfl
    have hg:=M.hg
    rw [hdrop] at hg
    have nd:=M.nd
    simp only [List.nodup_cons,List.mem_cons,not_or] at nd
    obtain ⟨⟨nRT,nRs⟩,nTs,nss⟩:=nd
    have hRn:H R = none:=M.new R (.head _)
    have hTn:H T = none:=M.new T (.tail _ (.head _))
    have stl:(st.map fun p => V.ref p.1).length = st.length:=List.length_map _
    have tsl:xs.length = ts.length:=hxs.length
    have l1:=M.l1
    have l3:=M.l3
    have rll:((st.map fun p => V.ref p.1) ++ [V.ref T]).length = st.length + 1:=by rw [List.length_append,stl]; rfl
    refine ⟨_,rfl,rfl,_,rfl,ite2 (fun c1 => ?_) (fun c1 => ?_)⟩
    · have e1:p = "(":=V.str.inj (of_decide_eq_true c1)
      have ec:cps p = [40]:=by rw [e1]; rfl
      rw [ec,hgt,if_pos rfl] at hg
      have hg2:hgt (st.length + 1) ((ws.map cps).drop (i + 1)) = hgt 0 (ws.map cps):=by
        split at hg
        · exact absurd h0 (by rw [← hg]; intro z; cases z)
        · exact hg
      refine ⟨_,rfl,.inl ⟨rfl,_,SqL.of M.rl⟩,(by show 0 ≤ sizeLine; decide),fun T2 hT2 => ?_⟩
      have z2:=same_new hT2 (.lst [])
      have nT2R:T2 ≠ R:=fun e => by rw [e,M.rl] at hT2; cases hT2
      refine ⟨R,_,_,rfl,rfl,z2 _ _ M.rl,mid (by rw [rll]; omega),?_⟩
      have keep:∀ a us,H3 a = some (.tup us) → upd (upd H3 T2 (.lst [])) R (.lst (((st.map fun p => V.ref p.1) ++ [.ref T]) ++ [.ref T2])) a = some (.tup us):=fun a us h => tup_upd (z2 _ _ M.rl) (tup_new hT2 h)
      have hold:∀ {b:Addr} {u:HO},b ≠ R → H3 b = some u → upd (upd H3 T2 (.lst [])) R (.lst (((st.map fun p => V.ref p.1) ++ [.ref T]) ++ [.ref T2])) b = some u:=fun {b u} nb h => by
        rw [upd_ne nb]
        exact z2 _ _ h
      have nT2:∀ b,(∃ u,H3 b = some u) → T2 ≠ b:=fun b hb e => by
        obtain ⟨u,hu⟩:=hb
        rw [← e,hT2] at hu
        cases hu
      refine ⟨T2,st ++ [(T,ts)],[],_,_,rfl,⟨?_,?_,⟨[],by rw [upd_ne nT2R]; exact upd_same,.nil⟩,fun q hq => ?_,?_,fun a ha => ?_,True.intro,fun q hq => ?_,?_,?_,Nat.zero_le _,fun q hq => ?_,?_⟩⟩
      · exact sput (M.same.trans z2) hRn
      · rw [upd_same,List.map_append]
        rfl
      · rcases List.mem_append.mp hq with hq | hq
        · obtain ⟨ys,h1,h2⟩:=M.sl q hq
          exact ⟨ys,hold (fun e => nRs (e ▸ List.mem_map_of_mem (f:=(·.1)) hq)) h1,h2.keep keep⟩
        · rw [List.mem_singleton.mp hq]
          exact ⟨xs,hold (Ne.symm nRT) hT,hxs.keep keep⟩
      · rw [List.map_append]
        show (R :: T2 :: (st.map (·.1) ++ [T])).Nodup
        simp only [List.nodup_cons,List.mem_cons,List.mem_append,List.not_mem_nil,or_false,not_or,List.nodup_append,List.nodup_nil,not_false_eq_true,and_true,true_and]
        refine ⟨⟨Ne.symm nT2R,nRs,nRT⟩,⟨fun hm => ?_,nT2 T ⟨_,hT⟩⟩,nss,fun a ha b hb => ?_⟩
        · obtain ⟨q,hq,e⟩:=List.mem_map.mp hm
          obtain ⟨ys,h1,_⟩:=M.sl q hq
          exact nT2 q.1 ⟨_,h1⟩ e.symm
        · rw [hb]
          exact fun e => nTs (e ▸ ha)
      · rw [List.map_append] at ha
        simp only [List.mem_cons,List.mem_append,List.map_cons,List.map_nil,List.not_mem_nil,or_false] at ha
        rcases ha with rfl | rfl | ha | rfl
        · exact hRn
        · exact Same.free M.same hT2
        · exact M.new a (.tail _ (.tail _ ha))
        · exact hTn
      · rcases List.mem_append.mp hq with hq | hq
        · exact M.oks q hq
        · rw [List.mem_singleton.mp hq]
          exact M.ok
      · rw [List.length_append]
        exact hg2
      · rw [stFlat_snoc,M.fl,htake,ec]
        rfl
      · rcases List.mem_append.mp hq with hq | hq
        · exact Nat.le_succ_of_le (M.l2 q hq)
        · rw [List.mem_singleton.mp hq]
          exact Nat.le_succ_of_le l1
      · rw [List.length_append]
        show st.length + 1 ≤ i + 1
        omega
    · have n1:cps p ≠ [40]:=fun e => c1 (decide_eq_true (congrArg V.str (Tk.lst_inj (e.trans (show ([40]:List Nat) = Tk.lst "(" from rfl)))))
      rw [hgt,if_neg n1] at hg
      refine ⟨_,rfl,rfl,_,rfl,ite2 (fun c2 => ?_) (fun c2 => ?_)⟩
      · have e1:p = ")":=V.str.inj (of_decide_eq_true c2)
        have ec:cps p = [41]:=by rw [e1]; rfl
        rw [ec,if_pos rfl] at hg
        have e3:st.length ≠ 0:=fun e => by
          rw [if_pos e] at hg
          exact absurd h0 (by rw [← hg]; intro z; cases z)
        rw [if_neg e3] at hg
        have hne:st ≠ []:=fun e => e3 (by rw [e]; rfl)
        obtain ⟨st',⟨T2,us⟩,rfl⟩:∃ st' q,st = st' ++ [q]:=⟨_,_,(List.dropLast_concat_getLast hne).symm⟩
        obtain ⟨ys,hT2,hys⟩:=M.sl (T2,us) (List.mem_append_right _ (.head _))
        have nRT2:R ≠ T2:=fun e => nRs (by rw [List.map_append]; exact List.mem_append_right _ (by rw [e]; exact .head _))
        have nTT2:T ≠ T2:=fun e => nTs (by rw [List.map_append]; exact List.mem_append_right _ (by rw [e]; exact .head _))
        refine ⟨_,rfl,.inl ⟨rfl,_,SqL.of M.rl⟩,R,_,.ref T,rfl,rfl,M.rl,snoc_get,?_⟩
        rw [List.dropLast_concat,show (st' ++ [(T2,us)]).map (fun p => V.ref p.1) = (st'.map fun p => V.ref p.1) ++ [V.ref T2] from List.map_append]
        have rl1:upd H3 R (.lst ((st'.map fun p => V.ref p.1) ++ [.ref T2])) R = some (.lst ((st'.map fun p => V.ref p.1) ++ [.ref T2])):=upd_same
        have hT1:upd H3 R (.lst ((st'.map fun p => V.ref p.1) ++ [.ref T2])) T = some (.lst xs):=by rw [upd_ne (Ne.symm nRT)]; exact hT
        refine ⟨T,xs,rfl,.inl ⟨SqL.of hT1,fun ta hta => ?_⟩⟩
        have sA:=same_new hta (.tup xs)
        have hT2':=sA _ _ (show upd H3 R (.lst ((st'.map fun p => V.ref p.1) ++ [.ref T2])) T2 = some (.lst ys) from by rw [upd_ne (Ne.symm nRT2)]; exact hT2)
        have hul:ys.length ≤ 90000:=by
          have e:=M.l2 (T2,us) (List.mem_append_right _ (.head _))
          have e2:=hys.length
          have e3:us.length ≤ i:=e
          omega
        refine ⟨_,rfl,_,rfl,R,_,_,.ref T2,rfl,rfl,SqL.of (sA _ _ rl1),atI_last _ _,.inl ⟨rfl,_,SqL.of hT2'⟩,_,rfl,T2,_,_,rfl,rfl,hT2',mid (by omega),?_⟩
        have k0:∀ a zs,H3 a = some (.tup zs) → upd (upd H3 R (.lst ((st'.map fun p => V.ref p.1) ++ [.ref T2]))) ta (.tup xs) a = some (.tup zs):=fun a zs h => sA _ _ (tup_upd M.rl h)
        have keep0:∀ a zs,H3 a = some (.tup zs) → upd (upd (upd H3 R (.lst ((st'.map fun p => V.ref p.1) ++ [.ref T2]))) ta (.tup xs)) T2 (.lst (ys ++ [.ref ta])) a = some (.tup zs):=fun a zs h => tup_upd hT2' (k0 a zs h)
        have hold:∀ {b:Addr} {u:HO},b ≠ R → b ≠ T2 → H3 b = some u → upd (upd (upd H3 R (.lst ((st'.map fun p => V.ref p.1) ++ [.ref T2]))) ta (.tup xs)) T2 (.lst (ys ++ [.ref ta])) b = some u:=fun {b u} nb nb2 h => by
          rw [upd_ne nb2]
          exact sA _ _ (by rw [upd_ne nb]; exact h)
        have hT2n:H T2 = none:=M.new T2 (.tail _ (.tail _ (by rw [List.map_append]; exact List.mem_append_right _ (.head _))))
        have ndS:(st'.map (·.1)).Nodup ∧ T2 ∉ st'.map (·.1):=by
          have h:=nss
          rw [List.map_append,List.nodup_append] at h
          exact ⟨h.1,fun hm => h.2.2 T2 hm T2 (.head _) rfl⟩
        refine ⟨T2,st',us ++ [.n ts],_,_,rfl,⟨?_,?_,⟨ys ++ [.ref ta],upd_same,(hys.keep keep0).append (.cons (.n (tup_upd hT2' upd_same) (hxs.keep keep0)) .nil)⟩,fun q hq => ?_,?_,fun a ha => ?_,?_,fun q hq => ?_,?_,?_,?_,fun q hq => ?_,?_⟩⟩
        · exact sput ((sput M.same hRn).trans sA) hT2n
        · rw [upd_ne nRT2]
          exact sA _ _ rl1
        · obtain ⟨zs,h1,h2⟩:=M.sl q (List.mem_append_left _ hq)
          exact ⟨zs,hold (fun e => nRs (by rw [List.map_append,← e]; exact List.mem_append_left _ (List.mem_map_of_mem (f:=(·.1)) hq))) (fun e => ndS.2 (e ▸ List.mem_map_of_mem (f:=(·.1)) hq)) h1,h2.keep keep0⟩
        · simp only [List.nodup_cons,List.mem_cons,not_or]
          exact ⟨⟨nRT2,fun hm => nRs (by rw [List.map_append]; exact List.mem_append_left _ hm)⟩,ndS.2,ndS.1⟩
        · simp only [List.mem_cons] at ha
          rcases ha with rfl | rfl | ha
          · exact hRn
          · exact hT2n
          · exact M.new a (.tail _ (.tail _ (by rw [List.map_append]; exact List.mem_append_left _ ha)))
        · exact oks_app (M.oks (T2,us) (List.mem_append_right _ (.head _))) ⟨M.ok,True.intro⟩
        · exact M.oks q (List.mem_append_left _ hq)
        · rw [List.length_append] at hg
          exact hg
        · rw [stFlat_app,flats_one,htake,ec,← M.fl,stFlat_snoc]
          show _ ++ [40] :: (flats ts ++ [[41]]) = _
          simp
        · have e:=M.l2 (T2,us) (List.mem_append_right _ (.head _))
          have e2:us.length ≤ i:=e
          rw [List.length_append]
          show us.length + 1 ≤ i + 1
          omega
        · exact Nat.le_succ_of_le (M.l2 q (List.mem_append_left _ hq))
        · rw [List.length_append] at l3
          exact Nat.le_succ_of_le (Nat.le_trans (Nat.le_add_right _ _) l3)
      · have n2:cps p ≠ [41]:=fun e => c2 (decide_eq_true (congrArg V.str (Tk.lst_inj (e.trans (show ([41]:List Nat) = Tk.lst ")" from rfl)))))
        rw [if_neg n2] at hg
        have hW:Tk.Word (cps p):=hPc.elim (fun e => absurd e n1) fun h => h.elim (fun e => absurd e n2) id
        refine ⟨_,rfl,_,rfl,R,_,_,.ref T,rfl,rfl,SqL.of M.rl,atI_last _ _,.inl ⟨rfl,_,SqL.of hT⟩,_,rfl,T,_,_,rfl,rfl,hT,mid (by omega),?_⟩
        have keep:∀ a zs,H3 a = some (.tup zs) → upd H3 T (.lst (xs ++ [.str p])) a = some (.tup zs):=fun a zs h => tup_upd hT h
        have hold:∀ {b:Addr} {u:HO},b ≠ T → H3 b = some u → upd H3 T (.lst (xs ++ [.str p])) b = some u:=fun {b u} nb h => by rw [upd_ne nb]; exact h
        refine ⟨T,st,ts ++ [.w p],_,_,rfl,⟨sput M.same hTn,hold nRT M.rl,⟨xs ++ [.str p],upd_same,(hxs.keep keep).append (.cons (.w p) .nil)⟩,fun q hq => ?_,M.nd,M.new,oks_app (b:=[.w p]) M.ok ⟨hW,True.intro⟩,M.oks,hg,?_,?_,fun q hq => Nat.le_succ_of_le (M.l2 q hq),Nat.le_succ_of_le l3⟩⟩
        · obtain ⟨zs,h1,h2⟩:=M.sl q hq
          exact ⟨zs,hold (fun e => nTs (e ▸ List.mem_map_of_mem (f:=(·.1)) hq)) h1,h2.keep keep⟩
        · rw [stFlat_app,flats_one,M.fl,htake]
          rfl
        · rw [List.length_append]
          exact Nat.succ_le_succ l1
  · rintro σ H3 ⟨T,st,ts,v2,v3,rfl,M⟩
    have ew:(ws.map V.str).length = (ws.map cps).length:=by
      rw [List.length_map,List.length_map]
    rw [ew] at M
    obtain ⟨xs,hT,hxs⟩:=M.tl
    have hg:=M.hg
    rw [List.drop_length] at hg
    have hg':some st.length = hgt 0 (ws.map cps):=hg
    rw [h0] at hg'
    have e0:st = []:=List.length_eq_zero_iff.mp (Option.some.inj hg')
    subst e0
    refine ⟨_,rfl,R,_,_,.ref T,rfl,rfl,SqL.of M.rl,rfl,qQ H3 T xs ts M.same hT hxs M.ok ?_⟩
    have:=M.fl
    rw [List.take_length] at this
    exact this
end
end K18
namespace K18
open PySem L2
noncomputable def hgtN (d:Nat):Nat → List (List Nat) → Option Nat
  | h,[] => some h
  | h,p :: r => if p = [40] then (if h = d then none else hgtN d (h + 1) r) else if p = [41] then (if h = 0 then none else hgtN d (h - 1) r) else hgtN d h r
theorem hgtN_30:∀ (ps:List (List Nat)) (h:Nat),hgtN 30 h ps = hgt h ps
  | [],h => rfl
  | p :: r,h => by
    rw [hgtN,hgt,hgtN_30 r (h + 1),hgtN_30 r (h - 1),hgtN_30 r h]
theorem hgtN_app (d:Nat):∀ (a b:List (List Nat)) (h:Nat),hgtN d h (a ++ b) = (hgtN d h a).bind fun k => hgtN d k b
  | [],b,h => rfl
  | p :: a,b,h => by
    show hgtN d h (p :: (a ++ b)) = _
    rw [hgtN,hgtN,hgtN_app d a b (h + 1),hgtN_app d a b (h - 1),hgtN_app d a b h]
    split
    · split <;> rfl
    · split
      · split <;> rfl
      · rfl
theorem hgtN_le (d:Nat):∀ (a:List (List Nat)) (h k:Nat),h ≤ d → hgtN d h a = some k → k ≤ d
  | [],h,k,hl,e => by cases e; exact hl
  | p :: a,h,k,hl,e => by
    rw [hgtN] at e
    split at e
    · split at e
      · cases e
      · exact hgtN_le d a (h + 1) k (by omega) e
    · split at e
      · split at e
        · cases e
        · exact hgtN_le d a (h - 1) k (by omega) e
      · exact hgtN_le d a h k hl e
theorem hgtN_mono (d:Nat):∀ (a:List (List Nat)) (h k:Nat),h ≤ d → hgtN d h a = some k → hgtN (d + 1) h a = some k
  | [],h,k,hl,e => e
  | p :: a,h,k,hl,e => by
    rw [hgtN] at e ⊢
    split at e
    · rename_i c
      rw [if_pos c]
      split at e
      · cases e
      · rw [if_neg (by omega)]
        exact hgtN_mono d a (h + 1) k (by omega) e
    · rename_i c
      rw [if_neg c]
      split at e
      · rename_i c2
        rw [if_pos c2]
        split at e
        · cases e
        · rename_i c3
          rw [if_neg c3]
          exact hgtN_mono d a (h - 1) k (by omega) e
      · rename_i c2
        rw [if_neg c2]
        exact hgtN_mono d a h k hl e
theorem wd_ne {p:List Nat} (hw:Tk.Word p):p ≠ [40] ∧ p ≠ [41] :=
  ⟨fun z => (hw.2 40 (by rw [z]; exact .head _)).1 rfl,fun z => (hw.2 41 (by rw [z]; exact .head _)).2.1 rfl⟩
theorem hgtN_word {d h:Nat} {p:List Nat} {b:List (List Nat)} (hw:Tk.Word p):hgtN d h (p :: b) = hgtN d h b:=by
  obtain ⟨n1,n2⟩:=wd_ne hw
  rw [hgtN,if_neg n1,if_neg n2]
theorem hgtN_op {d h:Nat} {b:List (List Nat)} (hl:h ≤ d):hgtN (d + 1) h ([40] :: b) = hgtN (d + 1) (h + 1) b:=by
  rw [hgtN,if_pos rfl,if_neg (by omega)]
theorem hgtN_cl {d h:Nat} {b:List (List Nat)}:hgtN d (h + 1) ([41] :: b) = hgtN d h b:=by
  rw [hgtN,if_neg (by decide),if_pos rfl,if_neg (by omega)]
  rfl
noncomputable def Bal (d:Nat) (ps:List (List Nat)):Prop:=hgtN d 0 ps = some 0
theorem Bal.mono {d:Nat} {ps:List (List Nat)} (h:Bal d ps):Bal (d + 1) ps:=hgtN_mono d ps 0 0 (Nat.zero_le _) h
theorem Bal.monos {d:Nat} {ps:List (List Nat)} (h:Bal d ps):∀ {e:Nat},d ≤ e → Bal e ps:=fun {e} hl => by
  induction e with
  | zero => rw [Nat.le_zero.mp hl] at h; exact h
  | succ e ih =>
    rcases Nat.lt_or_ge e d with hlt | hge
    · rw [show e + 1 = d by omega]; exact h
    · exact (ih hge).mono
theorem Bal.hgt {d:Nat} {ps:List (List Nat)} (h:Bal d ps) (hd:d ≤ 30):hgt 0 ps = some 0:=by
  rw [← hgtN_30]
  exact h.monos hd
theorem Bal.split {d:Nat} {a b:List (List Nat)} (h:Bal d (a ++ b)):∃ k,k ≤ d ∧ hgtN d 0 a = some k ∧ hgtN d k b = some 0:=by
  unfold Bal at h
  rw [hgtN_app] at h
  cases e:hgtN d 0 a with
  | none => rw [e] at h; cases h
  | some k => rw [e] at h; exact ⟨k,hgtN_le d a 0 k (Nat.zero_le _) e,rfl,h⟩
theorem bal_of {d k:Nat} {a b:List (List Nat)} (h1:hgtN d 0 a = some k) (h2:hgtN d k b = some 0):Bal d (a ++ b):=by
  unfold Bal
  rw [hgtN_app,h1]
  exact h2
theorem bal_app {d:Nat} {a b:List (List Nat)} (h1:Bal d a) (h2:Bal d b):Bal d (a ++ b):=bal_of h1 h2
theorem Bal.ins {d:Nat} {a b:List (List Nat)} {p:List Nat} (h:Bal d (a ++ b)) (hw:Tk.Word p):Bal d (a ++ ([p] ++ b)):=by
  obtain ⟨k,_,h1,h2⟩:=h.split
  exact bal_of h1 (by show hgtN d k (p :: b) = _; rw [hgtN_word hw]; exact h2)
theorem Bal.del {d:Nat} {a b:List (List Nat)} {p:List Nat} (h:Bal d (a ++ p :: b)) (hw:Tk.Word p):Bal d (a ++ b):=by
  obtain ⟨k,_,h1,h2⟩:=h.split
  rw [hgtN_word hw] at h2
  exact bal_of h1 h2
theorem Bal.br {d:Nat} {a b:List (List Nat)} (h:Bal d (a ++ b)):Bal (d + 1) (a ++ ([[40],[41]] ++ b)):=by
  obtain ⟨k,hk,h1,h2⟩:=h.split
  refine bal_of (hgtN_mono d a 0 k (Nat.zero_le _) h1) ?_
  show hgtN (d + 1) k ([40] :: [41] :: b) = _
  rw [hgtN_op hk,hgtN_cl]
  exact hgtN_mono d b k 0 hk h2
theorem Bal.wrap {d:Nat} {a b:List (List Nat)} {p:List Nat} (h:Bal d (a ++ p :: b)) (hw:Tk.Word p):Bal (d + 1) (a ++ ([[40],p,[41]] ++ b)):=by
  obtain ⟨k,hk,h1,h2⟩:=(h.del hw).split
  refine bal_of (hgtN_mono d a 0 k (Nat.zero_le _) h1) ?_
  show hgtN (d + 1) k ([40] :: p :: [41] :: b) = _
  rw [hgtN_op hk,hgtN_word hw,hgtN_cl]
  exact hgtN_mono d b k 0 hk h2
mutual
theorem bal_tree:∀ {t:Tr},t.ok → ∀ {d h:Nat} {r:List (List Nat)},h + t.dep ≤ d → hgtN d h (t.flat ++ r) = hgtN d h r
  | .w s,hw,d,h,r,hl => hgtN_word (p:=cps s) hw
  | .n ts,ho,d,h,r,hl => by
    have hl':h + (1 + deps ts) ≤ d:=hl
    show hgtN d h ([40] :: ((flats ts ++ [[41]]) ++ r)) = _
    rw [hgtN,if_pos rfl,if_neg (by omega),List.append_assoc,bal_trees (ts:=ts) ho (by omega)]
    exact hgtN_cl
theorem bal_trees:∀ {ts:List Tr},oks ts → ∀ {d h:Nat} {r:List (List Nat)},h + deps ts ≤ d → hgtN d h (flats ts ++ r) = hgtN d h r
  | [],_,d,h,r,hl => rfl
  | t :: ts,⟨h1,h2⟩,d,h,r,hl => by
    have hl':h + max t.dep (deps ts) ≤ d:=hl
    show hgtN d h ((t.flat ++ flats ts) ++ r) = _
    rw [List.append_assoc,bal_tree h1 (by omega),bal_trees h2 (by omega)]
end
theorem bal_flat {t:Tr} (h:t.ok):Bal t.dep t.flat:=by
  have:=bal_tree (d:=t.dep) (h:=0) (r:=[]) h (by omega)
  rw [List.append_nil] at this
  exact this
noncomputable def w13:List Str:=["num","pair","lit","as","let","first","+","<","0","00","7","1000000000000000000","bare"]
noncomputable def w9:List Str:=["1000000000000000001","-1","Ab","a-b","one.two","one.",".two","one.two.three","one.let"]
noncomputable def w8:List Str:=["abcdefghijklm","abcdefghijkl.a","1","12345678901234567890","hid","fun","open","a7"]
noncomputable def w3:List Str:=["if","+1","1_0"]
noncomputable def someS:List Str:=((w13 ++ w9) ++ w8) ++ w3
theorem some_ok:∀ s ∈ someS,s.length ≤ 25 ∧ (cps s ≠ [] ∧ ∀ c ∈ cps s,c ≠ 40 ∧ c ≠ 41 ∧ c ≠ 10 ∧ c ≠ 32) ∧ ∀ c ∈ cps s,c < 0x110000:=by decide +kernel
theorem some_tok {s:Str} (h:s ∈ someS):TokL s ∧ Tk.Word (cps s):=⟨⟨(some_ok s h).1,.inr (.inr (some_ok s h).2.1),(some_ok s h).2.2⟩,(some_ok s h).2.1⟩
noncomputable def spSpoil (K:PySem.W.Frag):Sp:=fun vs H Q _ => ∃ (p:Addr) (ws:List Str) (tn c:Int) (d:Nat),vs = [.ref p,.int tn,.int c] ∧ H p = some (.lst (ws.map V.str)) ∧ 1 ≤ ws.length ∧ ws.length ≤ 190 ∧ (∀ s ∈ ws,TokL s) ∧ Bal d (ws.map cps) ∧
  ∀ H' (l:Addr) (us:List Str),Same H H' → H' l = some (.lst (us.map V.str)) → us.length ≤ ws.length + 2 → (∀ s ∈ us,TokL s) → Bal (d + 1) (us.map cps) → Q (.ref l) H'
theorem cut_to (xs:List V) (k:Nat):cutV xs none (some (k:Int)) = xs.take k:=by
  unfold cutV
  rw [HT.sIx_nat,HT.sIx_none]
  by_cases h:k ≤ xs.length
  · rw [Nat.min_eq_left h,List.drop_zero,Nat.sub_zero]
  · rw [Nat.min_eq_right (by omega),List.drop_zero,Nat.sub_zero,List.take_length,List.take_of_length_le (by omega)]
theorem cat3 {K:PySem.W.Frag} {σ:St} {H:Hp} {Q:VK} {p:Addr} {ws us:List Str} {k j:Nat} {tm:TA} {tlo:TE} (h0:σ[0]? = some (some (.ref p))) (h5:σ[5]? = some (some (.int (k:Int)))) (hp:SqL K H p (ws.map V.str)) (hl:ws.length ≤ 200) (ul:us.length ≤ 10)
    (hm:∀ H1 (Q1:List V → Hp → Prop),Same H H1 → Q1 (us.map V.str) H1 → tm σ H1 Q1) (hlo:∀ H1 (Q1:VK),Q1 (.int (j:Int)) H1 → tlo σ H1 Q1)
    (q:∀ H' l,Same H H' → H' l = some (.lst ((ws.take k ++ (us ++ ws.drop j)).map V.str)) → Q (.ref l) H') :
    tOp rCat (tOp rCat (tSl (rSlL K) (tVar 0) tNoPart (tPart (tVar 5))) (tLst tm)) (tSl (rSlL K) (tVar 0) (tPart tlo) tNoPart) σ H Q:=by
  refine ⟨_,h0,_,h5,_,rfl,p,_,rfl,hp,fun l1 n1 => ?_⟩
  have z1:=same_new n1 (.lst (cutV (ws.map V.str) none (some (k:Int))))
  refine hm _ _ z1 ⟨small (by rw [List.length_map]; omega),fun l2 n2 => ?_⟩
  have z2:=same_new n2 (.lst (us.map V.str))
  have c1:(cutV (ws.map V.str) none (some (k:Int))).length ≤ 200:=Nat.le_trans (cutV_length _ _ _) (by rw [List.length_map]; exact hl)
  refine ⟨l1,l2,_,_,rfl,rfl,z2 _ _ upd_same,upd_same,small (by rw [List.length_map]; omega),fun l3 n3 => ?_⟩
  have z3:=same_new n3 (.lst (cutV (ws.map V.str) none (some (k:Int)) ++ us.map V.str))
  have S3:=z1.trans (z2.trans z3)
  refine ⟨_,h0,hlo _ _ ⟨_,rfl,p,_,rfl,S3.seq hp,fun l4 n4 => ?_⟩⟩
  have z4:=same_new n4 (.lst (cutV (ws.map V.str) (some (j:Int)) none))
  have c2:(cutV (ws.map V.str) (some (j:Int)) none).length ≤ 200:=Nat.le_trans (cutV_length _ _ _) (by rw [List.length_map]; exact hl)
  refine ⟨l3,l4,_,_,rfl,rfl,z4 _ _ upd_same,upd_same,small (by rw [List.length_append,List.length_map]; omega),fun l5 n5 => ?_⟩
  refine q _ l5 (S3.trans (z4.trans (same_new n5 _))) ?_
  rw [upd_same,cut_to,cut_from,List.map_append,List.map_append,List.map_take,List.map_drop,List.append_assoc]
theorem cat2 {K:PySem.W.Frag} {σ:St} {H:Hp} {Q:VK} {p:Addr} {ws:List Str} {k j:Nat} {tlo:TE} (h0:σ[0]? = some (some (.ref p))) (h5:σ[5]? = some (some (.int (k:Int)))) (hp:SqL K H p (ws.map V.str)) (hl:ws.length ≤ 200) (hlo:∀ H1 (Q1:VK),Q1 (.int (j:Int)) H1 → tlo σ H1 Q1)
    (q:∀ H' l,Same H H' → H' l = some (.lst ((ws.take k ++ ws.drop j).map V.str)) → Q (.ref l) H') :
    tOp rCat (tSl (rSlL K) (tVar 0) tNoPart (tPart (tVar 5))) (tSl (rSlL K) (tVar 0) (tPart tlo) tNoPart) σ H Q:=by
  refine ⟨_,h0,_,h5,_,rfl,p,_,rfl,hp,fun l1 n1 => ?_⟩
  have z1:=same_new n1 (.lst (cutV (ws.map V.str) none (some (k:Int))))
  have c1:(cutV (ws.map V.str) none (some (k:Int))).length ≤ 200:=Nat.le_trans (cutV_length _ _ _) (by rw [List.length_map]; exact hl)
  refine ⟨_,h0,hlo _ _ ⟨_,rfl,p,_,rfl,z1.seq hp,fun l4 n4 => ?_⟩⟩
  have z4:=same_new n4 (.lst (cutV (ws.map V.str) (some (j:Int)) none))
  have c2:(cutV (ws.map V.str) (some (j:Int)) none).length ≤ 200:=Nat.le_trans (cutV_length _ _ _) (by rw [List.length_map]; exact hl)
  refine ⟨l1,l4,_,_,rfl,rfl,z4 _ _ upd_same,upd_same,small (by omega),fun l5 n5 => ?_⟩
  refine q _ l5 (z1.trans (z4.trans (same_new n5 _))) ?_
  rw [upd_same,cut_to,cut_from,List.map_append,List.map_take,List.map_drop]
theorem in_br {s:Str} (ht:TokL s) (h:(!(!(Builtin.Str.occurrences (Str.ofString "()") s 0 (Str.ofString "()").length 1).isEmpty)) = true):Tk.Word (cps s):=by
  rcases ht.2.1 with e | e | hw
  · have:s = "(":=Tk.lst_inj (e.trans (show ([40]:List Nat) = Tk.lst "(" from rfl))
    subst this
    exact absurd h (by decide +kernel)
  · have:s = ")":=Tk.lst_inj (e.trans (show ([41]:List Nat) = Tk.lst ")" from rfl))
    subst this
    exact absurd h (by decide +kernel)
  · exact hw
noncomputable def strE (t:Str × Nat × Pos):Expr:=.Constant (.str t.1) t.2.1 t.2.2
theorem pa_strs {X:Cx}:∀ (l:List (Str × Nat × Pos)),PA X (l.map strE) (fun _ H Q => Q ((l.map (·.1)).map V.str) H)
  | [] => pa_nil
  | q :: l => pa_cons (pe_str (x:=q.1)) (pa_strs l)
theorem map_split {ws:List Str} {k:Nat} {s:Str} (h:ws[k]? = some s):ws.map cps = (ws.take k).map cps ++ cps s :: (ws.drop (k + 1)).map cps:=by
  have hl:=(List.getElem?_eq_some_iff.mp h).1
  have e:ws = ws.take k ++ s :: ws.drop (k + 1):=by
    conv => lhs; rw [← List.take_append_drop k ws]
    rw [List.drop_eq_getElem_cons hl]
    congr 2
    exact Option.some.inj ((List.getElem?_eq_getElem hl).symm.trans h)
  conv => lhs; rw [e]
  rw [List.map_append,List.map_cons]
end K18
namespace K18
open PySem L2
theorem pe_strs {X:Cx} {l:List (Str × Nat × Pos)} {pos:Pos}:PE X (.List (l.map strE) pos) (tLst (fun _ H Q => Q ((l.map (·.1)).map V.str) H)):=pe_lst (pa_strs l)
section
variable {P:Program} {w:World} {K:PySem.W.Frag} {mg:Str → Option Value} {base:Heap}
noncomputable abbrev slN:List Str:=["_law_tokens_here","_law_turn_of","_law_cell_here","_law_some","_law_word","_law_at"]
noncomputable abbrev slP:List Str:=["_law_tokens_here","_law_turn_of","_law_cell_here"]
theorem scSpoil:FnScope slN slP (defScope sSpoil):=⟨rfl,rfl,rfl,by decide +kernel,rfl,by decide +kernel,by decide +kernel⟩
set_option maxHeartbeats 0 in
theorem ok_spoil {f:Addr} {fd:FuncData} (F:Fun K "_law_spoiled" "_law_spoiled" sSpoil f fd) (ml:mg "len" = none):FnOk P w K mg base CX0 1 f fd slP (spSpoil K):=by
  refine F.ok scSpoil (fun vs H Q E h => ?_) (fun cdv A outer s H vs Q E hr h => ?_)
  · obtain ⟨p,ws,tn,c,d,rfl,_⟩:=h
    rfl
  obtain ⟨p,ws,tn,c,d,rfl,hp0,l1,l2,htok,hbal,q⟩:=h
  have hp:SqL K H p (ws.map V.str):=SqL.of hp0
  have wl:(ws.map V.str).length = ws.length:=List.length_map _
  have fin:∀ (H1:Hp) (l:Addr) (k j:Nat) (us:List Str),Same H H1 → H1 l = some (.lst ((ws.take k ++ (us ++ ws.drop j)).map V.str)) → us.length + k ≤ j + 2 → k ≤ ws.length → j ≤ ws.length → (∀ s ∈ us,TokL s) → Bal (d + 1) ((ws.take k).map cps ++ (us.map cps ++ (ws.drop j).map cps)) → Q (.ref l) H1:=fun H1 l k j us s1 hl h1 h2 h3 ht hb => by
    refine q H1 l _ s1 hl ?_ ?_ ?_
    · simp only [List.length_append,List.length_take,List.length_drop]
      omega
    · intro s hs
      rcases List.mem_append.mp hs with hs | hs
      · exact htok s (List.mem_of_mem_take hs)
      · rcases List.mem_append.mp hs with hs | hs
        · exact ht s hs
        · exact htok s (List.mem_of_mem_drop hs)
    · rw [List.map_append,List.map_append]
      exact hb
  have tkAt:∀ k:Nat,k < ws.length → ∃ s,ws[k]? = some s ∧ TokL s ∧ atI (ws.map V.str) (k:Int) = some (.str s):=fun k hk => by
    have e:=List.getElem?_eq_getElem hk
    exact ⟨_,e,htok _ (List.mem_of_getElem? e),atI_nat (by rw [List.getElem?_map,e]; rfl)⟩
  have one:∀ {s:Str},TokL s → ∀ y ∈ [s],TokL y:=fun h y hy => by rw [List.mem_singleton.mp hy]; exact h
  have go:∀ H1,Same H H1 → Q (.ref p) H1:=fun H1 s1 => q H1 p ws s1 (s1 _ _ hp0) (by omega) htok hbal.mono
  obtain ⟨t7,d7,k7⟩:∃ t,PSs (cxOf CX0 P w K mg base slN "_law_spoiled" (defScope sSpoil) f cdv A outer s H E).nox (List.drop 12 (defBody sSpoil)) t ∧ ∀ H1 v3 (wd:Str) (k:Nat),Same H H1 → wd ∈ someS → k < ws.length → t { nx:=fun _ H' => Q .non H',rt:=Q } [some (.ref p),some (.int tn),some (.int c),v3,some (.str wd),some (.int (k:Int))] H1:=by
    refine ⟨_,pss_cons (ps_if (PW.pt (pw_and (pt_cmpR op_eq (pv 1) pe_int (nomark _)) (pw_and (pt_cmpR op_lt (pe_op op_add (pv 5) pe_int) (pe_callB call_len_seq rfl ml PySem.boot_len (pa_cons (pv 0) pa_nil)) (nomark _))
      (pw_and (pt_cmpR op_notIn_seq pe_str (pe_slice sl_list (pv 0) (po_some (pv 5)) (po_some (pe_op op_add (pv 5) pe_int))) (by with_unfolding_all rfl)) (pw_and1 (pt_cmpR op_notIn_seq pe_str (pe_slice sl_list (pv 0) (po_some (pv 5)) (po_some (pe_op op_add (pv 5) pe_int))) (by with_unfolding_all rfl)))))))
      (pss_one (ps_ret (pe_op op_cat (pe_op op_cat (pe_slice sl_list (pv 0) po_none (po_some (pv 5))) (pe_lst (pa_cons (pe_ix ix_list (pv 0) (pe_op op_add (pv 5) pe_int) (fun _ _ => rfl)) pa_nil))) (pe_slice sl_list (pv 0) (po_some (pe_op op_add (pv 5) pe_int)) po_none)))) pss_nil) (pss_one (ps_ret (pv 0))),fun H1 v3 wd k s1 hw hk => ?_⟩
    refine ⟨_,rfl,rfl,_,rfl,ite2 (fun _ => ?_) (fun _ => iteF ⟨_,rfl,go _ s1⟩)⟩
    refine ⟨_,rfl,_,_,rfl,rfl,_,rfl,p,_,rfl,.inl (s1.seq hp),_,_,rfl,rfl,_,rfl,ite2 (fun b1 => ?_) (fun _ => iteF ⟨_,rfl,go _ s1⟩)⟩
    have b1':(k:Int) + 1 < ((ws.map V.str).length:Int):=of_decide_eq_true b1
    rw [wl] at b1'
    obtain ⟨s0,e0,t0,a0⟩:=tkAt k hk
    obtain ⟨s2,e2,t2,a2⟩:=tkAt (k + 1) (by omega)
    have ec:cutV (ws.map V.str) (some (k:Int)) (some ((k:Int) + 2)) = [V.str s0,V.str s2]:=by
      have e:((k:Int) + 2) = ((k + 2:Nat):Int):=by omega
      rw [e]
      unfold cutV
      rw [HT.sIx_nat,HT.sIx_nat,wl,Nat.min_eq_left (by omega),Nat.min_eq_left (by omega),show k + 2 - k = 2 by omega]
      have hl0:k < (ws.map V.str).length:=by rw [wl]; exact hk
      have hl2:k + 1 < (ws.map V.str).length:=by rw [wl]; omega
      rw [List.drop_eq_getElem_cons hl0,List.drop_eq_getElem_cons hl2]
      show [(ws.map V.str)[k],(ws.map V.str)[k + 1]] = _
      have g0:(ws.map V.str)[k]? = some (V.str s0):=by rw [List.getElem?_map,e0]; rfl
      have g2:(ws.map V.str)[k + 1]? = some (V.str s2):=by rw [List.getElem?_map,e2]; rfl
      rw [Option.some.inj ((List.getElem?_eq_getElem hl0).symm.trans g0),Option.some.inj ((List.getElem?_eq_getElem hl2).symm.trans g2)]
    refine ⟨_,rfl,_,rfl,_,rfl,_,rfl,_,_,rfl,rfl,_,rfl,p,_,rfl,s1.seq hp,fun l5 n5 => ?_⟩
    rw [ec]
    have z5:=same_new n5 (.lst [V.str s0,V.str s2])
    refine ⟨l5,_,rfl,.inl (SqL.of upd_same),rfl,rfl,_,rfl,ite2 (fun b2 => ?_) (fun _ => iteF ⟨_,rfl,go _ (s1.trans z5)⟩)⟩
    refine ⟨_,rfl,_,rfl,_,rfl,_,rfl,_,_,rfl,rfl,_,rfl,p,_,rfl,(s1.trans z5).seq hp,fun l6 n6 => ?_⟩
    rw [ec]
    have z6:=same_new n6 (.lst [V.str s0,V.str s2])
    have S6:=s1.trans (z5.trans z6)
    refine ⟨l6,_,rfl,.inl (SqL.of upd_same),rfl,rfl,_,rfl,ite2 (fun b3 => ?_) (fun _ => ⟨_,rfl,go _ S6⟩)⟩
    have no:∀ (y:Str),(!inV (.str y) [V.str s0,V.str s2]) = true → s0 ≠ y ∧ s2 ≠ y:=fun y h => by
      refine ⟨fun e => ?_,fun e => ?_⟩
      · subst e; simp [inV,eqV] at h
      · subst e; simp [inV,eqV] at h
    obtain ⟨o1,o2⟩:=no "(" b2
    obtain ⟨o3,o4⟩:=no ")" b3
    have wd0:∀ {y:Str},TokL y → y ≠ "(" → y ≠ ")" → Tk.Word (cps y):=fun {y} ht h1 h2 => by
      rcases ht.2.1 with e | e | hw
      · exact absurd (Tk.lst_inj (e.trans (show ([40]:List Nat) = Tk.lst "(" from rfl))) h1
      · exact absurd (Tk.lst_inj (e.trans (show ([41]:List Nat) = Tk.lst ")" from rfl))) h2
      · exact hw
    refine cat3 (k:=k) (j:=k + 1) (us:=[s2]) rfl rfl (S6.seq hp) (by omega) (by show 1 ≤ 10; decide) (fun H7 Q7 s7 h7 => ⟨_,rfl,_,rfl,_,_,rfl,rfl,p,_,_,.str s2,rfl,rfl,(S6.trans s7).seq hp,a2,h7⟩) (fun H7 Q7 h7 => ⟨_,rfl,_,_,rfl,rfl,h7⟩) fun H7 l s7 hl => fin H7 l k (k + 1) [s2] (S6.trans s7) hl (by show 1 + k ≤ _; omega) (by omega) (by omega) (one t2) ?_
    have hb:=hbal
    rw [map_split e0] at hb
    exact ((hb.del (wd0 t0 o1 o3)).ins (wd0 t2 o2 o4)).mono
  /- the ways of the first six -/
  obtain ⟨t6,d6,k6⟩:∃ t,PSs (cxOf CX0 P w K mg base slN "_law_spoiled" (defScope sSpoil) f cdv A outer s H E).nox (List.drop 11 (defBody sSpoil)) t ∧ ∀ H1 v3 (wd:Str) (k:Nat),Same H H1 → wd ∈ someS → k < ws.length → t { nx:=fun _ H' => Q .non H',rt:=Q } [some (.ref p),some (.int tn),some (.int c),v3,some (.str wd),some (.int (k:Int))] H1:=by
    refine ⟨_,@pss_cons _ _ _ _ _ (ps_if (PW.pt (pw_and (pt_cmpR op_eq (pv 1) pe_int (nomark _)) (pw_and1 (pt_cmpR op_notin_str (pe_ix ix_list (pv 0) (pv 5) (fun _ _ => rfl)) pe_str (by with_unfolding_all rfl)))))
      (pss_one (ps_ret (pe_op op_cat (pe_op op_cat (pe_slice sl_list (pv 0) po_none (po_some (pv 5))) (pe_lst (pa_cons (pe_ix ix_list (pv 0) (pv 5) (fun _ _ => rfl)) (pa_cons (pe_ix ix_list (pv 0) (pv 5) (fun _ _ => rfl)) pa_nil)))) (pe_slice sl_list (pv 0) (po_some (pe_op op_add (pv 5) pe_int)) po_none)))) pss_nil) @d7,fun H1 v3 wd k s1 hw hk => ?_⟩
    obtain ⟨s0,e0,t0,a0⟩:=tkAt k hk
    refine ⟨_,rfl,rfl,_,rfl,ite2 (fun _ => ⟨_,rfl,_,rfl,p,_,_,.str s0,rfl,rfl,s1.seq hp,a0,s0,_,rfl,rfl,_,rfl,ite2 (fun b => ?_) (fun _ => k7 _ _ _ k s1 hw hk)⟩) (fun _ => iteF (k7 _ _ _ k s1 hw hk))⟩
    have hb:=hbal
    rw [map_split e0] at hb
    have w0:=in_br t0 b
    refine cat3 (k:=k) (j:=k + 1) (us:=[s0,s0]) rfl rfl (s1.seq hp) (by omega) (by show 2 ≤ 10; decide) (fun H7 Q7 s7 h7 => ⟨_,rfl,_,rfl,p,_,_,.str s0,rfl,rfl,(s1.trans s7).seq hp,a0,_,rfl,_,rfl,p,_,_,.str s0,rfl,rfl,(s1.trans s7).seq hp,a0,h7⟩) (fun H7 Q7 h7 => ⟨_,rfl,_,_,rfl,rfl,h7⟩) fun H7 l s7 hl => fin H7 l k (k + 1) [s0,s0] (s1.trans s7) hl (by show 2 + k ≤ _; omega) (by omega) (by omega) (two_of t0 t0) ?_
    exact (((hb.del w0).ins w0).ins w0).mono
  obtain ⟨t5,d5,k5⟩:∃ t,PSs (cxOf CX0 P w K mg base slN "_law_spoiled" (defScope sSpoil) f cdv A outer s H E).nox (List.drop 10 (defBody sSpoil)) t ∧ ∀ H1 v3 (wd:Str) (k:Nat),Same H H1 → wd ∈ someS → k < ws.length → t { nx:=fun _ H' => Q .non H',rt:=Q } [some (.ref p),some (.int tn),some (.int c),v3,some (.str wd),some (.int (k:Int))] H1:=by
    refine ⟨_,@pss_cons _ _ _ _ _ (ps_if (PW.pt (pw_and (pt_cmpR op_eq (pv 1) pe_int (nomark _)) (pw_and1 (pt_cmpR op_notin_str (pe_ix ix_list (pv 0) (pv 5) (fun _ _ => rfl)) pe_str (by with_unfolding_all rfl)))))
      (pss_one (ps_ret (pe_op op_cat (pe_op op_cat (pe_slice sl_list (pv 0) po_none (po_some (pv 5))) (pe_lst (pa_cons pe_str (pa_cons (pe_ix ix_list (pv 0) (pv 5) (fun _ _ => rfl)) (pa_cons pe_str pa_nil))))) (pe_slice sl_list (pv 0) (po_some (pe_op op_add (pv 5) pe_int)) po_none)))) pss_nil) @d6,fun H1 v3 wd k s1 hw hk => ?_⟩
    obtain ⟨s0,e0,t0,a0⟩:=tkAt k hk
    refine ⟨_,rfl,rfl,_,rfl,ite2 (fun _ => ⟨_,rfl,_,rfl,p,_,_,.str s0,rfl,rfl,s1.seq hp,a0,s0,_,rfl,rfl,_,rfl,ite2 (fun b => ?_) (fun _ => k6 _ _ _ k s1 hw hk)⟩) (fun _ => iteF (k6 _ _ _ k s1 hw hk))⟩
    have hb:=hbal
    rw [map_split e0] at hb
    have w0:=in_br t0 b
    refine cat3 (k:=k) (j:=k + 1) (us:=["(",s0,")"]) rfl rfl (s1.seq hp) (by omega) (by show 3 ≤ 10; decide) (fun H7 Q7 s7 h7 => ⟨_,rfl,_,rfl,p,_,_,.str s0,rfl,rfl,(s1.trans s7).seq hp,a0,h7⟩) (fun H7 Q7 h7 => ⟨_,rfl,_,_,rfl,rfl,h7⟩) fun H7 l s7 hl => fin H7 l k (k + 1) ["(",s0,")"] (s1.trans s7) hl (by show 3 + k ≤ _; omega) (by omega) (by omega) (fun y hy => ?_) ?_
    · simp only [List.mem_cons,List.mem_nil_iff,or_false] at hy
      rcases hy with rfl | rfl | rfl
      · exact tok_op
      · exact t0
      · exact tok_cl
    · exact hb.wrap w0
  obtain ⟨t4,d4,k4⟩:∃ t,PSs (cxOf CX0 P w K mg base slN "_law_spoiled" (defScope sSpoil) f cdv A outer s H E).nox (List.drop 9 (defBody sSpoil)) t ∧ ∀ H1 v3 (wd:Str) (k:Nat),Same H H1 → wd ∈ someS → k < ws.length → t { nx:=fun _ H' => Q .non H',rt:=Q } [some (.ref p),some (.int tn),some (.int c),v3,some (.str wd),some (.int (k:Int))] H1:=by
    refine ⟨_,@pss_cons _ _ _ _ _ (ps_if (pt_cmpR op_eq (pv 1) pe_int (nomark _))
      (pss_one (ps_ret (pe_op op_cat (pe_op op_cat (pe_slice sl_list (pv 0) po_none (po_some (pv 5))) (pe_lst (pa_cons pe_str (pa_cons pe_str pa_nil)))) (pe_slice sl_list (pv 0) (po_some (pv 5)) po_none)))) pss_nil) @d5,fun H1 v3 wd k s1 hw hk => ?_⟩
    refine ⟨_,rfl,rfl,_,rfl,ite2 (fun _ => ?_) (fun _ => k5 _ _ _ k s1 hw hk)⟩
    have hb:=hbal
    rw [← List.take_append_drop k ws,List.map_append] at hb
    refine cat3 (k:=k) (j:=k) (us:=["(",")"]) rfl rfl (s1.seq hp) (by omega) (by show 2 ≤ 10; decide) (fun H7 Q7 s7 h7 => h7) (fun H7 Q7 h7 => ⟨_,rfl,h7⟩) fun H7 l s7 hl => fin H7 l k k ["(",")"] (s1.trans s7) hl (by show 2 + k ≤ _; omega) (by omega) (by omega) (two_of tok_op tok_cl) ?_
    exact hb.br
  obtain ⟨t3,d3,k3⟩:∃ t,PSs (cxOf CX0 P w K mg base slN "_law_spoiled" (defScope sSpoil) f cdv A outer s H E).nox (List.drop 8 (defBody sSpoil)) t ∧ ∀ H1 v3 (wd:Str) (k:Nat),Same H H1 → wd ∈ someS → k < ws.length → t { nx:=fun _ H' => Q .non H',rt:=Q } [some (.ref p),some (.int tn),some (.int c),v3,some (.str wd),some (.int (k:Int))] H1:=by
    refine ⟨_,@pss_cons _ _ _ _ _ (ps_if (pt_cmpR op_eq (pv 1) pe_int (nomark _))
      (pss_one (ps_ret (pe_op op_cat (pe_op op_cat (pe_slice sl_list (pv 0) po_none (po_some (pv 5))) (pe_lst (pa_cons (pv 4) pa_nil))) (pe_slice sl_list (pv 0) (po_some (pv 5)) po_none)))) pss_nil) @d4,fun H1 v3 wd k s1 hw hk => ?_⟩
    refine ⟨_,rfl,rfl,_,rfl,ite2 (fun _ => ?_) (fun _ => k4 _ _ _ k s1 hw hk)⟩
    obtain ⟨x1,x2⟩:=some_tok hw
    have hb:=hbal
    rw [← List.take_append_drop k ws,List.map_append] at hb
    refine cat3 (k:=k) (j:=k) (us:=[wd]) rfl rfl (s1.seq hp) (by omega) (by show 1 ≤ 10; decide) (fun H7 Q7 s7 h7 => ⟨_,rfl,h7⟩) (fun H7 Q7 h7 => ⟨_,rfl,h7⟩) fun H7 l s7 hl => fin H7 l k k [wd] (s1.trans s7) hl (by show 1 + k ≤ _; omega) (by omega) (by omega) (one x1) ?_
    exact (hb.ins x2).mono
  obtain ⟨t2,d2,k2⟩:∃ t,PSs (cxOf CX0 P w K mg base slN "_law_spoiled" (defScope sSpoil) f cdv A outer s H E).nox (List.drop 7 (defBody sSpoil)) t ∧ ∀ H1 v3 (wd:Str) (k:Nat),Same H H1 → wd ∈ someS → k < ws.length → t { nx:=fun _ H' => Q .non H',rt:=Q } [some (.ref p),some (.int tn),some (.int c),v3,some (.str wd),some (.int (k:Int))] H1:=by
    refine ⟨_,@pss_cons _ _ _ _ _ (ps_if (PW.pt (pw_and (pt_cmpR op_eq (pv 1) pe_int (nomark _)) (pw_and1 (pt_cmpR op_notin_str (pe_ix ix_list (pv 0) (pv 5) (fun _ _ => rfl)) pe_str (by with_unfolding_all rfl)))))
      (pss_one (ps_ret (pe_op op_cat (pe_slice sl_list (pv 0) po_none (po_some (pv 5))) (pe_slice sl_list (pv 0) (po_some (pe_op op_add (pv 5) pe_int)) po_none)))) pss_nil) @d3,fun H1 v3 wd k s1 hw hk => ?_⟩
    obtain ⟨s0,e0,t0,a0⟩:=tkAt k hk
    refine ⟨_,rfl,rfl,_,rfl,ite2 (fun _ => ⟨_,rfl,_,rfl,p,_,_,.str s0,rfl,rfl,s1.seq hp,a0,s0,_,rfl,rfl,_,rfl,ite2 (fun b => ?_) (fun _ => k3 _ _ _ k s1 hw hk)⟩) (fun _ => iteF (k3 _ _ _ k s1 hw hk))⟩
    have hb:=hbal
    rw [map_split e0] at hb
    have w0:=in_br t0 b
    refine cat2 (k:=k) (j:=k + 1) rfl rfl (s1.seq hp) (by omega) (fun H7 Q7 h7 => ⟨_,rfl,_,_,rfl,rfl,h7⟩) fun H7 l s7 hl => fin H7 l k (k + 1) [] (s1.trans s7) hl (by show 0 + k ≤ _; omega) (by omega) (by omega) (fun y hy => nomatch hy) ?_
    exact (hb.del w0).mono
  obtain ⟨t1,d1,k1⟩:∃ t,PSs (cxOf CX0 P w K mg base slN "_law_spoiled" (defScope sSpoil) f cdv A outer s H E).nox (List.drop 6 (defBody sSpoil)) t ∧ ∀ H1 v3 (wd:Str) (k:Nat),Same H H1 → wd ∈ someS → k < ws.length → t { nx:=fun _ H' => Q .non H',rt:=Q } [some (.ref p),some (.int tn),some (.int c),v3,some (.str wd),some (.int (k:Int))] H1:=by
    refine ⟨_,@pss_cons _ _ _ _ _ (ps_if (PW.pt (pw_and (pt_cmpR op_eq (pv 1) pe_int (nomark _)) (pw_and1 (pt_cmpR op_notin_str (pe_ix ix_list (pv 0) (pv 5) (fun _ _ => rfl)) pe_str (by with_unfolding_all rfl)))))
      (pss_one (ps_ret (pe_op op_cat (pe_op op_cat (pe_slice sl_list (pv 0) po_none (po_some (pv 5))) (pe_lst (pa_cons (pv 4) pa_nil))) (pe_slice sl_list (pv 0) (po_some (pe_op op_add (pv 5) pe_int)) po_none)))) pss_nil) @d2,fun H1 v3 wd k s1 hw hk => ?_⟩
    obtain ⟨s0,e0,t0,a0⟩:=tkAt k hk
    refine ⟨_,rfl,rfl,_,rfl,ite2 (fun _ => ⟨_,rfl,_,rfl,p,_,_,.str s0,rfl,rfl,s1.seq hp,a0,s0,_,rfl,rfl,_,rfl,ite2 (fun b => ?_) (fun _ => k2 _ _ _ k s1 hw hk)⟩) (fun _ => iteF (k2 _ _ _ k s1 hw hk))⟩
    have hb:=hbal
    rw [map_split e0] at hb
    have w0:=in_br t0 b
    obtain ⟨x1,x2⟩:=some_tok hw
    refine cat3 (k:=k) (j:=k + 1) (us:=[wd]) rfl rfl (s1.seq hp) (by omega) (by show 1 ≤ 10; decide) (fun H7 Q7 s7 h7 => ⟨_,rfl,h7⟩) (fun H7 Q7 h7 => ⟨_,rfl,_,_,rfl,rfl,h7⟩) fun H7 l s7 hl => fin H7 l k (k + 1) [wd] (s1.trans s7) hl (by show 1 + k ≤ _; omega) (by omega) (by omega) (one x1) ?_
    exact ((hb.del w0).ins x2).mono
  refine ⟨_,@pss_cons _ _ _ _ _ (@ps_set _ _ 3 _ _ _ _ scSpoil.nd rfl (Or.inl rfl) (@pe_strs _ [(_,_,_),(_,_,_),(_,_,_),(_,_,_),(_,_,_),(_,_,_),(_,_,_),(_,_,_),(_,_,_),(_,_,_),(_,_,_),(_,_,_),(_,_,_)] _) rfl (.inr rfl))
    (@pss_cons _ _ _ _ _ (@ps_set _ _ 3 _ _ _ _ scSpoil.nd rfl (Or.inl rfl) (pe_op op_cat (pv 3) (@pe_strs _ [(_,_,_),(_,_,_),(_,_,_),(_,_,_),(_,_,_),(_,_,_),(_,_,_),(_,_,_),(_,_,_)] _)) rfl (.inr rfl))
    (@pss_cons _ _ _ _ _ (@ps_set _ _ 3 _ _ _ _ scSpoil.nd rfl (Or.inl rfl) (pe_op op_cat (pv 3) (@pe_strs _ [(_,_,_),(_,_,_),(_,_,_),(_,_,_),(_,_,_),(_,_,_),(_,_,_),(_,_,_)] _)) rfl (.inr rfl))
    (@pss_cons _ _ _ _ _ (@ps_set _ _ 3 _ _ _ _ scSpoil.nd rfl (Or.inl rfl) (pe_op op_cat (pv 3) (@pe_strs _ [(_,_,_),(_,_,_),(_,_,_)] _)) rfl (.inr rfl))
    (@pss_cons _ _ _ _ _ (ps_set (i:=4) scSpoil.nd rfl (Or.inl rfl) (pe_ix ix_list (pv 3) (pe_op op_mod (pv 2) pe_int) (fun _ _ => rfl)))
    (@pss_cons _ _ _ _ _ (ps_set (i:=5) scSpoil.nd rfl (Or.inl rfl) (pe_op op_mod (pe_op op_fdiv (pv 2) pe_int) (pe_callB call_len_seq rfl ml PySem.boot_len (pa_cons (pv 0) pa_nil)))) @d1))))),?_⟩
  refine ⟨(by show 13 ≤ sizeLine; decide),fun m1 n1 => ?_⟩
  have z1:=same_new n1 (.lst (w13.map V.str))
  refine ⟨_,rfl,(by show 9 ≤ sizeLine; decide),fun m2 n2 => ?_⟩
  have z2:=same_new n2 (.lst (w9.map V.str))
  refine ⟨m1,m2,_,_,rfl,rfl,z2 _ _ upd_same,upd_same,(by show 22 ≤ sizeLine; decide),fun m3 n3 => ?_⟩
  have z3:=same_new n3 (.lst (w13.map V.str ++ w9.map V.str))
  refine ⟨_,rfl,(by show 8 ≤ sizeLine; decide),fun m4 n4 => ?_⟩
  have z4:=same_new n4 (.lst (w8.map V.str))
  refine ⟨m3,m4,_,_,rfl,rfl,z4 _ _ upd_same,upd_same,(by show 30 ≤ sizeLine; decide),fun m5 n5 => ?_⟩
  have z5:=same_new n5 (.lst ((w13.map V.str ++ w9.map V.str) ++ w8.map V.str))
  refine ⟨_,rfl,(by show 3 ≤ sizeLine; decide),fun m6 n6 => ?_⟩
  have z6:=same_new n6 (.lst (w3.map V.str))
  refine ⟨m5,m6,_,_,rfl,rfl,z6 _ _ upd_same,upd_same,(by show 33 ≤ sizeLine; decide),fun m7 n7 => ?_⟩
  have z7:=same_new n7 (.lst (((w13.map V.str ++ w9.map V.str) ++ w8.map V.str) ++ w3.map V.str))
  have S:=z1.trans (z2.trans (z3.trans (z4.trans (z5.trans (z6.trans z7)))))
  have r0:0 ≤ c % 33:=Int.emod_nonneg _ (by decide)
  have r1:c % 33 < 33:=Int.emod_lt_of_pos _ (by decide)
  obtain ⟨wd,hwd,hmem⟩:∃ wd,atI (someS.map V.str) (c % 33) = some (.str wd) ∧ wd ∈ someS:=by
    have hlen:someS.length = 33:=by decide +kernel
    obtain ⟨v,hv⟩:=at_ex (xs:=someS.map V.str) (i:=c % 33) r0 (by rw [List.length_map,hlen]; exact r1)
    have hm:=mem_at hv
    obtain ⟨y,hy,rfl⟩:=List.mem_map.mp hm
    exact ⟨y,hv,hy⟩
  refine ⟨_,rfl,_,rfl,_,_,rfl,rfl,(by show (0:Int) < 33; decide),m7,_,_,.str wd,rfl,rfl,SqL.of upd_same,hwd,?_⟩
  refine ⟨_,rfl,_,_,rfl,rfl,⟨by decide,by decide⟩,_,rfl,p,_,rfl,.inl (S.seq hp),_,_,rfl,rfl,(by show (0:Int) < ((ws.map V.str).length:Int); rw [wl]; omega),?_⟩
  have k0:0 ≤ c / 33 % ((ws.map V.str).length:Int):=Int.emod_nonneg _ (by rw [wl]; omega)
  have k1':c / 33 % ((ws.map V.str).length:Int) < ((ws.map V.str).length:Int):=Int.emod_lt_of_pos _ (by rw [wl]; omega)
  rw [wl] at k0 k1'
  have:=k1 _ (some (.ref m7)) wd (c / 33 % (ws.length:Int)).toNat S hmem (by omega)
  rw [Int.toNat_of_nonneg k0] at this
  rw [← wl] at this
  exact this
end
end K18
namespace K18
open PySem L2
structure Pt (t:Tr) (l d:Nat):Prop where
  ok:t.ok
  tok:∀ p ∈ t.flat,TokC p
  len:t.flat.length ≤ l
  dep:t.dep ≤ d
structure Pz (ts:List Tr) (l d:Nat):Prop where
  ok:oks ts
  tok:∀ p ∈ flats ts,TokC p
  len:(flats ts).length ≤ l
  dep:deps ts ≤ d
theorem Pt.le {t:Tr} {l d l' d':Nat} (h:Pt t l d) (h1:l ≤ l') (h2:d ≤ d'):Pt t l' d':=⟨h.ok,h.tok,Nat.le_trans h.len h1,Nat.le_trans h.dep h2⟩
theorem pz_nil {d:Nat}:Pz [] 0 d:=⟨True.intro,(fun p hp => (nomatch hp)),Nat.le_refl _,Nat.zero_le _⟩
theorem pz_cons {t:Tr} {ts:List Tr} {l l' d:Nat} (h:Pt t l d) (r:Pz ts l' d):Pz (t :: ts) (l + l') d:=by
  refine ⟨⟨h.ok,r.ok⟩,fun p hp => ?_,?_,?_⟩
  · rcases List.mem_append.mp (show p ∈ t.flat ++ flats ts from hp) with z | z
    · exact h.tok p z
    · exact r.tok p z
  · show (t.flat ++ flats ts).length ≤ _
    rw [List.length_append]
    exact Nat.add_le_add h.len r.len
  · show max t.dep (deps ts) ≤ d
    exact Nat.max_le.mpr ⟨h.dep,r.dep⟩
structure Wd (z:Str):Prop where
  word:Tk.Word (cps z)
  len:z.length ≤ 25
  cp:∀ c ∈ cps z,c < 0x110000
theorem Wd.tokc {z:Str} (h:Wd z):TokC (cps z):=tokc_word h.word (by rw [cps_len]; exact h.len) h.cp
theorem pt_word {z:Str} {d:Nat} (h:Wd z):Pt (.w z) 1 d:=⟨h.word,fun p hp => by rw [List.mem_singleton.mp (show p ∈ [cps z] from hp)]; exact h.tokc,Nat.le_refl _,Nat.zero_le _⟩
theorem pt_node {z:Str} {ts:List Tr} {l d:Nat} (h:Wd z) (r:Pz ts l d):Pt (.n (.w z :: ts)) (l + 3) (d + 1):=by
  have c:=pz_cons (pt_word (d:=d) h) r
  refine ⟨c.ok,fun p hp => ?_,?_,?_⟩
  · have hp':p ∈ [40] :: (flats (.w z :: ts) ++ [[41]]):=hp
    rcases List.mem_cons.mp hp' with rfl | hp'
    · exact tokc_op
    · rcases List.mem_append.mp hp' with hp' | hp'
      · exact c.tok p hp'
      · rw [List.mem_singleton.mp hp']
        exact tokc_cl
  · show ([40] :: (flats (.w z :: ts) ++ [[41]])).length ≤ _
    have:=c.len
    rw [List.length_cons,List.length_append]
    show (flats (.w z :: ts)).length + 1 + 1 ≤ l + 3
    omega
  · show 1 + deps (.w z :: ts) ≤ d + 1
    have:=c.dep
    omega
theorem wd_name {z:Str} (h:nameOk z = true):Wd z:=by
  have:=near_word (q:="") (t:=z) h (.inl rfl)
  have e:nearW "" z = z:=if_pos rfl
  rw [e] at this
  exact ⟨this.1,this.2.1,this.2.2⟩
theorem wd_far {q t:Str} (hq:nameOk q = true) (ht:nameOk t = true):Wd (nearW q t):=by
  have:=near_word (q:=q) (t:=t) ht (.inr hq)
  exact ⟨this.1,this.2.1,this.2.2⟩
theorem wd_num {n:Nat} (h:n ≤ 1000000000000000000):Wd (numS n):=by
  obtain ⟨_,_,x3⟩:=num_tx h
  exact ⟨(num_word h).1,by omega,(num_word h).2⟩
theorem wd_heads:∀ s ∈ (["num","pair","lit","+","-","*","=","<","as","let","if","two","first","second"]:List Str),(cps s ≠ [] ∧ ∀ c ∈ cps s,c ≠ 40 ∧ c ≠ 41 ∧ c ≠ 10 ∧ c ≠ 32) ∧ s.length ≤ 25 ∧ ∀ c ∈ cps s,c < 0x110000:=by decide +kernel
theorem wd_head {s:Str} (h:s ∈ (["num","pair","lit","+","-","*","=","<","as","let","if","two","first","second"]:List Str)):Wd s:=⟨(wd_heads s h).1,(wd_heads s h).2.1,(wd_heads s h).2.2⟩
theorem far_name {z:Str} (h:nameOk z = true):far? z = some ((Str.ofString ""),z):=if_pos h
theorem far_near {q t:Str} (hq:nameOk q = true) (ht:nameOk t = true):far? (nearW q t) = some (q,t):=by
  unfold far?
  rw [if_neg (by rw [far_no (name_ne hq)]; decide),far_split hq ht]
  exact if_pos ⟨hq,ht⟩
theorem numb_of {n:Nat} {lo hi:Int} (h:n ≤ 1000000000000000000) (h1:lo ≤ n) (h2:(n:Int) ≤ hi):numb? (.w (numS n)) lo hi = some n:=by
  obtain ⟨_,x2,_⟩:=num_tx h
  show (if numOk (numS n) = true ∧ lo ≤ (numOf (cps (numS n)):Int) ∧ (numOf (cps (numS n)):Int) ≤ hi then some (numOf (cps (numS n))) else none) = some n
  rw [x2,if_pos ⟨num_is0 h,h1,h2⟩]
theorem size_of {n:Nat} (h1:1 ≤ n) (h:n ≤ 1000000000000000000):size? (.w (numS n)) = some n:=numb_of h (by omega) (by omega)
structure Gd (b:Bool) (n:Nat) (t:Tr):Prop where
  fit:fitB b t = true
  pt:Pt t (16 * n + 1) (n + 1)
theorem kd_far {z:Str} {p:Str × Str} (h:far? z = some p):fitB true (.w z) = true:=by
  show ((far? z).map _).isSome = true
  rw [h]
  rfl
theorem kd_good_num {n:Nat} (h1:1 ≤ n) (h:n ≤ 1000000000000000000):fitB true (.n [.w "num",.w (numS n)]) = true:=by
  show (kd? (.n [.w "num",.w (numS n)])).isSome = true
  rw [kd_len2,size_of h1 h,isW_yes]
  rfl
theorem kd_good_pair {a b:Tr} (ha:fitB true a = true) (hb:fitB true b = true):fitB true (.n [.w "pair",a,b]) = true:=by
  show (kd? (.n [.w "pair",a,b])).isSome = true
  rw [kd_len3,isW_yes,show (kd? a).isSome = true from ha,show (kd? b).isSome = true from hb]
  rfl
theorem ex_good {z:Str} {ts:List Tr} {p:Fm × Nat} (hf:form? z ts = some p) (h:∀ t ∈ ts.drop p.2,fitB false t = true):fitB false (.n (.w z :: ts)) = true:=by
  show (ex? (.n (.w z :: ts))).isSome = true
  obtain ⟨r,er⟩:=alls_some (f:=ex?) (l:=ts.drop p.2) fun t ht => h t ht
  rw [ex_form hf,show exs? (ts.drop p.2) = some r from er]
  rfl
theorem ex_name {z:Str} (h:nameOk z = true):fitB false (.w z) = true:=by
  show (if nameOk z = true then some (Ex.var z) else none).isSome = true
  rw [if_pos h]
  rfl
theorem form_name {z:Str} {ts:List Tr} {p:Str × Str} (hz:far? z = some p) (h4:ts.length ≤ 4):form? z ts = some (.call p.1 p.2,0):=by
  have no:∀ w ∈ heads,z ≠ w:=fun w hw e => by
    have:=far_heads w hw
    rw [← e,hz] at this
    cases this
  have n2:¬ inV (.str z) opsV = true:=no_of (inV_strs (ws:=["+","-","*"]) fun w hw => no w (by simp only [List.mem_cons,List.mem_nil_iff,or_false] at hw ⊢; rcases hw with h | h | h <;> simp [h]))
  have n3:¬ inV (.str z) tstV = true:=no_of (inV_strs (ws:=["=","<"]) fun w hw => no w (by simp only [List.mem_cons,List.mem_nil_iff,or_false] at hw ⊢; rcases hw with h | h <;> simp [h]))
  rw [form_br (no _ (by decide +kernel)) n2 n3 (no _ (by decide +kernel)) (no _ (by decide +kernel))]
  have en:numAtS brs z = none:=by
    cases e:numAtS brs z with
    | none => rfl
    | some k =>
      obtain ⟨n,rfl,hn⟩:=brs_is e
      rcases hn with ⟨h,_⟩ | ⟨h,_⟩ | ⟨h,_⟩ | ⟨h,_⟩
      · exact absurd h (no _ (by decide +kernel))
      · exact absurd h (no _ (by decide +kernel))
      · exact absurd h (no _ (by decide +kernel))
      · exact absurd h (no _ (by decide +kernel))
  rw [en]
  unfold call?
  rw [hz]
  exact if_pos h4
noncomputable def spKindOv (K:PySem.W.Frag):Sp:=fun vs H Q _ => ∃ (c:Int) (x:V) (t:Tr) (n:Nat),vs = [.int c,x] ∧ TrAt K H x t ∧ Gd true n t ∧ ∀ H' v u,Same H H' → TrAt K H' v u → Gd true (n + 1) u → Q v H'
noncomputable def spExOv (K:PySem.W.Frag):Sp:=fun vs H Q _ => ∃ (c:Int) (x:V) (t:Tr) (n:Nat),vs = [.int c,x] ∧ TrAt K H x t ∧ Gd false n t ∧ ∀ H' v u,Same H H' → TrAt K H' v u → Gd false (n + 1) u → Q v H'
section
variable {P:Program} {w:World} {K:PySem.W.Frag} {mg:Str → Option Value} {base:Heap}
noncomputable abbrev koN:List Str:=["_law_cell_here","_law_inner","_law_size_here","_law_word"]
noncomputable abbrev koP:List Str:=["_law_cell_here","_law_inner"]
theorem scKindOv:FnScope koN koP (defScope sKindOv):=⟨rfl,rfl,rfl,by decide +kernel,rfl,by decide +kernel,by decide +kernel⟩
set_option maxHeartbeats 0 in
theorem ok_kindOv {f fn fs:Addr} {fd fdn fds:FuncData} (F:Fun K "_law_kind_over" "_law_kind_over" sKindOv f fd)
    (GN:FnOk P w K mg base CX0 1 fn fdn ["_law_cell_here"] spNameL) (bN:Binds K fdn ["_law_cell_here"] []) (kN:PySem.W.keepIn K (.ref fn) = true) (mN:mg "_law_name" = some (.ref fn))
    (GS:FnOk P w K mg base CX0 1 fs fds ["_law_cell_here"] spSizeL) (bS:Binds K fds ["_law_cell_here"] []) (kS:PySem.W.keepIn K (.ref fs) = true) (mS:mg "_law_size" = some (.ref fs))
    (ms:mg "str" = none):FnOk P w K mg base CX0 2 f fd koP (spKindOv K):=by
  refine F.ok scKindOv (fun vs H Q E h => ?_) (fun cdv A outer s H vs Q E hr h => ?_)
  · obtain ⟨c,x,t,n,rfl,_⟩:=h
    rfl
  obtain ⟨c,x,t,n,rfl,hx,gd,q⟩:=h
  refine ⟨_,pss_cons (ps_set (i:=2) scKindOv.nd rfl (Or.inl rfl) (pe_callTy call_str_int rfl ms bootStr (pa_cons (pe_call GS hr rfl mS kS bS .nil pass0 (pa_cons (pe_op op_fdiv (pv 0) pe_int) pa_nil)) pa_nil)))
    (pss_cons (ps_set (i:=3) scKindOv.nd rfl (Or.inl rfl) (pe_ix ix_list (pe_lst (pa_cons (pe_call GN hr rfl mN kN bN .nil pass0 (pa_cons (pe_op op_fdiv (pv 0) pe_int) pa_nil)) (pa_cons (pe_op op_add_str (pe_op op_add_str (pe_call GN hr rfl mN kN bN .nil pass0 (pa_cons (pe_op op_fdiv (pv 0) pe_int) pa_nil)) pe_str) (pe_call GN hr rfl mN kN bN .nil pass0 (pa_cons (pe_op op_fdiv (pv 0) pe_int) pa_nil))) pa_nil))) (pe_op op_mod (pe_op op_fdiv (pv 0) pe_int) pe_int) (fun _ _ => rfl)))
    (pss_cons (ps_if (pt_cmpR op_eq (pe_op op_mod (pv 0) pe_int) pe_int (nomark _)) (pss_one (ps_ret (pe_tup (pa_cons pe_str (pa_cons (pv 2) pa_nil))))) pss_nil)
    (pss_cons (ps_if (pt_cmpR op_eq (pe_op op_mod (pv 0) pe_int) pe_int (nomark _)) (pss_one (ps_ret (pv 3))) pss_nil)
    (pss_cons (ps_if (pt_cmpR op_eq (pe_op op_mod (pv 0) pe_int) pe_int (nomark _)) (pss_one (ps_ret (pe_tup (pa_cons pe_str (pa_cons (pv 1) (pa_cons (pe_tup (pa_cons pe_str (pa_cons (pv 2) pa_nil))) pa_nil)))))) pss_nil)
    (pss_one (ps_ret (pe_tup (pa_cons pe_str (pa_cons (pv 3) (pa_cons (pv 1) pa_nil)))))))))),?_⟩
  refine ⟨_,rfl,_,_,rfl,rfl,⟨by decide,by decide⟩,_,rfl,fun m m1 m2 => ⟨m,rfl,log_small m2,?_⟩⟩
  refine ⟨_,rfl,_,_,rfl,rfl,⟨by decide,by decide⟩,_,rfl,fun H1 z1 s1 hz1 => ?_⟩
  refine ⟨_,rfl,_,_,rfl,rfl,⟨by decide,by decide⟩,_,rfl,fun H2 z2 s2 hz2 => ?_⟩
  have d1:(Str.ofString ".").length = 1:=by decide +kernel
  have y2:=(name_facts hz2).2.1
  refine ⟨z2,_,rfl,rfl,small (by rw [d1]; omega),?_⟩
  refine ⟨_,rfl,_,_,rfl,rfl,⟨by decide,by decide⟩,_,rfl,fun H3 z3 s3 hz3 => ?_⟩
  have y3:=(name_facts hz3).2.1
  refine ⟨_,z3,rfl,rfl,small (by rw [len_app,d1]; omega),(by show 2 ≤ sizeLine; decide),fun l hl => ?_⟩
  have ew:(z2 ++ Str.ofString ".") ++ z3 = nearW z2 z3:=(if_neg (name_ne hz2)).symm
  have s4:=same_new hl (.lst [.str z1,.str ((z2 ++ Str.ofString ".") ++ z3)])
  have S:=s1.trans (s2.trans (s3.trans s4))
  obtain ⟨W,hW,pW,fW,wW⟩:∃ W p,atI [V.str z1,V.str ((z2 ++ Str.ofString ".") ++ z3)] (c / 3 % 2) = some (.str W) ∧ far? W = some p ∧ Wd W:=by
    have r:c / 3 % 2 = 0 ∨ c / 3 % 2 = 1:=by omega
    rcases r with r | r <;> rw [r]
    · exact ⟨z1,_,rfl,far_name hz1,wd_name hz1⟩
    · exact ⟨_,_,rfl,by rw [ew]; exact far_near hz2 hz3,by rw [ew]; exact wd_far hz2 hz3⟩
  refine ⟨_,rfl,_,_,rfl,rfl,⟨by decide,by decide⟩,_,_,rfl,rfl,(by show (0:Int) < 2; decide),l,_,_,.str W,rfl,rfl,SqL.of upd_same,pW,?_⟩
  have gn:Pt (.n [.w "num",.w (numS m)]) 4 1:=(pt_node (wd_head (by decide +kernel)) (pz_cons (d:=0) (pt_word (wd_num m2)) pz_nil)).le (by decide) (by decide)
  refine ⟨_,rfl,_,_,rfl,rfl,(by show (0:Int) < 5; decide),rfl,_,rfl,ite2 (fun _ => ?_) (fun _ => ?_)⟩
  · refine ⟨_,rfl,(by show 2 ≤ sizeLine; decide),fun p hp => q _ _ _ (S.trans (same_new hp _)) (.n upd_same (.cons (.w "num") (.cons (.w (numS m)) .nil))) ⟨kd_good_num m1 m2,gn.le (by omega) (by omega)⟩⟩
  refine ⟨_,rfl,_,_,rfl,rfl,(by show (0:Int) < 5; decide),rfl,_,rfl,ite2 (fun _ => ⟨_,rfl,q _ _ _ S (.w W) ⟨kd_far fW,(pt_word wW).le (by omega) (Nat.le_refl _)⟩⟩) (fun _ => ?_)⟩
  refine ⟨_,rfl,_,_,rfl,rfl,(by show (0:Int) < 5; decide),rfl,_,rfl,ite2 (fun _ => ?_) (fun _ => ?_)⟩
  · refine ⟨_,rfl,_,rfl,(by show 2 ≤ sizeLine; decide),fun p hp => ⟨(by show 3 ≤ sizeLine; decide),fun p2 hp2 => ?_⟩⟩
    have t1:=same_new hp (.tup [.str "num",.str (numS m)])
    have t2:=same_new hp2 (.tup [.str "pair",x,.ref p])
    have S2:=S.trans (t1.trans t2)
    exact q _ _ (.n [.w "pair",t,.n [.w "num",.w (numS m)]]) S2 (.n upd_same (.cons (.w "pair") (.cons (hx.same S2) (.cons (.n (t2 _ _ upd_same) (.cons (.w "num") (.cons (.w (numS m)) .nil))) .nil)))) ⟨kd_good_pair gd.fit (kd_good_num m1 m2),(pt_node (wd_head (by decide +kernel)) (pz_cons gd.pt (pz_cons (gn.le (Nat.le_refl _) (by omega)) pz_nil))).le (by omega) (by omega)⟩
  · refine ⟨_,rfl,_,rfl,(by show 3 ≤ sizeLine; decide),fun p2 hp2 => ?_⟩
    have t2:=same_new hp2 (.tup [.str "pair",.str W,x])
    have S2:=S.trans t2
    exact q _ _ (.n [.w "pair",.w W,t]) S2 (.n upd_same (.cons (.w "pair") (.cons (.w W) (.cons (hx.same S2) .nil)))) ⟨kd_good_pair (kd_far fW) gd.fit,(pt_node (wd_head (by decide +kernel)) (pz_cons (pt_word wW) (pz_cons gd.pt pz_nil))).le (by omega) (by omega)⟩
end
end K18
namespace K18
open PySem L2
noncomputable abbrev sgS:Str:="+-*"
noncomputable abbrev tsS:Str:="=<"
theorem sg_all:∀ c ∈ sgS.cps.toList,(⟨#[c]⟩:Str) ∈ (["+","-","*"]:List Str):=by decide +kernel
theorem ts_all:∀ c ∈ tsS.cps.toList,(⟨#[c]⟩:Str) ∈ (["=","<"]:List Str):=by decide +kernel
theorem ops_all:∀ s ∈ (["+","-","*"]:List Str),s ≠ "lit" ∧ inV (.str s) opsV = true ∧ s ∈ (["num","pair","lit","+","-","*","=","<","as","let","if","two","first","second"]:List Str):=by decide +kernel
theorem tst_all:∀ s ∈ (["=","<"]:List Str),s ≠ "lit" ∧ ¬ inV (.str s) opsV = true ∧ inV (.str s) tstV = true ∧ s ∈ (["num","pair","lit","+","-","*","=","<","as","let","if","two","first","second"]:List Str):=by decide +kernel
theorem form_brs {z:Str} {ts:List Tr} {k:Nat} (h:(z,(k:Int)) ∈ brs) (hl:ts.length = k):form? z ts = some (.br z,0):=by
  have all:∀ p ∈ brs,p.1 ≠ "lit" ∧ ¬ inV (.str p.1) opsV = true ∧ ¬ inV (.str p.1) tstV = true ∧ p.1 ≠ "as" ∧ p.1 ≠ "let" ∧ numAtS brs p.1 = some p.2:=by decide +kernel
  obtain ⟨h1,h2,h3,h4,h5,h6⟩:=all _ h
  rw [form_br h1 h2 h3 h4 h5,h6]
  exact if_pos (by show (ts.length:Int) = (k:Int); rw [hl])
structure Lf (t:Tr):Prop where
  fit:fitB false t = true
  pt:Pt t 5 1
theorem lf_word {z:Str} (h:nameOk z = true):Lf (.w z):=⟨ex_name h,(pt_word (wd_name h)).le (by decide) (Nat.le_refl _)⟩
theorem lf_lit {k n:Nat} (h1:k < n) (h2:n ≤ 1000000000000000000):Lf (.n [.w "lit",.w (numS k),.w (numS n)]):=by
  have ef:form? "lit" [.w (numS k),.w (numS n)] = some (.lit k n,2):=by
    rw [show form? "lit" [.w (numS k),.w (numS n)] = lit? [.w (numS k),.w (numS n)] from if_pos rfl]
    simp only [lit?,size_of (show 1 ≤ n by omega) h2,numb_of (show k ≤ 1000000000000000000 by omega) (lo:=0) (hi:=(n:Int) - 1) (by omega) (by omega),Option.map_some]
  exact ⟨ex_good ef (fun t ht => (nomatch ht)),(pt_node (wd_head (by decide +kernel)) (pz_cons (d:=0) (pt_word (wd_num (by omega))) (pz_cons (pt_word (wd_num h2)) pz_nil))).le (by decide) (by decide)⟩
theorem fits_mem1 {a:Tr} (ha:fitB false a = true):∀ t ∈ [a],fitB false t = true:=fun t ht => by rw [List.mem_singleton.mp ht]; exact ha
theorem fits_mem2 {a b:Tr} (ha:fitB false a = true) (hb:fitB false b = true):∀ t ∈ [a,b],fitB false t = true:=fun t ht => by
  simp only [List.mem_cons,List.mem_nil_iff,or_false] at ht
  rcases ht with rfl | rfl
  · exact ha
  · exact hb
theorem fits_mem3 {a b c:Tr} (ha:fitB false a = true) (hb:fitB false b = true) (hc:fitB false c = true):∀ t ∈ [a,b,c],fitB false t = true:=fun t ht => by
  simp only [List.mem_cons,List.mem_nil_iff,or_false] at ht
  rcases ht with rfl | rfl | rfl
  · exact ha
  · exact hb
  · exact hc
section
variable {P:Program} {w:World} {K:PySem.W.Frag} {mg:Str → Option Value} {base:Heap}
noncomputable abbrev eoN:List Str:=["_law_cell_here","_law_inner","_law_size_here","_law_literal","_law_word","_law_leaf"]
theorem scExOv:FnScope eoN koP (defScope sExOv):=⟨rfl,rfl,rfl,by decide +kernel,rfl,by decide +kernel,by decide +kernel⟩
set_option maxHeartbeats 0 in
theorem ok_exOv {f fn fs:Addr} {fd fdn fds:FuncData} (F:Fun K "_law_expression_over" "_law_expression_over" sExOv f fd)
    (GN:FnOk P w K mg base CX0 1 fn fdn ["_law_cell_here"] spNameL) (bN:Binds K fdn ["_law_cell_here"] []) (kN:PySem.W.keepIn K (.ref fn) = true) (mN:mg "_law_name" = some (.ref fn))
    (GS:FnOk P w K mg base CX0 1 fs fds ["_law_cell_here"] spSizeL) (bS:Binds K fds ["_law_cell_here"] []) (kS:PySem.W.keepIn K (.ref fs) = true) (mS:mg "_law_size" = some (.ref fs))
    (ms:mg "str" = none):FnOk P w K mg base CX0 2 f fd koP (spExOv K):=by
  refine F.ok scExOv (fun vs H Q E h => ?_) (fun cdv A outer s H vs Q E hr h => ?_)
  · obtain ⟨c,x,t,n,rfl,_⟩:=h
    rfl
  obtain ⟨c,x,t,n,rfl,hx,gd,q⟩:=h
  have gt:=gd.pt
  obtain ⟨u4,d4,k4⟩:∃ u,PSs (cxOf CX0 P w K mg base eoN "_law_expression_over" (defScope sExOv) f cdv A outer s H E).nox (List.drop 4 (defBody sExOv)) u ∧ ∀ H1 (m:Nat) (lv:V) (L:Tr) (z:Str) (fv:V) (M:Tr),Same H H1 → 1 ≤ m → m ≤ 1000000000000000000 → TrAt K H1 lv L → Lf L → nameOk z = true → TrAt K H1 fv M → Lf M → u { nx:=fun _ H' => Q .non H',rt:=Q } [some (.int c),some x,some (.int (m:Int)),some lv,some (.str z),some fv] H1:=by
    refine ⟨_,pss_cons (ps_if (pt_cmpR op_eq (pe_op op_mod (pv 0) pe_int) pe_int (nomark _)) (pss_one (ps_ret (pv 3))) pss_nil)
      (pss_cons (ps_if (pt_cmpR op_eq (pe_op op_mod (pv 0) pe_int) pe_int (nomark _)) (pss_one (ps_ret (pv 4))) pss_nil)
      (pss_cons (ps_if (pt_cmpR op_eq (pe_op op_mod (pv 0) pe_int) pe_int (nomark _)) (pss_one (ps_ret (pe_tup (pa_cons (pe_ix ix_str pe_str (pe_op op_mod (pe_op op_fdiv (pv 0) pe_int) pe_int) (fun _ _ => rfl)) (pa_cons (pe_callTy call_str_int rfl ms bootStr (pa_cons (pv 2) pa_nil)) (pa_cons (pv 1) (pa_cons (pv 5) pa_nil))))))) pss_nil)
      (pss_cons (ps_if (pt_cmpR op_eq (pe_op op_mod (pv 0) pe_int) pe_int (nomark _)) (pss_one (ps_ret (pe_tup (pa_cons (pe_ix ix_str pe_str (pe_op op_mod (pe_op op_fdiv (pv 0) pe_int) pe_int) (fun _ _ => rfl)) (pa_cons (pv 5) (pa_cons (pv 1) pa_nil)))))) pss_nil)
      (pss_cons (ps_if (pt_cmpR op_eq (pe_op op_mod (pv 0) pe_int) pe_int (nomark _)) (pss_one (ps_ret (pe_tup (pa_cons pe_str (pa_cons (pe_callTy call_str_int rfl ms bootStr (pa_cons (pv 2) pa_nil)) (pa_cons (pv 1) pa_nil)))))) pss_nil)
      (pss_cons (ps_if (pt_cmpR op_eq (pe_op op_mod (pv 0) pe_int) pe_int (nomark _)) (pss_one (ps_ret (pe_tup (pa_cons pe_str (pa_cons (pv 5) (pa_cons (pv 1) (pa_cons (pv 4) pa_nil))))))) pss_nil)
      (pss_cons (ps_if (pt_cmpR op_eq (pe_op op_mod (pv 0) pe_int) pe_int (nomark _)) (pss_one (ps_ret (pe_tup (pa_cons pe_str (pa_cons (pv 4) (pa_cons (pv 1) (pa_cons (pv 5) pa_nil))))))) pss_nil)
      (pss_cons (ps_if (pt_cmpR op_eq (pe_op op_mod (pv 0) pe_int) pe_int (nomark _)) (pss_one (ps_ret (pe_tup (pa_cons pe_str (pa_cons (pv 1) (pa_cons (pv 5) pa_nil)))))) pss_nil)
      (pss_cons (ps_if (pt_cmpR op_lt (pe_op op_mod (pv 0) pe_int) pe_int (nomark _)) (pss_one (ps_ret (pe_tup (pa_cons (pe_ix ix_list (pe_lst (pa_cons pe_str (pa_cons pe_str pa_nil))) (pe_op op_mod (pv 0) pe_int) (fun _ _ => rfl)) (pa_cons (pv 1) pa_nil))))) pss_nil)
      (pss_cons (ps_if (pt_cmpR op_eq (pe_op op_mod (pv 0) pe_int) pe_int (nomark _)) (pss_one (ps_ret (pe_slice sl_tupA (pe_tup (pa_cons (pv 4) (pa_cons (pv 1) (pa_cons (pv 5) pa_nil)))) po_none (po_some (pe_op op_add pe_int (pe_op op_mod (pe_op op_fdiv (pv 0) pe_int) pe_int)))))) pss_nil)
      (pss_one (ps_ret (pe_tup (pa_cons (pe_op op_add_str (pe_op op_add_str (pe_call GN hr rfl mN kN bN .nil pass0 (pa_cons (pe_op op_fdiv (pv 0) pe_int) pa_nil)) pe_str) (pv 4)) (pa_cons (pv 5) (pa_cons (pv 4) (pa_cons (pv 1) (pa_cons (pv 5) pa_nil))))))))))))))))),fun H1 m lv L z fv M s1 m1 m2 hl lL hz hf lM => ?_⟩
    have hx1:=hx.same s1
    have mm:(0:Int) < 12:=by decide
    refine ⟨_,rfl,_,_,rfl,rfl,mm,rfl,_,rfl,ite2 (fun _ => ⟨_,rfl,q _ _ L s1 hl ⟨lL.fit,lL.pt.le (by omega) (by omega)⟩⟩) (fun _ => ?_)⟩
    refine ⟨_,rfl,_,_,rfl,rfl,mm,rfl,_,rfl,ite2 (fun _ => ⟨_,rfl,q _ _ (.w z) s1 (.w z) ⟨ex_name hz,(pt_word (d:=0) (wd_name hz)).le (by omega) (by omega)⟩⟩) (fun _ => ?_)⟩
    refine ⟨_,rfl,_,_,rfl,rfl,mm,rfl,_,rfl,ite2 (fun _ => ?_) (fun _ => ?_)⟩
    · obtain ⟨g,eg⟩:=at_ex (xs:=sgS.cps.toList) (i:=c / 12 % 3) (by omega) (by show c / 12 % 3 < 3; omega)
      obtain ⟨o1,o2,o3⟩:=ops_all _ (sg_all g (mem_at eg))
      refine ⟨_,rfl,_,_,rfl,rfl,⟨by decide,by decide⟩,_,_,rfl,rfl,(by show (0:Int) < 3; decide),sgS,_,g,rfl,rfl,by decide +kernel,eg,?_⟩
      refine ⟨_,rfl,_,rfl,log_small m2,_,rfl,_,rfl,(by show 4 ≤ sizeLine; decide),fun p hp => ?_⟩
      have t1:=same_new hp (.tup [.str ⟨#[g]⟩,.str (numS m),x,fv])
      refine q _ _ (.n (.w ⟨#[g]⟩ :: [.w (numS m),t,M])) (s1.trans t1) (.n upd_same (.cons (.w _) (.cons (.w _) (.cons (hx1.same t1) (.cons (hf.same t1) .nil))))) ⟨ex_good (p:=(.op ⟨#[g]⟩ m,1)) ?_ (fits_mem2 gd.fit lM.fit),?_⟩
      · rw [form_op o1 o2]
        simp only [op?,size_of m1 m2,Option.map_some]
      · exact (pt_node (wd_head o3) (pz_cons (pt_word (wd_num m2)) (pz_cons gt (pz_cons (lM.pt.le (Nat.le_refl _) (by omega)) pz_nil)))).le (by omega) (by omega)
    refine ⟨_,rfl,_,_,rfl,rfl,mm,rfl,_,rfl,ite2 (fun _ => ?_) (fun _ => ?_)⟩
    · obtain ⟨g,eg⟩:=at_ex (xs:=tsS.cps.toList) (i:=c / 12 % 2) (by omega) (by show c / 12 % 2 < 2; omega)
      obtain ⟨o1,o2,o3,o4⟩:=tst_all _ (ts_all g (mem_at eg))
      refine ⟨_,rfl,_,_,rfl,rfl,⟨by decide,by decide⟩,_,_,rfl,rfl,(by show (0:Int) < 2; decide),tsS,_,g,rfl,rfl,by decide +kernel,eg,?_⟩
      refine ⟨_,rfl,_,rfl,(by show 3 ≤ sizeLine; decide),fun p hp => ?_⟩
      have t1:=same_new hp (.tup [.str ⟨#[g]⟩,fv,x])
      refine q _ _ (.n (.w ⟨#[g]⟩ :: [M,t])) (s1.trans t1) (.n upd_same (.cons (.w _) (.cons (hf.same t1) (.cons (hx1.same t1) .nil)))) ⟨ex_good (p:=(.test ⟨#[g]⟩,0)) ?_ (fits_mem2 lM.fit gd.fit),?_⟩
      · rw [form_tst o1 o2 o3]
        rfl
      · exact (pt_node (wd_head o4) (pz_cons (lM.pt.le (Nat.le_refl _) (by omega)) (pz_cons gt pz_nil))).le (by omega) (by omega)
    refine ⟨_,rfl,_,_,rfl,rfl,mm,rfl,_,rfl,ite2 (fun _ => ?_) (fun _ => ?_)⟩
    · refine ⟨_,rfl,_,rfl,log_small m2,_,rfl,(by show 3 ≤ sizeLine; decide),fun p hp => ?_⟩
      have t1:=same_new hp (.tup [.str "as",.str (numS m),x])
      refine q _ _ (.n (.w "as" :: [.w (numS m),t])) (s1.trans t1) (.n upd_same (.cons (.w _) (.cons (.w _) (.cons (hx1.same t1) .nil)))) ⟨ex_good (p:=(.as_ m,1)) ?_ (fits_mem1 gd.fit),?_⟩
      · rw [show form? "as" [.w (numS m),t] = as? [.w (numS m),t] from by unfold form?; rw [if_neg (by decide +kernel),if_neg (by decide +kernel),if_neg (by decide +kernel),if_pos rfl]]
        simp only [as?,size_of m1 m2,Option.map_some]
      · exact (pt_node (wd_head (by decide +kernel)) (pz_cons (pt_word (wd_num m2)) (pz_cons gt pz_nil))).le (by omega) (by omega)
    refine ⟨_,rfl,_,_,rfl,rfl,mm,rfl,_,rfl,ite2 (fun _ => ?_) (fun _ => ?_)⟩
    · refine ⟨_,rfl,_,rfl,_,rfl,(by show 4 ≤ sizeLine; decide),fun p hp => ?_⟩
      have t1:=same_new hp (.tup [.str "if",fv,x,.str z])
      refine q _ _ (.n (.w "if" :: [M,t,.w z])) (s1.trans t1) (.n upd_same (.cons (.w _) (.cons (hf.same t1) (.cons (hx1.same t1) (.cons (.w _) .nil))))) ⟨ex_good (p:=(.br "if",0)) (form_brs (k:=3) (by decide +kernel) rfl) (fits_mem3 lM.fit gd.fit (ex_name hz)),?_⟩
      exact (pt_node (wd_head (by decide +kernel)) (pz_cons (lM.pt.le (Nat.le_refl _) (by omega)) (pz_cons gt (pz_cons (pt_word (wd_name hz)) pz_nil)))).le (by omega) (by omega)
    refine ⟨_,rfl,_,_,rfl,rfl,mm,rfl,_,rfl,ite2 (fun _ => ?_) (fun _ => ?_)⟩
    · refine ⟨_,rfl,_,rfl,_,rfl,(by show 4 ≤ sizeLine; decide),fun p hp => ?_⟩
      have t1:=same_new hp (.tup [.str "let",.str z,x,fv])
      refine q _ _ (.n (.w "let" :: [.w z,t,M])) (s1.trans t1) (.n upd_same (.cons (.w _) (.cons (.w _) (.cons (hx1.same t1) (.cons (hf.same t1) .nil))))) ⟨ex_good (p:=(.let_ z,1)) ?_ (fits_mem2 gd.fit lM.fit),?_⟩
      · rw [show form? "let" [.w z,t,M] = let? [.w z,t,M] from by unfold form?; rw [if_neg (by decide +kernel),if_neg (by decide +kernel),if_neg (by decide +kernel),if_neg (by decide +kernel),if_pos rfl]]
        simp only [let?,show name? (.w z) = some z from if_pos hz,Option.map_some]
      · exact (pt_node (wd_head (by decide +kernel)) (pz_cons (pt_word (wd_name hz)) (pz_cons gt (pz_cons (lM.pt.le (Nat.le_refl _) (by omega)) pz_nil)))).le (by omega) (by omega)
    refine ⟨_,rfl,_,_,rfl,rfl,mm,rfl,_,rfl,ite2 (fun _ => ?_) (fun _ => ?_)⟩
    · refine ⟨_,rfl,_,rfl,(by show 3 ≤ sizeLine; decide),fun p hp => ?_⟩
      have t1:=same_new hp (.tup [.str "two",x,fv])
      refine q _ _ (.n (.w "two" :: [t,M])) (s1.trans t1) (.n upd_same (.cons (.w _) (.cons (hx1.same t1) (.cons (hf.same t1) .nil)))) ⟨ex_good (p:=(.br "two",0)) (form_brs (k:=2) (by decide +kernel) rfl) (fits_mem2 gd.fit lM.fit),?_⟩
      exact (pt_node (wd_head (by decide +kernel)) (pz_cons gt (pz_cons (lM.pt.le (Nat.le_refl _) (by omega)) pz_nil))).le (by omega) (by omega)
    refine ⟨_,rfl,_,_,rfl,rfl,mm,_,_,rfl,rfl,_,rfl,ite2 (fun _ => ?_) (fun _ => ?_)⟩
    · refine ⟨(by show 2 ≤ sizeLine; decide),fun l hl0 => ?_⟩
      have t0:=same_new hl0 (.lst [.str "first",.str "second"])
      obtain ⟨h2,eh,hh⟩:∃ h2:Str,atI [V.str "first",V.str "second"] (c % 2) = some (.str h2) ∧ (h2,(1:Int)) ∈ brs ∧ h2 ∈ (["num","pair","lit","+","-","*","=","<","as","let","if","two","first","second"]:List Str):=by
        have r:c % 2 = 0 ∨ c % 2 = 1:=by omega
        rcases r with r | r <;> rw [r]
        · exact ⟨"first",rfl,by decide +kernel,by decide +kernel⟩
        · exact ⟨"second",rfl,by decide +kernel,by decide +kernel⟩
      refine ⟨_,rfl,_,_,rfl,rfl,(by show (0:Int) < 2; decide),l,_,_,.str h2,rfl,rfl,SqL.of upd_same,eh,_,rfl,(by show 2 ≤ sizeLine; decide),fun p hp => ?_⟩
      have t1:=t0.trans (same_new hp (.tup [.str h2,x]))
      refine q _ _ (.n (.w h2 :: [t])) (s1.trans t1) (.n upd_same (.cons (.w _) (.cons (hx1.same t1) .nil))) ⟨ex_good (p:=(.br h2,0)) (form_brs (k:=1) hh.1 rfl) (fits_mem1 gd.fit),?_⟩
      exact (pt_node (wd_head hh.2) (pz_cons gt pz_nil)).le (by omega) (by omega)
    refine ⟨_,rfl,_,_,rfl,rfl,mm,rfl,_,rfl,ite2 (fun _ => ?_) (fun _ => ?_)⟩
    · refine ⟨_,rfl,_,rfl,_,rfl,(by show 3 ≤ sizeLine; decide),fun p hp => ?_⟩
      have t1:=same_new hp (.tup [.str z,x,fv])
      have fn:∀ ts:List Tr,ts.length ≤ 4 → (∀ t ∈ ts,fitB false t = true) → fitB false (.n (.w z :: ts)) = true:=fun ts h4 ht => ex_good (form_name (far_name hz) h4) (by rw [List.drop_zero]; exact ht)
      refine ⟨_,rfl,_,_,rfl,rfl,⟨by decide,by decide⟩,_,_,rfl,rfl,(by show (0:Int) < 3; decide),_,_,rfl,rfl,_,rfl,p,_,rfl,SqT.of upd_same,?_⟩
      have r:c / 12 % 3 = 0 ∨ c / 12 % 3 = 1 ∨ c / 12 % 3 = 2:=by omega
      have cutN:∀ k:Nat,cutV [V.str z,x,fv] none (some (k:Int)) = [V.str z,x,fv].take k:=cut_to _
      rcases r with r | r | r <;> rw [r]
      · refine ⟨fun e => absurd e.2 (by show ¬ (HT.sIx 3 3 (some (1 + 0)) = 3); decide),fun _ p2 hp2 => ?_⟩
        have t2:=t1.trans (same_new hp2 (.tup (cutV [V.str z,x,fv] none (some (1 + 0)))))
        refine q _ _ (.n (.w z :: [])) (s1.trans t2) (.n (xs:=[.str z]) (by rw [upd_same]; exact congrArg (fun l => some (HO.tup l)) (cutN 1)) (.cons (.w _) .nil)) ⟨fn [] (by decide) (fun t ht => nomatch ht),?_⟩
        exact (pt_node (d:=0) (wd_name hz) pz_nil).le (by omega) (by omega)
      · refine ⟨fun e => absurd e.2 (by show ¬ (HT.sIx 3 3 (some (1 + 1)) = 3); decide),fun _ p2 hp2 => ?_⟩
        have t2:=t1.trans (same_new hp2 (.tup (cutV [V.str z,x,fv] none (some (1 + 1)))))
        refine q _ _ (.n (.w z :: [t])) (s1.trans t2) (.n (xs:=[.str z,x]) (by rw [upd_same]; exact congrArg (fun l => some (HO.tup l)) (cutN 2)) (.cons (.w _) (.cons (hx1.same t2) .nil))) ⟨fn [t] (by show 1 ≤ 4; decide) (fits_mem1 gd.fit),?_⟩
        exact (pt_node (wd_name hz) (pz_cons gt pz_nil)).le (by omega) (by omega)
      · refine ⟨fun _ => ?_,fun e => absurd ⟨by show HT.sIx 3 0 none = 0; decide,by show HT.sIx 3 3 (some (1 + 2)) = 3; decide⟩ e⟩
        refine q _ _ (.n (.w z :: [t,M])) (s1.trans t1) (.n upd_same (.cons (.w _) (.cons (hx1.same t1) (.cons (hf.same t1) .nil)))) ⟨fn [t,M] (by show 2 ≤ 4; decide) (fits_mem2 gd.fit lM.fit),?_⟩
        exact (pt_node (wd_name hz) (pz_cons gt (pz_cons (lM.pt.le (Nat.le_refl _) (by omega)) pz_nil))).le (by omega) (by omega)
    · refine ⟨_,rfl,_,_,rfl,rfl,⟨by decide,by decide⟩,_,rfl,fun H2 y s2 hy => ?_⟩
      have d1:(Str.ofString ".").length = 1:=by decide +kernel
      have y2:=(name_facts hy).2.1
      have z2:=(name_facts hz).2.1
      refine ⟨y,_,rfl,rfl,small (by rw [d1]; omega),_,rfl,_,z,rfl,rfl,small (by rw [len_app,d1]; omega),_,rfl,_,rfl,_,rfl,_,rfl,(by show 5 ≤ sizeLine; decide),fun p hp => ?_⟩
      have ew:(y ++ Str.ofString ".") ++ z = nearW y z:=(if_neg (name_ne hy)).symm
      have t1:=s2.trans (same_new hp (.tup [.str ((y ++ Str.ofString ".") ++ z),fv,.str z,x,fv]))
      refine q _ _ (.n (.w ((y ++ Str.ofString ".") ++ z) :: [M,.w z,t,M])) (s1.trans t1) (.n upd_same (.cons (.w _) (.cons (hf.same t1) (.cons (.w _) (.cons (hx1.same t1) (.cons (hf.same t1) .nil)))))) ⟨?_,?_⟩
      · rw [ew]
        refine ex_good (form_name (far_near hy hz) (by show 4 ≤ 4; decide)) fun u hu => ?_
        rw [List.drop_zero] at hu
        rcases List.mem_cons.mp hu with rfl | hu
        · exact lM.fit
        · exact fits_mem3 (ex_name hz) gd.fit lM.fit u hu
      · rw [ew]
        exact (pt_node (wd_far hy hz) (pz_cons (lM.pt.le (Nat.le_refl _) (by omega)) (pz_cons (pt_word (wd_name hz)) (pz_cons gt (pz_cons (lM.pt.le (Nat.le_refl _) (by omega)) pz_nil))))).le (by omega) (by omega)
  refine ⟨_,@pss_cons _ _ _ _ _ (ps_set (i:=2) scExOv.nd rfl (Or.inl rfl) (pe_call GS hr rfl mS kS bS .nil pass0 (pa_cons (pe_op op_fdiv (pv 0) pe_int) pa_nil)))
    (@pss_cons _ _ _ _ _ (ps_set (i:=3) scExOv.nd rfl (Or.inl rfl) (pe_tup (pa_cons pe_str (pa_cons (pe_callTy call_str_int rfl ms bootStr (pa_cons (pe_ix ix_list (pe_lst (pa_cons pe_int (pa_cons (pe_op op_sub (pv 2) pe_int) (pa_cons (pe_op op_mod (pe_op op_fdiv (pv 0) pe_int) (pv 2)) pa_nil)))) (pe_op op_mod (pe_op op_fdiv (pv 0) pe_int) pe_int) (fun _ _ => rfl)) pa_nil)) (pa_cons (pe_callTy call_str_int rfl ms bootStr (pa_cons (pv 2) pa_nil)) pa_nil)))))
    (@pss_cons _ _ _ _ _ (ps_set (i:=4) scExOv.nd rfl (Or.inl rfl) (pe_call GN hr rfl mN kN bN .nil pass0 (pa_cons (pe_op op_fdiv (pv 0) pe_int) pa_nil)))
    (@pss_cons _ _ _ _ _ (ps_set (i:=5) scExOv.nd rfl (Or.inl rfl) (pe_ix ix_list (pe_lst (pa_cons (pv 4) (pa_cons (pv 3) pa_nil))) (pe_op op_mod (pe_op op_fdiv (pv 0) pe_int) pe_int) (fun _ _ => rfl))) @d4))),?_⟩
  refine ⟨_,rfl,_,_,rfl,rfl,⟨by decide,by decide⟩,_,rfl,fun m m1 m2 => ?_⟩
  refine ⟨_,rfl,_,_,rfl,rfl,_,rfl,_,_,rfl,rfl,⟨by decide,by decide⟩,_,rfl,_,_,rfl,rfl,(by show (0:Int) < (m:Int); omega),(by show 3 ≤ sizeLine; decide),fun l hl => ?_⟩
  have s1:=same_new hl (.lst [.int 0,.int ((m:Int) - 1),.int (c / 10 % (m:Int))])
  obtain ⟨v,hv⟩:=at_int (ns:=[0,(m:Int) - 1,c / 10 % (m:Int)]) (i:=c / 120 % 3) (by omega) (by show c / 120 % 3 < 3; omega)
  have hm:=mem_at hv
  have hvr:0 ≤ v ∧ v < m:=by
    have m0:=Int.emod_nonneg (c / 10) (b:=(m:Int)) (by omega)
    have m1':=Int.emod_lt_of_pos (c / 10) (b:=(m:Int)) (by omega)
    obtain ⟨k,hk,e⟩:=List.mem_map.mp hm
    have e':k = v:=V.int.inj e
    simp only [List.mem_cons,List.mem_nil_iff,or_false] at hk
    rcases hk with hk | hk | hk <;> omega
  obtain ⟨k,rfl⟩:∃ k:Nat,v = k:=⟨v.toNat,by omega⟩
  refine ⟨_,rfl,_,_,rfl,rfl,⟨by decide,by decide⟩,_,_,rfl,rfl,(by show (0:Int) < 3; decide),l,_,_,.int k,rfl,rfl,SqL.of upd_same,hv,?_⟩
  refine ⟨k,rfl,log_small (show k ≤ 1000000000000000000 by omega),_,rfl,m,rfl,log_small m2,(by show 3 ≤ sizeLine; decide),fun p2 hp2 => ?_⟩
  have s3:=same_new hp2 (.tup [.str "lit",.str (numS k),.str (numS m)])
  refine ⟨_,rfl,_,_,rfl,rfl,⟨by decide,by decide⟩,_,rfl,fun H4 z s4 hz => ?_⟩
  refine ⟨_,rfl,_,rfl,(by show 2 ≤ sizeLine; decide),fun l5 hl5 => ?_⟩
  have s5:=same_new hl5 (.lst [.str z,.ref p2])
  have S:=s1.trans (s3.trans (s4.trans s5))
  have hL:TrAt K (upd H4 l5 (.lst [.str z,.ref p2])) (.ref p2) (.n [.w "lit",.w (numS k),.w (numS m)]):=.n (s5 _ _ (s4 _ _ upd_same)) (.cons (.w _) (.cons (.w _) (.cons (.w _) .nil)))
  have lL:Lf (.n [.w "lit",.w (numS k),.w (numS m)]):=lf_lit (by omega) m2
  obtain ⟨fv,M,hfv,hM,lM⟩:∃ fv M,atI [V.str z,V.ref p2] (c / 36 % 2) = some fv ∧ TrAt K (upd H4 l5 (.lst [.str z,.ref p2])) fv M ∧ Lf M:=by
    have r:c / 36 % 2 = 0 ∨ c / 36 % 2 = 1:=by omega
    rcases r with r | r <;> rw [r]
    · exact ⟨_,_,rfl,.w z,lf_word hz⟩
    · exact ⟨_,_,rfl,hL,lL⟩
  refine ⟨_,rfl,_,_,rfl,rfl,⟨by decide,by decide⟩,_,_,rfl,rfl,(by show (0:Int) < 2; decide),l5,_,_,fv,rfl,rfl,SqL.of upd_same,hfv,?_⟩
  exact k4 _ m _ _ z fv M S m1 m2 hL lL hz hM lM
end
end K18
namespace K18
open PySem L2
noncomputable def spLaw (K:PySem.W.Frag):Sp:=fun vs H Q _ => ∃ (a:Addr) (ns:List Int),vs = [.ref a] ∧ SqL K H a (ns.map V.int) ∧ ns.length ≤ 63 ∧ ∀ H',Q (.bl true) H'
theorem w1_cp:∀ (ps:List (List Nat)) (b:Bool) (c:Nat),c ∈ w1 b ps → c = 32 ∨ ∃ p ∈ ps,c ∈ p
  | [],_,c,h => by cases h
  | p :: r,b,c,h => by
    rw [w1] at h
    rcases List.mem_append.mp h with h | h
    · rcases List.mem_append.mp h with h | h
      · split at h
        · cases h
        · exact .inl (List.mem_singleton.mp h)
      · exact .inr ⟨p,.head _,h⟩
    · rcases w1_cp r _ c h with h | ⟨q,hq,hc⟩
      · exact .inl h
      · exact .inr ⟨q,.tail _ hq,hc⟩
theorem text_sok {t:Tr} (h:t.ok) (tok:∀ p ∈ t.flat,TokC p) {y:Str} (e:cps y = t.text):PyData.strOk y = true:=by
  refine (sok_iff y).mpr fun c hc => ?_
  have hc':c ∈ t.text:=by rw [← e]; exact hc
  rw [← w1_text h] at hc'
  rcases w1_cp _ _ c hc' with rfl | ⟨p,hp,hcp⟩
  · decide
  · exact (tok p hp).2.2 c hcp
theorem text_len {t:Tr} (h:(∀ p ∈ t.flat,TokC p)) (l:t.flat.length ≤ 200):t.text.length ≤ 6000:=by
  have h1:=text_wt t
  have h2:=sum_le (ps:=t.flat) fun p hp => (h p hp).1
  have h3:=wt_flat t
  omega
noncomputable def pairD (a:Str) (o:Option Str):PyData:=.tuple [.str a,match o with | some y => .str y | none => .none]
theorem pairD_eqv (a:Str) (o:Option Str):PyData.eqv (pairD a o) (pairD a o) = true:=by
  unfold pairD
  cases o with
  | none => simp [PyData.eqv,PyData.eqvAll]
  | some y => simp [PyData.eqv,PyData.eqvAll]
theorem pairD_sh {a:Str} {o:Option Str} (ha:PyData.strOk a = true) (ho:∀ y,o = some y → PyData.strOk y = true):SeqAt.shaped (pairD a o) = true:=by
  unfold SeqAt.shaped pairD
  cases o with
  | none => simp [PyData.canLay0,PyData.canLayAll0,ha,PyData.depth,PyData.depthAll]
  | some y => simp [PyData.canLay0,PyData.canLayAll0,ha,ho y rfl,PyData.depth,PyData.depthAll]
noncomputable def optV:Option Str → V
  | some y => .str y
  | none => .non
theorem pair_dat {K:PySem.W.Frag} {H:Hp} {p:Addr} {a:Str} {o:Option Str} (h:H p = some (.tup [.str a,optV o])):Dat K H (.ref p) (pairD a o):=by
  cases o with
  | none => exact .tup (SqT.of h) (.cons (.str a) (.cons .non .nil))
  | some y => exact .tup (SqT.of h) (.cons (.str a) (.cons (.str y) .nil))
theorem small2 {n:Nat} (h:n ≤ 1000000):n ≤ sizeLine:=Nat.le_of_lt (mid h)
noncomputable def Res (b:Bool) (z h0:Str) (o:Option Str):Prop:=(hgt 0 (Tk.toks (cps z)) ≠ some 0 ∧ h0 = "tree" ∧ o = none) ∨
  (hgt 0 (Tk.toks (cps z)) = some 0 ∧ ∃ ts,oks ts ∧ flats ts = Tk.toks (cps z) ∧ ((fit1 b ts = true ∧ h0 = "" ∧ ∃ t y,ts = [t] ∧ o = some y ∧ cps y = t.text) ∨ (fit1 b ts = false ∧ h0 = "form" ∧ o = none)))
noncomputable def spRead2 (K:PySem.W.Frag):Sp:=fun vs H Q _ => ∃ (z:Str) (b:Bool) (h0:Str) (o:Option Str),vs = [.str z,.bl b] ∧ TxOk z ∧ Res b z h0 o ∧ ∀ H' (p:Addr),Same H H' → H' p = some (.tup [.str h0,optV o]) → Q (.ref p) H'
theorem read2 {K:PySem.W.Frag} (vs:List V) (H:Hp) (Q:VK) (E:XK) (h:spRead2 K vs H Q E):spRead K vs H Q E:=by
  obtain ⟨z,b,h0,o,rfl,tx,res,q⟩:=h
  refine ⟨z,b,rfl,tx,fun bad H' p s hp => ?_,fun good ts ho hf => ⟨fun ft t et H' p y s ey hp => ?_,fun ff H' p s hp => ?_⟩⟩
  · rcases res with ⟨_,rfl,rfl⟩ | ⟨good,_⟩
    · exact q H' p s hp
    · exact absurd good bad
  · rcases res with ⟨bad,_⟩ | ⟨_,ts',ho',hf',res⟩
    · exact absurd good bad
    · obtain rfl:ts' = ts:=one_reading ho' ho (by rw [hf',hf])
      rcases res with ⟨_,rfl,t',y',et',rfl,ey'⟩ | ⟨h,_⟩
      · rw [et] at et'
        cases et'
        obtain rfl:y = y':=Tk.lst_inj (ey.trans ey'.symm)
        exact q H' p s hp
      · rw [h] at ft
        cases ft
  · rcases res with ⟨bad,_⟩ | ⟨_,ts',ho',hf',res⟩
    · exact absurd good bad
    · obtain rfl:ts' = ts:=one_reading ho' ho (by rw [hf',hf])
      rcases res with ⟨h,_⟩ | ⟨_,rfl,rfl⟩
      · rw [h] at ff
        cases ff
      · exact q H' p s hp
structure TkOk (us:List Str) (n:Nat):Prop where
  len:us.length ≤ n
  tok:∀ s ∈ us,TokL s
  bal:Bal 5 (us.map cps)
theorem TkOk.hgt {us:List Str} {n:Nat} (h:TkOk us n):hgt 0 (us.map cps) = some 0:=h.bal.hgt (by decide)
theorem TkOk.tokc {us:List Str} {n:Nat} (h:TkOk us n):∀ p ∈ us.map cps,TokC p:=fun p hp => by
  obtain ⟨s,hs,rfl⟩:=List.mem_map.mp hp
  have:=h.tok s hs
  exact ⟨by rw [cps_len]; exact this.1,this.2⟩
theorem TkOk.sms {us:List Str} {n:Nat} (h:TkOk us n) (hn:n ≤ 200) {ts:List Tr} (ho:oks ts) (hf:flats ts = us.map cps):Sms ts :=
  ⟨by rw [hf]; exact h.tokc,by rw [hf,List.length_map]; have:=h.len; omega,deps_le ho (by rw [hf]; exact h.hgt)⟩
theorem TkOk.tx {us:List Str} {n:Nat} (h:TkOk us n) (hn:n ≤ 199) {z:Str} (hz:Tk.toks (cps z) = us.map cps) (hl:z.length ≤ 8000):TxOk z :=
  ⟨by omega,by rw [hz]; exact h.tokc,by rw [hz,List.length_map]; have:=h.len; omega⟩
theorem tl_of {ws:List Str} {t:Tr} (e:ws.map cps = t.flat) (tok:∀ p ∈ t.flat,TokC p):∀ s ∈ ws,TokL s:=fun s hs => by
  have:=tok (cps s) (by rw [← e]; exact List.mem_map_of_mem hs)
  exact ⟨by rw [← cps_len]; exact this.1,this.2⟩
structure Gx (K:PySem.W.Frag) (H:Hp) (a:Addr) (ns:List Int) (b:Bool) (t0:Tr) (pg:Addr) (ws:List Str):Prop where
  sc:SqL K H a (ns.map V.int)
  gd:Gd b 3 t0
  pl:H pg = some (.lst (ws.map V.str))
  fl:ws.map cps = t0.flat
theorem Gx.same {K:PySem.W.Frag} {H H':Hp} {a:Addr} {ns:List Int} {b:Bool} {t0:Tr} {pg:Addr} {ws:List Str} (g:Gx K H a ns b t0 pg ws) (s:Same H H'):Gx K H' a ns b t0 pg ws:=⟨s.seq g.sc,g.gd,s _ _ g.pl,g.fl⟩
theorem Gx.tk {K:PySem.W.Frag} {H:Hp} {a:Addr} {ns:List Int} {b:Bool} {t0:Tr} {pg:Addr} {ws:List Str} (g:Gx K H a ns b t0 pg ws):TkOk ws 49 ∧ Bal 4 (ws.map cps) ∧ 1 ≤ ws.length:=by
  have hb:Bal 4 (ws.map cps):=by rw [g.fl]; exact (bal_flat g.gd.pt.ok).monos g.gd.pt.dep
  have hl:ws.length = t0.flat.length:=by rw [← g.fl,List.length_map]
  exact ⟨⟨by rw [hl]; exact g.gd.pt.len,tl_of g.fl g.gd.pt.tok,hb.mono⟩,hb,by rw [hl]; exact flat_pos t0⟩
section
variable {P:Program} {w:World} {K:PySem.W.Frag} {mg:Str → Option Value} {base:Heap}
noncomputable abbrev lwN:List Str:=["_law_script","_law_head","_law_is_kind_here","_law_tree","_law_k","_law_cell_here","_law_good","_law_tokens_here","_law_one","_law_trees_here","_law_text","_law_due","_law_bad"]
theorem scLaw:FnScope lwN ["_law_script"] (defScope sLaw):=⟨rfl,rfl,rfl,by decide +kernel,rfl,by decide +kernel,by decide +kernel⟩
noncomputable abbrev lwX (P:Program) (w:World) (K:PySem.W.Frag) (mg:Str → Option Value) (base:Heap) (f:Addr) (cdv:Value) (A:Around) (outer:List Env) (s:Shared) (H:Hp) (E:XK):Cx:=(cxOf CX0 P w K mg base lwN "law" (defScope sLaw) f cdv A outer s H E).nox
set_option maxHeartbeats 0 in
theorem law_10 {f fr ff fw:Addr} {fdr fdf fdw:FuncData} {cdv:Value} {A:Around} {outer:List Env} {s:Shared} {H:Hp} {E:XK} {Q:VK} (hr:Room 100 (lwX P w K mg base f cdv A outer s H E).A)
    (GR:FnOk P w K mg base CX0 100 fr fdr rdP (spRead2 K)) (bR:Binds K fdr rdP []) (kR:PySem.W.keepIn K (.ref fr) = true) (mR:mg "_law_read" = some (.ref fr))
    (GF:FnOk P w K mg base CX0 36 ff fdf ["_law_tree","_law_is_kind_here"] (spFits K)) (bF:Binds K fdf ["_law_tree","_law_is_kind_here"] []) (kF:PySem.W.keepIn K (.ref ff) = true) (mF:mg "_law_fits" = some (.ref ff))
    (GW:FnOk P w K mg base CX0 1 fw fdw ["_law_tokens_here"] (spWritten K)) (bW:Binds K fdw ["_law_tokens_here"] []) (kW:PySem.W.keepIn K (.ref fw) = true) (mW:mg "_law_written" = some (.ref fw))
    (ml:mg "len" = none) (q:∀ H',Q (.bl true) H'):∃ t,PSs (lwX P w K mg base f cdv A outer s H E) (List.drop 10 (defBody sLaw)) t ∧
      ∀ (H1:Hp) (a:Addr) (ns:List Int) (v1:Option V) (b:Bool) (v3 v4 v5 v8 v11 v12:Option V) (t0:Tr) (pg pt px:Addr) (ws us:List Str) (xs:List V) (ts:List Tr) (z:Str),Gx K H1 a ns b t0 pg ws → TkOk us 110 → H1 pt = some (.lst (us.map V.str)) → H1 px = some (.lst xs) → TrsAt K H1 xs ts → oks ts → flats ts = us.map cps → Tk.toks (cps z) = us.map cps → z.length ≤ 7000 →
        t { nx:=fun _ H' => Q .non H',rt:=Q } [some (.ref a),v1,some (.bl b),v3,v4,v5,some (.ref pg),some (.ref pt),v8,some (.ref px),some (.str z),v11,v12] H1:=by
  have hr1:Room 1 (lwX P w K mg base f cdv A outer s H E).A:=hr.mono (by decide)
  have hr36:Room 36 (lwX P w K mg base f cdv A outer s H E).A:=hr.mono (by decide)
  have hu:=hr.units
  obtain ⟨t12,d12,k12⟩:∃ t,PSs (lwX P w K mg base f cdv A outer s H E) (List.drop 12 (defBody sLaw)) t ∧
      ∀ (H1:Hp) (a:Addr) (ns:List Int) (v1:Option V) (b:Bool) (v3 v4 v5 v8 v9 v12:Option V) (t0:Tr) (pg pt pd:Addr) (ws us:List Str) (ts:List Tr) (z h0:Str) (o:Option Str),Gx K H1 a ns b t0 pg ws → TkOk us 110 → oks ts → flats ts = us.map cps → Tk.toks (cps z) = us.map cps → z.length ≤ 7000 → H1 pd = some (.tup [.str h0,optV o]) →
        ((fit1 b ts = true ∧ h0 = "" ∧ ∃ t y,ts = [t] ∧ o = some y ∧ cps y = t.text) ∨ (fit1 b ts = false ∧ h0 = "form" ∧ o = none)) →
        t { nx:=fun _ H' => Q .non H',rt:=Q } [some (.ref a),v1,some (.bl b),v3,v4,v5,some (.ref pg),some (.ref pt),v8,v9,some (.str z),some (.ref pd),v12] H1:=by
    refine ⟨_,pss_cons (ps_if (PW.pt (pw_or (pt_cmpR (op_neD hu) (pe_call GR hr rfl mR kR bR .nil pass0 (pa_cons (pv 10) (pa_cons (pv 2) pa_nil))) (pv 11) (nomark _)) (pw_or1 (pt_cmpR (op_neD hu) (pe_call GR hr rfl mR kR bR .nil pass0 (pa_cons (pe_call GW hr1 rfl mW kW bW .nil pass0 (pa_cons (pv 6) pa_nil)) (pa_cons (pv 2) pa_nil))) (pe_tup (pa_cons pe_str (pa_cons (pe_call GW hr1 rfl mW kW bW .nil pass0 (pa_cons (pv 6) pa_nil)) pa_nil))) (nomark _))))) (pss_one (ps_ret pe_bl)) pss_nil)
      (pss_cons (ps_set (i:=12) scLaw.nd rfl (Or.inl rfl) (pe_lst (pa_cons (pe_ix ix_tup (pe_call GR hr rfl mR kR bR .nil pass0 (pa_cons (pe_op op_add_str (pv 10) pe_str) (pa_cons (pv 2) pa_nil))) pe_int (fun _ _ => rfl)) (pa_cons (pe_ix ix_tup (pe_call GR hr rfl mR kR bR .nil pass0 (pa_cons (pe_op op_add_str pe_str (pv 10)) (pa_cons (pv 2) pa_nil))) pe_int (fun _ _ => rfl)) pa_nil))))
      (pss_one (ps_ret (pe_and (pe_cmpR (op_eqD hu) (pv 12) (pe_lst (pa_cons pe_str (pa_cons pe_str pa_nil))) (nomark _)) (pe_one (pe_cmpR (op_eqD hu) (pe_call GR hr rfl mR kR bR .nil pass0 (pa_cons (pv 10) (pa_cons (pv 2) pa_nil))) (pv 11) (nomark _))))))),?_⟩
    intro H1 a ns v1 b v3 v4 v5 v8 v9 v12 t0 pg pt pd ws us ts z h0 o G T ho hf hz hzl hd hcase
    have sok0:PyData.strOk h0 = true:=by rcases hcase with ⟨_,rfl,_⟩ | ⟨_,rfl,_⟩ <;> decide +kernel
    have smt:=T.sms (by decide) ho hf
    have soko:∀ y,o = some y → PyData.strOk y = true:=fun y e => by
      rcases hcase with ⟨_,_,t,y',et,eo,ey⟩ | ⟨_,_,eo⟩
      · rw [eo] at e
        cases e
        subst et
        exact text_sok ho.1 smt.head.tok ey
      · rw [eo] at e
        cases e
    have shd:=pairD_sh sok0 soko
    have txz:=T.tx (by decide) hz (by omega)
    have hgz:hgt 0 (Tk.toks (cps z)) = some 0:=by rw [hz]; exact T.hgt
    have res:Res b z h0 o:=.inr ⟨hgz,ts,ho,by rw [hf,hz],hcase⟩
    obtain ⟨gk,_,gl⟩:=G.tk
    have gp:=G.gd.pt
    have tx0:=text_len gp.tok (by have:=gp.len; omega)
    have wl:ws.length ≤ 49:=gk.len
    refine ⟨_,rfl,_,rfl,z,b,h0,o,rfl,txz,res,fun H2 p2 s2 hp2 => ?_⟩
    refine ⟨_,rfl,_,_,pair_dat hp2,pair_dat (s2 _ _ hd),shd,shd,?_⟩
    show ∃ k,V.bl (!PyData.eqv (pairD h0 o) (pairD h0 o)) = .bl k ∧ _
    rw [pairD_eqv]
    refine ⟨_,rfl,iteF ?_⟩
    refine ⟨_,rfl,pg,ws,t0,rfl,SqL.of (s2 _ _ G.pl),G.fl,gp.ok,by omega,by omega,fun y ey => ?_⟩
    have ty:Tk.toks (cps y) = t0.flat:=by rw [ey]; exact toks_text gp.ok
    have ly:y.length ≤ 6000:=by rw [← cps_len,ey]; exact tx0
    have hgy:hgt 0 (Tk.toks (cps y)) = some 0:=by rw [ty,← G.fl]; exact gk.hgt
    refine ⟨_,rfl,y,b,"",some y,rfl,gk.tx (by decide) (by rw [ty,G.fl]) (by omega),.inr ⟨hgy,[t0],⟨gp.ok,True.intro⟩,by rw [ty,flats_one],.inl ⟨G.gd.fit,rfl,t0,y,rfl,rfl,ey⟩⟩,fun H3 p3 s3 hp3 => ?_⟩
    · have s23:=s2.trans s3
      refine ⟨_,rfl,pg,ws,t0,rfl,SqL.of (s23 _ _ G.pl),G.fl,gp.ok,by omega,by omega,fun y4 ey4 => ⟨(by show 2 ≤ sizeLine; decide),fun p5 hp5 => ?_⟩⟩
      have e4:y4 = y:=Tk.lst_inj (ey4.trans ey.symm)
      subst e4
      have s5:=same_new hp5 (.tup [.str "",.str y4])
      have sh5:SeqAt.shaped (pairD "" (some y4)) = true:=pairD_sh (by decide +kernel) fun y e => by cases e; exact text_sok gp.ok gp.tok ey
      refine ⟨_,_,pair_dat (o:=some y4) (s5 _ _ hp3),pair_dat (o:=some y4) upd_same,sh5,sh5,?_⟩
      show ∃ k,V.bl (!PyData.eqv (pairD "" (some y4)) (pairD "" (some y4))) = .bl k ∧ _
      rw [pairD_eqv]
      refine ⟨_,rfl,iteF ?_⟩
      have S5:=s23.trans s5
      have one1:(Str.ofString "(").length = 1:=by decide +kernel
      have one2:(Str.ofString ")").length = 1:=by decide +kernel
      have tz1:Tk.toks (cps (z ++ Str.ofString "(")) = us.map cps ++ [[40]]:=by
        rw [cps_app,← hz]
        show Tk.toks (cps z ++ 40 :: []) = _
        rw [Tk.toks_op]
        rfl
      have tz2:Tk.toks (cps (Str.ofString ")" ++ z)) = [41] :: us.map cps:=by
        rw [cps_app,← hz]
        show Tk.toks ([] ++ 41 :: cps z) = _
        rw [Tk.toks_cl]
        rfl
      have bad1:hgt 0 (Tk.toks (cps (z ++ Str.ofString "("))) ≠ some 0:=by
        rw [tz1,hgt_app,T.hgt]
        decide
      have bad2:hgt 0 (Tk.toks (cps (Str.ofString ")" ++ z))) ≠ some 0:=by
        rw [tz2,hgt,if_neg (by decide),if_pos rfl,if_pos rfl]
        intro e
        cases e
      have tx1:TxOk (z ++ Str.ofString "("):=by
        refine ⟨by rw [len_app,one1]; omega,?_,?_⟩
        · rw [tz1]
          intro p hp
          rcases List.mem_append.mp hp with hp | hp
          · exact T.tokc p hp
          · rw [List.mem_singleton.mp hp]
            exact tokc_op
        · rw [tz1,List.length_append,List.length_map]
          have:=T.len
          show _ + 1 ≤ 200
          omega
      have tx2:TxOk (Str.ofString ")" ++ z):=by
        refine ⟨by rw [len_app,one2]; omega,?_,?_⟩
        · rw [tz2]
          intro p hp
          rcases List.mem_cons.mp hp with rfl | hp
          · exact tokc_cl
          · exact T.tokc p hp
        · rw [tz2,List.length_cons,List.length_map]
          have:=T.len
          omega
      refine ⟨_,rfl,z,_,rfl,rfl,small2 (by rw [one1]; omega),_,rfl,_,b,"tree",none,rfl,tx1,.inl ⟨bad1,rfl,rfl⟩,fun H6 p6 s6 hp6 => ?_⟩
      refine ⟨p6,_,_,.str "tree",rfl,rfl,SqT.of hp6,at0,_,rfl,_,z,rfl,rfl,small2 (by rw [one2]; omega),_,rfl,_,b,"tree",none,rfl,tx2,.inl ⟨bad2,rfl,rfl⟩,fun H7 p7 s7 hp7 => ?_⟩
      refine ⟨p7,_,_,.str "tree",rfl,rfl,SqT.of hp7,at0,(by show 2 ≤ sizeLine; decide),fun l8 hl8 => ?_⟩
      have s8:=same_new hl8 (.lst [.str "tree",.str "tree"])
      refine ⟨_,rfl,(by show 2 ≤ sizeLine; decide),fun l9 hl9 => ?_⟩
      have s9:=same_new hl9 (.lst [.str "tree",.str "tree"])
      have S9:=S5.trans (s6.trans (s7.trans (s8.trans s9)))
      have shl:SeqAt.shaped (.list [.str "tree",.str "tree"]) = true:=by decide +kernel
      refine ⟨.list [.str "tree",.str "tree"],.list [.str "tree",.str "tree"],.lst (SqL.of (s9 _ _ upd_same)) (.cons (.str _) (.cons (.str _) .nil)),.lst (SqL.of upd_same) (.cons (.str _) (.cons (.str _) .nil)),shl,shl,?_⟩
      show ∃ c,V.bl (PyData.eqv (.list [.str "tree",.str "tree"]) (.list [.str "tree",.str "tree"])) = .bl c ∧ _
      rw [show PyData.eqv (.list [.str "tree",.str "tree"]) (.list [.str "tree",.str "tree"]) = true from by decide +kernel]
      refine ⟨_,rfl,iteT ⟨_,rfl,_,rfl,z,b,h0,o,rfl,txz,res,fun H10 p10 s10 hp10 => ?_⟩⟩
      refine ⟨_,rfl,_,_,pair_dat hp10,pair_dat (s10 _ _ (S9 _ _ hd)),shd,shd,?_⟩
      show Q (.bl (PyData.eqv (pairD h0 o) (pairD h0 o))) H10
      rw [pairD_eqv]
      exact q _
  refine ⟨_,@pss_cons _ _ _ _ _ (ps_set (i:=11) scLaw.nd rfl (Or.inl rfl) (pe_tup (pa_cons pe_str (pa_cons pe_non pa_nil))))
    (@pss_cons _ _ _ _ _ (ps_if (PW.pt (pw_and (pt_cmpR op_eq (pe_callB call_len_seq rfl ml PySem.boot_len (pa_cons (pv 9) pa_nil)) pe_int (nomark _)) (pw_and1 (pt_val (pe_call GF hr36 rfl mF kF bF .nil pass0 (pa_cons (pe_ix ix_list (pv 9) pe_int (fun _ _ => rfl)) (pa_cons (pv 2) pa_nil)))))))
      (pss_one (ps_set (i:=11) scLaw.nd rfl (Or.inl rfl) (pe_tup (pa_cons pe_str (pa_cons (pe_call GW hr1 rfl mW kW bW .nil pass0 (pa_cons (pv 7) pa_nil)) pa_nil))))) pss_nil) @d12),?_⟩
  intro H1 a ns v1 b v3 v4 v5 v8 v11 v12 t0 pg pt px ws us xs ts z G T hpt hpx hxs ho hf hz hzl
  have smt:=T.sms (by decide) ho hf
  have xl:=hxs.length
  refine ⟨(by show 2 ≤ sizeLine; decide),fun pd hpd => ?_⟩
  have s1:=same_new hpd (.tup [.str "form",.non])
  have no:∀ H2,Same (upd H1 pd (.tup [.str "form",.non])) H2 → fit1 b ts = false → t12 { nx:=fun _ H' => Q .non H',rt:=Q } [some (.ref a),v1,some (.bl b),v3,v4,v5,some (.ref pg),some (.ref pt),v8,some (.ref px),some (.str z),some (.ref pd),v12] H2:=fun H2 s2 ff =>
    k12 H2 a ns v1 b v3 v4 v5 v8 _ v12 t0 pg pt pd ws us ts z "form" none (G.same (s1.trans s2)) T ho hf hz hzl (s2 _ _ upd_same) (.inr ⟨ff,rfl,rfl⟩)
  refine ⟨_,rfl,px,_,rfl,.inl (SqL.of (s1 _ _ hpx)),rfl,_,rfl,ite2 (fun c => ?_) (fun c => iteF (no _ (Same.refl _) ?_))⟩
  · have c':(xs.length:Int) = 1:=V.int.inj (of_decide_eq_true c)
    have l1:ts.length = 1:=by omega
    match ts,l1,xs,hxs,ho,hf,smt,no with
    | [t],_,[y],.cons hy .nil,ho,hf,smt,no =>
      refine ⟨_,rfl,px,_,_,y,rfl,rfl,SqL.of (s1 _ _ hpx),rfl,_,rfl,y,t,b,rfl,hy.same s1,smt.head,fun H2 s2 => ⟨_,rfl,?_⟩⟩
      cases ef:fitB b t with
      | false => exact iteF (no H2 s2 ef)
      | true =>
        have S2:=s1.trans s2
        have tl:=text_len smt.head.tok smt.head.len
        have ul:=T.len
        refine iteT ⟨_,rfl,pt,us,t,rfl,SqL.of (S2 _ _ hpt),by rw [← hf,flats_one],ho.1,by omega,by omega,fun y2 ey2 => ⟨(by show 2 ≤ sizeLine; decide),fun p5 hp5 => ?_⟩⟩
        have s5:=same_new hp5 (.tup [.str "",.str y2])
        exact k12 _ a ns v1 b v3 v4 v5 v8 _ v12 t0 pg pt p5 ws us [t] z "" (some y2) (G.same (S2.trans s5)) T ho hf hz hzl upd_same (.inl ⟨ef,rfl,t,y2,rfl,rfl,ey2⟩)
  · match ts,xl with
    | [],_ => rfl
    | [_],xl => exact absurd (decide_eq_true (by rw [xl]; rfl)) c
    | _ :: _ :: _,_ => rfl
end
end K18
namespace K18
open PySem L2
section
variable {P:Program} {w:World} {K:PySem.W.Frag} {mg:Str → Option Value} {base:Heap}
theorem idx2 (l1 l2:Addr) (i:Int) (h:i = 0 ∨ i = 1):∃ v,atI [V.ref l1,V.ref l2] i = some v ∧ (v = .ref l1 ∨ v = .ref l2):=by
  rcases h with rfl | rfl
  · exact ⟨_,rfl,.inl rfl⟩
  · exact ⟨_,rfl,.inr rfl⟩
set_option maxHeartbeats 0 in
theorem ok_law {f fc fn fk fe fto fs ft fo ff fl fr fw:Addr} {fd fdc fdn fdk fde fdto fds fdt fdo fdf fdl fdr fdw:FuncData} (F:Fun K "law" "law" sLaw f fd)
    (GC:FnOk P w K mg base CX0 1 fc fdc ["_law_script","_law_k"] (spCell K)) (bC:Binds K fdc ["_law_script","_law_k"] []) (kC:PySem.W.keepIn K (.ref fc) = true) (mC:mg "_law_cell" = some (.ref fc))
    (GN:FnOk P w K mg base CX0 1 fn fdn ["_law_cell_here"] spNameL) (bN:Binds K fdn ["_law_cell_here"] []) (kN:PySem.W.keepIn K (.ref fn) = true) (mN:mg "_law_name" = some (.ref fn))
    (GK:FnOk P w K mg base CX0 2 fk fdk koP (spKindOv K)) (bK:Binds K fdk koP []) (kK:PySem.W.keepIn K (.ref fk) = true) (mK:mg "_law_kind_over" = some (.ref fk))
    (GE:FnOk P w K mg base CX0 2 fe fde koP (spExOv K)) (bE:Binds K fde koP []) (kE:PySem.W.keepIn K (.ref fe) = true) (mE:mg "_law_expression_over" = some (.ref fe))
    (GTo:FnOk P w K mg base CX0 6 fto fdto ["_law_tree"] (spTokens K 6)) (bTo:Binds K fdto ["_law_tree"] []) (kTo:PySem.W.keepIn K (.ref fto) = true) (mTo:mg "_law_tokens" = some (.ref fto))
    (GS:FnOk P w K mg base CX0 1 fs fds slP (spSpoil K)) (bS:Binds K fds slP []) (kS:PySem.W.keepIn K (.ref fs) = true) (mS:mg "_law_spoiled" = some (.ref fs))
    (GT:FnOk P w K mg base CX0 1 ft fdt ["_law_tokens_here"] (spTreesL K)) (bT:Binds K fdt ["_law_tokens_here"] []) (kT:PySem.W.keepIn K (.ref ft) = true) (mT:mg "_law_trees" = some (.ref ft))
    (GO:FnOk P w K mg base CX0 99 fo fdo otP (spOfTree K)) (bO:Binds K fdo otP []) (kO:PySem.W.keepIn K (.ref fo) = true) (mO:mg "_law_of_tree" = some (.ref fo))
    (GF:FnOk P w K mg base CX0 36 ff fdf ["_law_tree","_law_is_kind_here"] (spFits K)) (bF:Binds K fdf ["_law_tree","_law_is_kind_here"] []) (kF:PySem.W.keepIn K (.ref ff) = true) (mF:mg "_law_fits" = some (.ref ff))
    (GL:FnOk P w K mg base CX0 1 fl fdl ["_law_tokens_here","_law_cell_here"] (spLoose K)) (bL:Binds K fdl ["_law_tokens_here","_law_cell_here"] []) (kL:PySem.W.keepIn K (.ref fl) = true) (mL:mg "_law_loose" = some (.ref fl))
    (GR:FnOk P w K mg base CX0 100 fr fdr rdP (spRead K)) (bR:Binds K fdr rdP []) (kR:PySem.W.keepIn K (.ref fr) = true) (mR:mg "_law_read" = some (.ref fr))
    (GW:FnOk P w K mg base CX0 1 fw fdw ["_law_tokens_here"] (spWritten K)) (bW:Binds K fdw ["_law_tokens_here"] []) (kW:PySem.W.keepIn K (.ref fw) = true) (mW:mg "_law_written" = some (.ref fw))
    (ml:mg "len" = none) (mr:mg "range" = none):FnOk P w K mg base CX0 101 f fd ["_law_script"] (spLaw K):=by
  refine F.ok scLaw (fun vs H Q E h => ?_) (fun cdv A outer s H vs Q E hr h => ?_)
  · obtain ⟨a,ns,rfl,_⟩:=h
    rfl
  obtain ⟨a,ns,rfl,hsc,h63,q⟩:=h
  have hr1:Room 1 _:=hr.mono (by decide)
  have hr2:Room 2 _:=hr.mono (by decide)
  have hr6:Room 6 _:=hr.mono (by decide)
  have hr36:Room 36 _:=hr.mono (by decide)
  have hr99:Room 99 _:=hr.mono (by decide)
  obtain ⟨t10,d10,k10⟩:=law_10 (K:=K) (Q:=Q) (s:=s) (H:=H) (E:=E) (cdv:=cdv) (A:=A) (outer:=outer) (f:=f) hr (GR.imp read2) bR kR mR GF bF kF mF GW bW kW mW ml q
  obtain ⟨t8,d8,k8⟩:∃ t,PSs (lwX P w K mg base f cdv A outer s H E) (List.drop 8 (defBody sLaw)) t ∧
      ∀ (H1:Hp) (v1:Option V) (b:Bool) (v3 v4 v5 v8:Option V) (t0:Tr) (pg pt:Addr) (ws us:List Str),Gx K H1 a ns b t0 pg ws → TkOk us 110 → H1 pt = some (.lst (us.map V.str)) →
        t { nx:=fun _ H' => Q .non H',rt:=Q } [some (.ref a),v1,some (.bl b),v3,v4,v5,some (.ref pg),some (.ref pt),v8,none,none,none,none] H1:=by
    refine ⟨_,@pss_cons _ _ _ _ _ (ps_set (i:=9) scLaw.nd rfl (Or.inl rfl) (pe_call GT hr1 rfl mT kT bT .nil pass0 (pa_cons (pv 7) pa_nil)))
      (@pss_cons _ _ _ _ _ (ps_set (i:=10) scLaw.nd rfl (Or.inl rfl) (pe_call GL hr1 rfl mL kL bL .nil pass0 (pa_cons (pv 7) (pa_cons (pe_call GC hr1 rfl mC kC bC .nil pass0 (pa_cons (pv 0) (pa_cons pe_int pa_nil))) pa_nil)))) @d10),?_⟩
    intro H1 v1 b v3 v4 v5 v8 t0 pg pt ws us G T hpt
    have ul:=T.len
    refine ⟨_,rfl,pt,us,rfl,SqL.of hpt,by omega,T.tok,T.hgt,fun H2 px xs ts s2 hpx hxs ho hf => ?_⟩
    refine ⟨_,rfl,_,rfl,a,ns,4,rfl,s2.seq G.sc,h63,by decide,by decide,fun c => ?_⟩
    refine ⟨pt,us,c,rfl,SqL.of (s2 _ _ hpt),by omega,T.tok,fun H3 z s3 hz hzl => ?_⟩
    have s23:=s2.trans s3
    exact k10 H3 a ns v1 b v3 v4 v5 v8 none none t0 pg pt px ws us xs ts z (G.same s23) T (s23 _ _ hpt) (s3 _ _ hpx) (hxs.same s3) ho hf hz (by omega)
  obtain ⟨t7,d7,k7⟩:∃ t,PSs (lwX P w K mg base f cdv A outer s H E) (List.drop 7 (defBody sLaw)) t ∧
      ∀ (H1:Hp) (hd:Int) (b:Bool) (v3 v4 v5 v8:Option V) (t0:Tr) (pg pt:Addr) (ws us:List Str),Gx K H1 a ns b t0 pg ws → TkOk us 51 → H1 pt = some (.lst (us.map V.str)) →
        t { nx:=fun _ H' => Q .non H',rt:=Q } [some (.ref a),some (.int hd),some (.bl b),v3,v4,v5,some (.ref pg),some (.ref pt),v8,none,none,none,none] H1:=by
    refine ⟨_,@pss_cons _ _ _ _ _ (ps_if (pt_cmpR op_eq (pe_op op_mod (pe_op op_fdiv (pv 1) pe_int) pe_int) pe_int (nomark _)) (pss_one (ps_set (i:=7) scLaw.nd rfl (Or.inl rfl) (pe_ix ix_list (pe_lst (pa_cons (pe_lst pa_nil) (pa_cons (pe_op op_cat (pv 7) (pv 6)) pa_nil))) (pe_op op_mod (pe_op op_fdiv (pv 1) pe_int) pe_int) (fun _ _ => rfl)))) pss_nil) @d8,?_⟩
    intro H1 hd b v3 v4 v5 v8 t0 pg pt ws us G T hpt
    obtain ⟨gk,_,_⟩:=G.tk
    have ul:=T.len
    have wl:=gk.len
    refine ⟨_,rfl,_,_,rfl,rfl,⟨by decide,by decide⟩,_,_,rfl,rfl,(by show (0:Int) < 9; decide),rfl,_,rfl,ite2 (fun _ => ?_) (fun _ => k8 H1 _ b v3 v4 v5 v8 t0 pg pt ws us G ⟨by omega,T.tok,T.bal⟩ hpt)⟩
    refine ⟨(by show 0 ≤ sizeLine; decide),fun l1 n1 => ?_⟩
    have z1:=same_new n1 (.lst [])
    refine ⟨_,rfl,_,rfl,pt,pg,_,_,rfl,rfl,z1 _ _ hpt,z1 _ _ G.pl,small (by rw [List.length_map,List.length_map]; omega),fun l2 n2 => ⟨(by show 2 ≤ sizeLine; decide),fun l3 n3 => ?_⟩⟩
    have z2:=same_new n2 (.lst (us.map V.str ++ ws.map V.str))
    have z3:=same_new n3 (.lst [.ref l1,.ref l2])
    have S:=z1.trans (z2.trans z3)
    obtain ⟨v,hv,hor⟩:=idx2 l1 l2 (hd / 27 % 2) (by omega)
    refine ⟨_,rfl,_,_,rfl,rfl,⟨by decide,by decide⟩,_,_,rfl,rfl,(by show (0:Int) < 2; decide),l3,_,_,v,rfl,rfl,SqL.of upd_same,hv,?_⟩
    rcases hor with rfl | rfl
    · exact k8 _ _ b v3 v4 v5 v8 t0 pg l1 ws [] (G.same S) ⟨Nat.zero_le _,(fun s hs => (nomatch hs)),rfl⟩ (z3 _ _ (z2 _ _ upd_same))
    · refine k8 _ _ b v3 v4 v5 v8 t0 pg l2 ws (us ++ ws) (G.same S) ⟨by rw [List.length_append]; omega,fun s hs => ?_,?_⟩ (by rw [List.map_append]; exact z3 _ _ upd_same)
      · rcases List.mem_append.mp hs with hs | hs
        · exact T.tok s hs
        · exact gk.tok s hs
      · rw [List.map_append]
        exact bal_app T.bal gk.bal
  obtain ⟨t6,d6,k6⟩:∃ t,PSs (lwX P w K mg base f cdv A outer s H E) (List.drop 6 (defBody sLaw)) t ∧
      ∀ (H1:Hp) (hd:Int) (b:Bool) (v3 v4 v5:Option V) (t0:Tr) (pg:Addr) (ws:List Str),Gx K H1 a ns b t0 pg ws →
        t { nx:=fun _ H' => Q .non H',rt:=Q } [some (.ref a),some (.int hd),some (.bl b),v3,v4,v5,some (.ref pg),some (.ref pg),none,none,none,none,none] H1:=by
    refine ⟨_,@pss_cons _ _ _ _ _ (ps_for PassesOwn.never rfl (pi_range1 rfl mr (pa_cons pe_int pa_nil)) (pg_name (i:=4) scLaw.nd rfl (Or.inl rfl))
      (pss_cons (ps_set (i:=5) scLaw.nd rfl (Or.inl rfl) (pe_call GC hr1 rfl mC kC bC .nil pass0 (pa_cons (pv 0) (pa_cons (pe_op op_add pe_int (pv 4)) pa_nil))))
      (pss_cons (ps_set (i:=7) scLaw.nd rfl (Or.inl rfl) (pe_call GS hr1 rfl mS kS bS .nil pass0 (pa_cons (pv 6) (pa_cons (pe_op op_mod (pv 5) pe_int) (pa_cons (pe_op op_fdiv (pv 5) pe_int) pa_nil)))))
      (pss_one (ps_for PassesOwn.never rfl (pi_list (pe_call GT hr1 rfl mT kT bT .nil pass0 (pa_cons (pv 7) pa_nil))) (pg_name (i:=8) scLaw.nd rfl (Or.inl rfl))
        (pss_one (ps_if (pt_cmpR op_eq (pe_call GO hr99 rfl mO kO bO .nil pass0 (pa_cons (pv 8) (pa_cons (pv 2) pa_nil))) (pe_call GF hr36 rfl mF kF bF .nil pass0 (pa_cons (pv 8) (pa_cons (pv 2) pa_nil))) (nomark _)) (pss_one (ps_ret pe_bl)) pss_nil))))))) @d7,?_⟩
    intro H1 hd b v3 v4 v5 t0 pg ws G
    obtain ⟨gk,gb,gl⟩:=G.tk
    refine ⟨6,rfl,by decide,by decide,for_range (lo:=0) (n:=(6:Int).toNat) (fun i σ H3 => ∃ (x4 x5 x8:Option V) (pt:Addr) (us:List Str),σ = [some (.ref a),some (.int hd),some (.bl b),v3,x4,x5,some (.ref pg),some (.ref pt),x8,none,none,none,none] ∧ Same H1 H3 ∧ TkOk us 51 ∧ H3 pt = some (.lst (us.map V.str)))
      ⟨_,_,_,pg,ws,rfl,Same.refl _,⟨by have:=gk.len; omega,gk.tok,gk.bal⟩,G.pl⟩ ?_ ?_⟩
    · rintro i σ H3 hi ⟨x4,x5,x8,pt,us,rfl,s3,T,hpt⟩
      have hi6:i < 6:=hi
      refine ⟨_,rfl,_,rfl,_,_,rfl,rfl,a,ns,_,rfl,(G.same s3).sc,h63,by omega,by omega,fun c => ?_⟩
      refine ⟨_,rfl,_,rfl,_,_,rfl,rfl,(by show (0:Int) < 8; decide),_,rfl,_,_,rfl,rfl,⟨by decide,by decide⟩,pg,ws,_,_,4,rfl,(G.same s3).pl,gl,by have:=gk.len; omega,gk.tok,gb,fun H4 l4 us4 s4 hl4 ul4 tk4 bal4 => ?_⟩
      have T4:TkOk us4 51:=⟨by have:=gk.len; omega,tk4,bal4⟩
      refine ⟨_,rfl,l4,us4,rfl,SqL.of hl4,by have:=T4.len; omega,tk4,T4.hgt,fun H5 px xs ts s5 hpx hxs ho hf => ?_⟩
      have sm:=T4.sms (by decide) ho hf
      have s34:=s3.trans (s4.trans s5)
      refine ⟨px,rfl,⟨_,SqL.of hpx⟩,for_list (K:=K) (xs:=xs) (fun j σ H6 => ∃ (y8:Option V),σ = [some (.ref a),some (.int hd),some (.bl b),v3,some (.int (0 + (i:Int))),some (.int c),some (.ref pg),some (.ref l4),y8,none,none,none,none] ∧ Same H5 H6)
        ⟨_,rfl,Same.refl _⟩ ?_ ?_ ?_⟩
      · rintro j σ H6 _ ⟨y8,rfl,s6⟩
        exact SqL.of (s6 _ _ hpx)
      · rintro j x σ H6 hj ⟨y8,rfl,s6⟩
        obtain ⟨t,ht,hxt⟩:=hxs.get hj
        have smt:=sm.mem (List.mem_of_getElem? ht)
        refine ⟨_,rfl,_,rfl,x,t,b,rfl,hxt.same s6,smt,fun H7 s7 => ?_⟩
        refine ⟨_,rfl,_,rfl,x,t,b,rfl,hxt.same (s6.trans s7),smt,fun H8 s8 => ⟨rfl,_,rfl,ite2 (fun e => ?_) (fun _ => ⟨_,rfl,s6.trans (s7.trans s8)⟩)⟩⟩
        have e':(!fitB b t) = fitB b t:=V.bl.inj (of_decide_eq_true e)
        cases h:fitB b t <;> rw [h] at e' <;> cases e'
      · rintro σ H6 ⟨y8,rfl,s6⟩
        exact ⟨_,_,_,l4,us4,rfl,s34.trans s6,T4,s6 _ _ (s5 _ _ hl4)⟩
    · rintro σ H3 ⟨x4,x5,x8,pt,us,rfl,s3,T,hpt⟩
      exact k7 H3 hd b v3 x4 x5 x8 t0 pg pt ws us (G.same s3) T hpt
  refine ⟨_,@pss_cons _ _ _ _ _ (ps_set (i:=1) scLaw.nd rfl (Or.inl rfl) (pe_call GC hr1 rfl mC kC bC .nil pass0 (pa_cons (pv 0) (pa_cons pe_int pa_nil))))
    (@pss_cons _ _ _ _ _ (ps_set (i:=2) scLaw.nd rfl (Or.inl rfl) (pe_cmpR op_eq (pe_op op_mod (pv 1) pe_int) pe_int (nomark _)))
    (@pss_cons _ _ _ _ _ (ps_set (i:=3) scLaw.nd rfl (Or.inl rfl) (pe_call GN hr1 rfl mN kN bN .nil pass0 (pa_cons (pe_op op_fdiv (pv 1) pe_int) pa_nil)))
    (@pss_cons _ _ _ _ _ (ps_for PassesOwn.never rfl (pi_range1 rfl mr (pa_cons pe_int pa_nil)) (pg_name (i:=4) scLaw.nd rfl (Or.inl rfl))
      (pss_cons (ps_set (i:=5) scLaw.nd rfl (Or.inl rfl) (pe_call GC hr1 rfl mC kC bC .nil pass0 (pa_cons (pv 0) (pa_cons (pe_op op_add pe_int (pv 4)) pa_nil))))
      (pss_one (ps_if (pt_val (pv 2)) (pss_one (ps_set (i:=3) scLaw.nd rfl (Or.inl rfl) (pe_call GK hr2 rfl mK kK bK .nil pass0 (pa_cons (pv 5) (pa_cons (pv 3) pa_nil))))) (pss_one (ps_set (i:=3) scLaw.nd rfl (Or.inl rfl) (pe_call GE hr2 rfl mE kE bE .nil pass0 (pa_cons (pv 5) (pa_cons (pv 3) pa_nil)))))))))
    (@pss_cons _ _ _ _ _ (ps_set (i:=6) scLaw.nd rfl (Or.inl rfl) (pe_call GTo hr6 rfl mTo kTo bTo .nil pass0 (pa_cons (pv 3) pa_nil)))
    (@pss_cons _ _ _ _ _ (ps_set (i:=7) scLaw.nd rfl (Or.inl rfl) (pv 6)) @d6))))),?_⟩
  refine ⟨_,rfl,a,ns,0,rfl,hsc,h63,by decide,by decide,fun hd => ?_⟩
  refine ⟨_,rfl,_,_,rfl,rfl,(by show (0:Int) < 3; decide),rfl,?_⟩
  generalize decide (V.int (hd % 3) = V.int 0) = b
  refine ⟨_,rfl,_,_,rfl,rfl,⟨by decide,by decide⟩,_,rfl,fun H1 z s1 hz => ?_⟩
  have g0:Gd b 0 (.w z):=by
    refine ⟨?_,(pt_word (d:=0) (wd_name hz)).le (by decide) (by decide)⟩
    cases b with
    | true => exact kd_far (far_name hz)
    | false => exact ex_name hz
  refine ⟨3,rfl,by decide,by decide,for_range (lo:=0) (n:=(3:Int).toNat) (fun i σ H3 => ∃ (x4 x5:Option V) (x:V) (t:Tr),σ = [some (.ref a),some (.int hd),some (.bl b),some x,x4,x5,none,none,none,none,none,none,none] ∧ Same H H3 ∧ TrAt K H3 x t ∧ Gd b i t)
    ⟨_,_,_,_,rfl,s1,.w z,g0⟩ ?_ ?_⟩
  · rintro i σ H3 hi ⟨x4,x5,x,t,rfl,s3,hx,g⟩
    have hi3:i < 3:=hi
    refine ⟨_,rfl,_,rfl,_,_,rfl,rfl,a,ns,_,rfl,s3.seq hsc,h63,by omega,by omega,fun c => ?_⟩
    cases b with
    | true => exact ⟨_,rfl,true,rfl,iteT ⟨_,rfl,_,rfl,c,x,t,i,rfl,hx,g,fun H4 v u s4 hv gu => ⟨_,_,_,_,rfl,s3.trans s4,hv,gu⟩⟩⟩
    | false => exact ⟨_,rfl,false,rfl,iteF ⟨_,rfl,_,rfl,c,x,t,i,rfl,hx,g,fun H4 v u s4 hv gu => ⟨_,_,_,_,rfl,s3.trans s4,hv,gu⟩⟩⟩
  · rintro σ H3 ⟨x4,x5,x,t,rfl,s3,hx,g⟩
    have gl:=g.pt.len
    have gdp:=g.pt.dep
    have e3:(3:Int).toNat = 3:=rfl
    rw [e3] at g gl gdp
    refine ⟨_,rfl,x,t,rfl,hx,by omega,by omega,fun H4 pg ws s4 _ hpg hfl => ?_⟩
    exact ⟨_,rfl,k6 H4 hd b _ _ _ t pg ws ⟨(s3.trans s4).seq hsc,g,hpg,hfl⟩⟩
end
end K18
namespace PySem.W.Fast
def tw16058947411001432456:=()
def tw4221422115303930504:=()
def tw16563426413274683581:=()
def tw14676885017033733144:=()
def tw2885833040804623077:=()
def tw10849199984198834711:=()
def tw6880922479677439481:=()
def tw576410866639742675:=()
def tw2503194314562059226:=()
def tw1209884138372346373:=()
def tw1192270284887717062:=()
def tw12476551592101191614:=()
def tw7436613741437609714:=()
def tw3333161623409486536:=()
def tw2583567246131618782:=()
def tw4492000309346765458:=()
def tw12780259840024736637:=()
def tw14242562105358446359:=()
def tw18283222786484240421:=()
def tw3182786222450768303:=()
def tw4286472159458931493:=()
def tw1053230029028161933:=()
def tw13549198503916879633:=()
def tw12089560348456462684:=()
def tw7259025637715507537:=()
def tw12250782127330984547:=()
def tw9516953725446499364:=()
def tw12288370312517206474:=()
def tw13189431185965709896:=()
def tw17075117379789742744:=()
def tw14005894182508952991:=()
def tw12434164018505123310:=()
def tw9599885525457814808:=()
def tw18021246902530060224:=()
def tw5000362239099029468:=()
def tw5245481534199555718:=()
def tw838662878585558409:=()
def tw14255922212556411324:=()
def tw10556364619364126092:=()
def tw9953304180298701648:=()
def tw2789199993264856820:=()
def tw9717778802561959487:=()
def tw14870800972548953295:=()
def tw8753239869928445551:=()
def tw1335744772174229668:=()
def tw18365635960692704604:=()
def tw15870551828959506839:=()
def tw16760162271079083432:=()
def tw16606354296361057837:=()
def tw10141527805406057629:=()
def tw8355262908885241744:=()
def tw17861176143405098315:=()
def tw1145061579446216325:=()
def tw12974662270066332383:=()
def tw5594578737745332790:=()
def tw1999013357548111322:=()
def tw14034925679112307648:=()
def tw2611371764495343567:=()
def tw115417341165930959:=()
def tw17322365653546643538:=()
def tw2319431350087288751:=()
def tw1916074847379399080:=()
def tw2422872196304081036:=()
def tw662975538043272214:=()
def tw6359769578439639849:=()
def tw3195351230184408507:=()
def tw17431704865612800697:=()
def tw16808856746972200256:=()
def tw3599355093953206640:=()
def tw10152009341151634287:=()
def tw11503992572898687331:=()
def tw564752118514831296:=()
def tw13341779063941735567:=()
def tw4035318990181295482:=()
def tw7384125496381511609:=()
def tw15924651410330877604:=()
def tw6046915206033786973:=()
def tw7291054149529337364:=()
def tw1479660302238749127:=()
def tw4944355076929466902:=()
def tw18375101270429977123:=()
def tw8548579041968198173:=()
def tw10624625182733177216:=()
def tw779362712032612761:=()
def tw7861724092906878798:=()
def tw11865523485983429267:=()
def tw14258434750719325737:=()
def tw13779723705369384902:=()
def tw11111008511208805565:=()
def tw14439184233559367323:=()
def tw12389726834457147150:=()
def tw13258584276399111385:=()
def tw3014978244598304774:=()
def tw960951745331981204:=()
def tw18054359808107526499:=()
def tw11787576153809952618:=()
def tw17252910500381580697:=()
def tw4138084454294090320:=()
def tw622855805657847419:=()
def tw5743883791598289978:=()
def tw16230148947253444795:=()
def tw15162810342912242861:=()
def tw4062839047257439826:=()
def tw14012238547478600681:=()
def tw6779391803605660500:=()
def tw12850488856767510427:=()
def tw17604754559948429945:=()
def tw18199868666146399099:=()
def tw11386492731405487806:=()
def tw4200133547261513409:=()
def tw10125515449403917995:=()
def tw740182693472953631:=()
def tw938833328236045744:=()
def tw4389877269806455701:=()
def tw734192678124460538:=()
def tw1536334796541099139:=()
def tw2652323647756210000:=()
def tw8521780277603719381:=()
def tw631089444033676472:=()
def tw16438006599945788334:=()
def tw8964881184861545087:=()
def tw9403039092372138338:=()
def tw5027060174708103362:=()
def tw7770561104982392174:=()
def tw13626883409151176137:=()
def tw15096316632963786847:=()
def tw17769625608643897093:=()
def tw16050092460047655579:=()
def tw13348452207643326106:=()
def tw18239067187502218196:=()
def tw3616186563797768474:=()
def tw9801669889548779271:=()
def tw13341122362689179089:=()
def tw8427041689452699151:=()
def tw9584603441767979904:=()
def tw6327590678376073211:=()
def tw16208794890903211041:=()
def tw10867764359450662574:=()
def tw16419119001519213006:=()
def tw2179733110246263262:=()
def tw10284631944801475557:=()
def tw3385706594586143262:=()
def tw1710239964468633022:=()
def tw5758626383842855831:=()
def tw14304766239822287235:=()
def tw9739986482451900783:=()
def tw2787464238096205998:=()
def tw368431898471730079:=()
def tw12786105294470182:=()
def tw12971884976581074469:=()
def tw18108574678672997122:=()
def tw9098516743567043506:=()
def tw11427322466456140176:=()
def tw13677813816947277885:=()
def tw9687421746835016265:=()
def tw18205710053433020274:=()
def tw3093957872474002523:=()
def tw10289087529100670218:=()
def tw6734420341723352393:=()
def tw6522225183120128092:=()
def tw7579506723980140214:=()
def tw5416926246489097025:=()
def tw17702507753914128895:=()
def tw6094324107354734339:=()
def tw15193151623658418913:=()
def tw3844925281554960673:=()
def tw14149110092174574558:=()
def tw13743754815992908718:=()
def tw8983485069625165215:=()
def tw6296900901944887305:=()
def tw4597573078603441075:=()
def tw6729946402299565065:=()
def tw7833407001343367829:=()
def tw5281097687020340304:=()
def tw10380658548225349345:=()
def tw4441002360354860559:=()
def tw15259103300304862385:=()
def tw3739953214719775504:=()
def tw1516028730676870139:=()
def tw5455242985505151140:=()
def tw10125446791808192346:=()
def tw7590898635577200861:=()
def tw9271007067374952108:=()
def tw13535208291629903991:=()
def tw9831171655431869745:=()
def tw17262142509282651698:=()
def tw245169151860332599:=()
def tw1338174051746168977:=()
def tw16447136162280521600:=()
def tw14517474132413077977:=()
def tw469306943281884166:=()
def tw17033740816371767188:=()
def tw13326330143863202952:=()
def tw10604440771416084586:=()
def tw12146305435887055946:=()
def tw5205499390812131762:=()
def tw11851291133693789935:=()
def tw10686673045920697726:=()
def tw12652245162232841181:=()
def tw15585167347332163685:=()
def tw2426227299001698931:=()
def tw14918290220051548290:=()
def tw11943507544155414521:=()
def tw12409541374697008800:=()
def tw9173251722782077035:=()
def tw1773425050934296250:=()
def tw3703882426099434634:=()
def tw4287713166366870707:=()
def tw1696840180430751293:=()
def tw10599894075932824973:=()
def tw16110489217011856980:=()
def tw16127368093970133286:=()
def tw3519481552775114486:=()
def tw1741828284239087160:=()
def tw16870450803999185181:=()
def tw3592094171506096345:=()
def tw1761723338482536704:=()
def tw5177538535869525082:=()
def tw11195133834703911157:=()
def tw10508037877298445701:=()
def tw855494071223954720:=()
def tw1943725489723815570:=()
def tw8367004465515341079:=()
def tw16346162534062940005:=()
def tw4387244742858485715:=()
def tw9791268836399239977:=()
def tw4135067104735398185:=()
def tw10654552020096138253:=()
def tw15663108537149545419:=()
def tw16553398414776255740:=()
def tw8989021770043923283:=()
def tw483144199778527993:=()
def tw11300836666892141850:=()
def tw5980566833065256506:=()
def tw4692106306030736012:=()
def tw14440740682231335874:=()
def tw908589322696196796:=()
def tw17314508376700118254:=()
def tw15203856803448853620:=()
def tw4658735848884734766:=()
def tw268523633616873241:=()
def tw17554896321579258561:=()
def tw16282227917742299324:=()
def tw17911941511685695467:=()
def tw12755530008061213722:=()
def tw7000220258379418924:=()
def tw15196839912260038425:=()
def tw14173930669734651399:=()
def tw3208267635408130711:=()
def tw5841394243447387618:=()
def tw18159367285934327715:=()
def tw7009645756513708024:=()
def tw16324629655896436234:=()
def tw6275017943012381336:=()
def tw3638639911271030571:=()
def tw14233805366922086934:=()
def tw10694044742301019166:=()
def tw11965759475374939600:=()
def tw7520871265186203094:=()
def tw4892676728477465521:=()
def tw9061938923310700016:=()
def tw6296949302037120873:=()
def tw1457978323437225349:=()
def tw9978553930867774103:=()
def tw8421288715175390496:=()
def tw3851938022956810619:=()
def tw3591240912816467855:=()
def tw750389851167056801:=()
def tw2789176250863007990:=()
def tw3051367897335585:=()
def tw16727813547365498714:=()
def tw17720361185610224772:=()
def tw8699524570986222325:=()
def tw13060171220215355026:=()
def tw12649616173422859608:=()
def tw14034837122233007428:=()
def tw5441687246996432916:=()
def tw6498626830857905519:=()
def tw889820508326593626:=()
def tw9709031195452269082:=()
def tw7680325466238420884:=()
def tw4943004122901833595:=()
def tw6306617211326911849:=()
def tw14169010742154660274:=()
def tw51075577966283479:=()
def tw6391716128480729688:=()
def tw4994726887450707621:=()
def tw12617070132455420134:=()
def tw18231564982014728337:=()
def tw3318765965069008460:=()
def tw4855882489574360352:=()
def tw11654114793489880796:=()
def tw4807283063799749341:=()
def tw15413829413486941295:=()
def tw12522825362201093128:=()
def tw10468806199289498071:=()
def tw1510903405166593765:=()
def tw9154421085424448722:=()
def tw12184834521354844666:=()
def tw18370944144775829288:=()
def tw3676124956746825773:=()
def tw5278087219705191807:=()
def tw16354249051446501579:=()
def tw11804813781331527729:=()
def tw7826777285906932454:=()
def tw8505840267177576328:=()
def tw6811288734686484672:=()
def tw3113620865137107959:=()
def tw17677810717967346539:=()
def tw3228104835967401007:=()
def tw12276967976277286609:=()
def tw13555846204118136492:=()
def tw12751685914228974661:=()
def tw17749261145843961642:=()
def tw8752170643075420331:=()
def tw14803476985260507317:=()
def tw3877329601005540518:=()
def tw16833059374560255540:=()
def tw10677890886738459104:=()
def tw12337262350420861096:=()
def tw18075640941758124932:=()
def tw7250049494781451299:=()
def tw2346386032381022380:=()
def tw3422402374370509048:=()
def tw5846370366256110801:=()
def tw7393593187557383616:=()
def tw17635201062327583748:=()
def tw14030152044029518307:=()
def tw7647240205057297774:=()
def tw4378547101714481109:=()
def tw3580961377333057364:=()
def tw599253193994362334:=()
def tw6178212946755689947:=()
def tw16861008274096346097:=()
def tw7707746770427679457:=()
def tw1214660919309268095:=()
def tw14253508763209384714:=()
def tw15230889838636821327:=()
def tw9912039513849759981:=()
def tw13063416259712117070:=()
def tw2840741909940258564:=()
def tw13983493049489175821:=()
def tw1721638513141414235:=()
def tw14598193294268312004:=()
def tw17315078037104965113:=()
def tw15136631519212892831:=()
def tw7638937126641528962:=()
def tw6161494021526939006:=()
def tw3562186980328027043:=()
def tw13042469642231606273:=()
def tw10990238951773868176:=()
def tw15712035889609846501:=()
def tw15484872585390960804:=()
end PySem.W.Fast
namespace L2
open PySem
theorem mem_look {α β:Type} [BEq α] [LawfulBEq α] {a:α} {b:β}:∀ {l:List (α × β)},l.lookup a = some b → (a,b) ∈ l
  | [],h => by cases h
  | p :: r,h => by
    obtain ⟨c,d⟩:=p
    rw [List.lookup_cons] at h
    by_cases e:(a == c) = true
    · rw [e] at h
      have h':d = b:=Option.some.inj h
      rw [eq_of_beq e,h']
      exact .head _
    · rw [Bool.not_eq_true] at e
      rw [e] at h
      exact .tail _ (mem_look h)
theorem walk_z {q:Program} {loose:List Str} {XP:(Str → Option Value) → Heap → Prop} {r:PySem.W.RowW} {d:DefRec} {kwd:List (Str × Expr)} {run:Value → List Value → Sem Value} {K:Params → PySem.W.Frag} {as:List Addr} {n t:Nat}
    (hl:∀ p:Params,as = (K p).map (·.1)) (h:PySem.W.WalkO q loose XP (fun w h => (K w.params).In h) r d kwd run):PySem.W.WalkX q loose XP (PySem.W.X.obsZ as) (PySem.W.X.valZ K n t) r d kwd run:=by
  intro w s₀ s₁ mg mb G y a o pm cd doc dV kV ho hd hcd hD hmg hg args vals as' L hpre hlay hrd hwl hlo
  refine h w s₀ s₁ mg mb G (fun b ob hb => ?_) a o pm cd doc dV kV ho hd hcd hD hmg hg args vals as' hpre hlay hrd hwl hlo
  have e1:as.map s₀.heap.get? = (K w.params).map fun p => some p.2:=congrArg Prod.fst y
  rw [hl w.params,List.map_map] at e1
  have e2:s₀.heap.get? b = some ob:=List.map_inj_left.mp e1 (b,ob) (mem_look hb)
  exact L.keeps b ob e2
end L2
namespace K18
open PySem L2
set_option maxHeartbeats 0 in
theorem all_mk {l:PySem.W.OpenLaw} {w:World} {K:PySem.W.Frag} {h:Heap} {mg:Str → Option Value} {fa f1 f2 f3 f4 f5 f6 f7 f8 f9 f10 f11 f12 f13 f14 f15 f16 f17 f18 f19 f20 f21 f22 f23 f24 f25 f26 f27 f28 f29 f30 f31 f32 f33 f34 f35 f36 f37 f38 f39 f40 f41 f42 f43 f44 f45 f46 f47 f48 f49:Addr} (X:K.In h) (G:h.Ns mainGlobals mg) (hfa:mg "law" = some (.ref fa))
    {od1 an1 od2 an2 od3 an3 od4 an4 od5 an5 od6 an6 od7 an7 od8 an8 od9 an9 od10 an10 od11 an11 od12 an12 od13 an13 od14 an14 od15 an15 od16 an16 od17 an17 od18 an18 od19 an19 od20 an20 od21 an21 od22 an22 od23 an23 od24 an24 od25 an25 od26 an26 od27 an27 od28 an28 od29 an29 od30 an30 od31 an31 od32 an32 od33 an33 od34 an34 od35 an35 od36 an36 od37 an37 od38 an38 od39 an39 od40 an40 od41 an41 od42 an42 od43 an43 od44 an44 od45 an45 od46 an46 od47 an47 od48 an48 od49 an49:Option Addr} {sl1 sl2 sl3 sl4 sl5 sl6 sl7 sl8 sl9 sl10 sl11 sl12 sl13 sl14 sl15 sl16 sl17 sl18 sl19 sl20 sl21 sl22 sl23 sl24 sl25 sl26 sl27 sl28 sl29 sl30 sl31 sl32 sl33 sl34 sl35 sl36 sl37 sl38 sl39 sl40 sl41 sl42 sl43 sl44 sl45 sl46 sl47 sl48 sl49:Array (Option Value)} {oc1 kV1 dc1 pm1 cd1 ct1 oc2 kV2 dc2 pm2 cd2 ct2 oc3 kV3 dc3 pm3 cd3 ct3 oc4 kV4 dc4 pm4 cd4 ct4 oc5 kV5 dc5 pm5 cd5 ct5 oc6 kV6 dc6 pm6 cd6 ct6 oc7 kV7 dc7 pm7 cd7 ct7 oc8 kV8 dc8 pm8 cd8 ct8 oc9 kV9 dc9 pm9 cd9 ct9 oc10 kV10 dc10 pm10 cd10 ct10 oc11 kV11 dc11 pm11 cd11 ct11 oc12 kV12 dc12 pm12 cd12 ct12 oc13 kV13 dc13 pm13 cd13 ct13 oc14 kV14 dc14 pm14 cd14 ct14 oc15 kV15 dc15 pm15 cd15 ct15 oc16 kV16 dc16 pm16 cd16 ct16 oc17 kV17 dc17 pm17 cd17 ct17 oc18 kV18 dc18 pm18 cd18 ct18 oc19 kV19 dc19 pm19 cd19 ct19 oc20 kV20 dc20 pm20 cd20 ct20 oc21 kV21 dc21 pm21 cd21 ct21 oc22 kV22 dc22 pm22 cd22 ct22 oc23 kV23 dc23 pm23 cd23 ct23 oc24 kV24 dc24 pm24 cd24 ct24 oc25 kV25 dc25 pm25 cd25 ct25 oc26 kV26 dc26 pm26 cd26 ct26 oc27 kV27 dc27 pm27 cd27 ct27 oc28 kV28 dc28 pm28 cd28 ct28 oc29 kV29 dc29 pm29 cd29 ct29 oc30 kV30 dc30 pm30 cd30 ct30 oc31 kV31 dc31 pm31 cd31 ct31 oc32 kV32 dc32 pm32 cd32 ct32 oc33 kV33 dc33 pm33 cd33 ct33 oc34 kV34 dc34 pm34 cd34 ct34 oc35 kV35 dc35 pm35 cd35 ct35 oc36 kV36 dc36 pm36 cd36 ct36 oc37 kV37 dc37 pm37 cd37 ct37 oc38 kV38 dc38 pm38 cd38 ct38 oc39 kV39 dc39 pm39 cd39 ct39 oc40 kV40 dc40 pm40 cd40 ct40 oc41 kV41 dc41 pm41 cd41 ct41 oc42 kV42 dc42 pm42 cd42 ct42 oc43 kV43 dc43 pm43 cd43 ct43 oc44 kV44 dc44 pm44 cd44 ct44 oc45 kV45 dc45 pm45 cd45 ct45 oc46 kV46 dc46 pm46 cd46 ct46 oc47 kV47 dc47 pm47 cd47 ct47 oc48 kV48 dc48 pm48 cd48 ct48 oc49 kV49 dc49 pm49 cd49 ct49:Value}
    {CT CF:Addr}
    {pT:Addr} {tk tL tN tF tM tG:Tok}
    {oT:Option Addr} {sT:Array (Option Value)} {nT:Nat} {t1 t2 t3 t4 t5 t6 t7 t8 t9:Tok}
    {pO pTs pB pA:Addr} {tA:Tok}
    {oO oE:Option Addr} {sO sE:Array (Option Value)} {nO nE nB nA:Nat} {u1 u2 u3 u4 u5:Tok}
    {b1 b2 b3 b4 d1 d2 d3 d4:Tok}
    {g1 g2 g3 g4 g5 g6 g7 g8 h1 h2 h3 h4 h5 h6 h7 h8:Tok}
    (a1:PySem.W.nsIn K mainGlobals "trees_of" = some (some (.ref f1))) (l1:K.lookup f1 = some ⟨oc1,od1,.func (PySem.W.fnOf "trees_of" "trees_of" (defArgs sTrees) (defBody sTrees) (defScope sTrees) .none kV1 dc1 pm1 an1 cd1 ct1),sl1⟩) (c1:PySem.W.codeIn K cd1 "trees_of" = true) (k1:PySem.W.keepIn K (.ref f1) = true)
    (a2:PySem.W.nsIn K mainGlobals "pieces_of" = some (some (.ref f2))) (l2:K.lookup f2 = some ⟨oc2,od2,.func (PySem.W.fnOf "pieces_of" "pieces_of" (defArgs sPiecesOf) (defBody sPiecesOf) (defScope sPiecesOf) .none kV2 dc2 pm2 an2 cd2 ct2),sl2⟩) (c2:PySem.W.codeIn K cd2 "pieces_of" = true) (k2:PySem.W.keepIn K (.ref f2) = true)
    (a3:PySem.W.nsIn K mainGlobals "text_of" = some (some (.ref f3))) (l3:K.lookup f3 = some ⟨oc3,od3,.func (PySem.W.fnOf "text_of" "text_of" (defArgs sTextOf) (defBody sTextOf) (defScope sTextOf) .none kV3 dc3 pm3 an3 cd3 ct3),sl3⟩) (c3:PySem.W.codeIn K cd3 "text_of" = true) (k3:PySem.W.keepIn K (.ref f3) = true)
    (a4:PySem.W.nsIn K mainGlobals "tree_text" = some (some (.ref f4))) (l4:K.lookup f4 = some ⟨oc4,od4,.func (PySem.W.fnOf "tree_text" "tree_text" (defArgs sTreeText) (defBody sTreeText) (defScope sTreeText) .none kV4 dc4 pm4 an4 cd4 ct4),sl4⟩) (c4:PySem.W.codeIn K cd4 "tree_text" = true) (k4:PySem.W.keepIn K (.ref f4) = true)
    (a5:PySem.W.nsIn K mainGlobals "bracket_pieces" = some (some (.ref f5))) (l5:K.lookup f5 = some ⟨oc5,od5,.func (PySem.W.fnOf "bracket_pieces" "bracket_pieces" (defArgs sPieces) (defBody sPieces) (defScope sPieces) .none kV5 dc5 pm5 an5 cd5 ct5),sl5⟩) (c5:PySem.W.codeIn K cd5 "bracket_pieces" = true) (k5:PySem.W.keepIn K (.ref f5) = true)
    (a6:PySem.W.nsIn K mainGlobals "is_name" = some (some (.ref f6))) (l6:K.lookup f6 = some ⟨oc6,od6,.func (PySem.W.fnOf "is_name" "is_name" (defArgs sName) (defBody sName) (defScope sName) .none kV6 dc6 pm6 an6 cd6 ct6),sl6⟩) (c6:PySem.W.codeIn K cd6 "is_name" = true) (k6:PySem.W.keepIn K (.ref f6) = true)
    (a7:PySem.W.nsIn K mainGlobals "is_number" = some (some (.ref f7))) (l7:K.lookup f7 = some ⟨oc7,od7,.func (PySem.W.fnOf "is_number" "is_number" (defArgs sNum) (defBody sNum) (defScope sNum) .none kV7 dc7 pm7 an7 cd7 ct7),sl7⟩) (c7:PySem.W.codeIn K cd7 "is_number" = true) (k7:PySem.W.keepIn K (.ref f7) = true)
    (a8:PySem.W.nsIn K mainGlobals "read_kind" = some (some (.ref f8))) (l8:K.lookup f8 = some ⟨oc8,od8,.func (PySem.W.fnOf "read_kind" "read_kind" (defArgs sReadKind) (defBody sReadKind) (defScope sReadKind) .none kV8 dc8 pm8 an8 cd8 ct8),sl8⟩) (c8:PySem.W.codeIn K cd8 "read_kind" = true) (k8:PySem.W.keepIn K (.ref f8) = true)
    (a9:PySem.W.nsIn K mainGlobals "read_expression" = some (some (.ref f9))) (l9:K.lookup f9 = some ⟨oc9,od9,.func (PySem.W.fnOf "read_expression" "read_expression" (defArgs sReadEx) (defBody sReadEx) (defScope sReadEx) .none kV9 dc9 pm9 an9 cd9 ct9),sl9⟩) (c9:PySem.W.codeIn K cd9 "read_expression" = true) (k9:PySem.W.keepIn K (.ref f9) = true)
    (a10:PySem.W.nsIn K mainGlobals "single" = some (some (.ref f10))) (l10:K.lookup f10 = some ⟨oc10,od10,.func (PySem.W.fnOf "single" "single" (defArgs sSingle) (defBody sSingle) (defScope sSingle) .none kV10 dc10 pm10 an10 cd10 ct10),sl10⟩) (c10:PySem.W.codeIn K cd10 "single" = true) (k10:PySem.W.keepIn K (.ref f10) = true)
    (a11:PySem.W.nsIn K mainGlobals "bracket" = some (some (.ref f11))) (l11:K.lookup f11 = some ⟨oc11,od11,.func (PySem.W.fnOf "bracket" "bracket" (defArgs sBracket) (defBody sBracket) (defScope sBracket) .none kV11 dc11 pm11 an11 cd11 ct11),sl11⟩) (c11:PySem.W.codeIn K cd11 "bracket" = true) (k11:PySem.W.keepIn K (.ref f11) = true)
    (a12:PySem.W.nsIn K mainGlobals "word_ahead" = some (some (.ref f12))) (l12:K.lookup f12 = some ⟨oc12,od12,.func (PySem.W.fnOf "word_ahead" "word_ahead" (defArgs sAhead) (defBody sAhead) (defScope sAhead) .none kV12 dc12 pm12 an12 cd12 ct12),sl12⟩) (c12:PySem.W.codeIn K cd12 "word_ahead" = true) (k12:PySem.W.keepIn K (.ref f12) = true)
    (a13:PySem.W.nsIn K mainGlobals "name_of_tree" = some (some (.ref f13))) (l13:K.lookup f13 = some ⟨oc13,od13,.func (PySem.W.fnOf "name_of_tree" "name_of_tree" (defArgs sNameOf) (defBody sNameOf) (defScope sNameOf) .none kV13 dc13 pm13 an13 cd13 ct13),sl13⟩) (c13:PySem.W.codeIn K cd13 "name_of_tree" = true) (k13:PySem.W.keepIn K (.ref f13) = true)
    (a14:PySem.W.nsIn K mainGlobals "number_of_tree" = some (some (.ref f14))) (l14:K.lookup f14 = some ⟨oc14,od14,.func (PySem.W.fnOf "number_of_tree" "number_of_tree" (defArgs sNumberOf) (defBody sNumberOf) (defScope sNumberOf) .none kV14 dc14 pm14 an14 cd14 ct14),sl14⟩) (c14:PySem.W.codeIn K cd14 "number_of_tree" = true) (k14:PySem.W.keepIn K (.ref f14) = true)
    (a15:PySem.W.nsIn K mainGlobals "size_of_tree" = some (some (.ref f15))) (l15:K.lookup f15 = some ⟨oc15,od15,.func (PySem.W.fnOf "size_of_tree" "size_of_tree" (defArgs sSizeOf) (defBody sSizeOf) (defScope sSizeOf) .none kV15 dc15 pm15 an15 cd15 ct15),sl15⟩) (c15:PySem.W.codeIn K cd15 "size_of_tree" = true) (k15:PySem.W.keepIn K (.ref f15) = true)
    (a16:PySem.W.nsIn K mainGlobals "near_or_far" = some (some (.ref f16))) (l16:K.lookup f16 = some ⟨oc16,od16,.func (PySem.W.fnOf "near_or_far" "near_or_far" (defArgs sNearFar) (defBody sNearFar) (defScope sNearFar) .none kV16 dc16 pm16 an16 cd16 ct16),sl16⟩) (c16:PySem.W.codeIn K cd16 "near_or_far" = true) (k16:PySem.W.keepIn K (.ref f16) = true)
    (a17:PySem.W.nsIn K mainGlobals "kind_of_tree" = some (some (.ref f17))) (l17:K.lookup f17 = some ⟨oc17,od17,.func (PySem.W.fnOf "kind_of_tree" "kind_of_tree" (defArgs sKindOf) (defBody sKindOf) (defScope sKindOf) .none kV17 dc17 pm17 an17 cd17 ct17),sl17⟩) (c17:PySem.W.codeIn K cd17 "kind_of_tree" = true) (k17:PySem.W.keepIn K (.ref f17) = true)
    (a18:PySem.W.nsIn K mainGlobals "expression_of_tree" = some (some (.ref f18))) (l18:K.lookup f18 = some ⟨oc18,od18,.func (PySem.W.fnOf "expression_of_tree" "expression_of_tree" (defArgs sExOf) (defBody sExOf) (defScope sExOf) .none kV18 dc18 pm18 an18 cd18 ct18),sl18⟩) (c18:PySem.W.codeIn K cd18 "expression_of_tree" = true) (k18:PySem.W.keepIn K (.ref f18) = true)
    (a19:PySem.W.nsIn K mainGlobals "expressions_of" = some (some (.ref f19))) (l19:K.lookup f19 = some ⟨oc19,od19,.func (PySem.W.fnOf "expressions_of" "expressions_of" (defArgs sExsOf) (defBody sExsOf) (defScope sExsOf) .none kV19 dc19 pm19 an19 cd19 ct19),sl19⟩) (c19:PySem.W.codeIn K cd19 "expressions_of" = true) (k19:PySem.W.keepIn K (.ref f19) = true)
    (a20:PySem.W.nsIn K mainGlobals "literal_of_tree" = some (some (.ref f20))) (l20:K.lookup f20 = some ⟨oc20,od20,.func (PySem.W.fnOf "literal_of_tree" "literal_of_tree" (defArgs sLitOf) (defBody sLitOf) (defScope sLitOf) .none kV20 dc20 pm20 an20 cd20 ct20),sl20⟩) (c20:PySem.W.codeIn K cd20 "literal_of_tree" = true) (k20:PySem.W.keepIn K (.ref f20) = true)
    (a21:PySem.W.nsIn K mainGlobals "call_of_tree" = some (some (.ref f21))) (l21:K.lookup f21 = some ⟨oc21,od21,.func (PySem.W.fnOf "call_of_tree" "call_of_tree" (defArgs sCallOf) (defBody sCallOf) (defScope sCallOf) .none kV21 dc21 pm21 an21 cd21 ct21),sl21⟩) (c21:PySem.W.codeIn K cd21 "call_of_tree" = true) (k21:PySem.W.keepIn K (.ref f21) = true)
    (a22:PySem.W.nsIn K mainGlobals "within" = some (some (.ref f22))) (l22:K.lookup f22 = some ⟨oc22,od22,.func (PySem.W.fnOf "within" "within" (defArgs sWithin) (defBody sWithin) (defScope sWithin) .none kV22 dc22 pm22 an22 cd22 ct22),sl22⟩) (c22:PySem.W.codeIn K cd22 "within" = true) (k22:PySem.W.keepIn K (.ref f22) = true)
    (a23:PySem.W.nsIn K mainGlobals "kind_text" = some (some (.ref f23))) (l23:K.lookup f23 = some ⟨oc23,od23,.func (PySem.W.fnOf "kind_text" "kind_text" (defArgs sKindText) (defBody sKindText) (defScope sKindText) .none kV23 dc23 pm23 an23 cd23 ct23),sl23⟩) (c23:PySem.W.codeIn K cd23 "kind_text" = true) (k23:PySem.W.keepIn K (.ref f23) = true)
    (a24:PySem.W.nsIn K mainGlobals "expression_text" = some (some (.ref f24))) (l24:K.lookup f24 = some ⟨oc24,od24,.func (PySem.W.fnOf "expression_text" "expression_text" (defArgs sExText) (defBody sExText) (defScope sExText) .none kV24 dc24 pm24 an24 cd24 ct24),sl24⟩) (c24:PySem.W.codeIn K cd24 "expression_text" = true) (k24:PySem.W.keepIn K (.ref f24) = true)
    (a25:PySem.W.nsIn K mainGlobals "near_or_far_word" = some (some (.ref f25))) (l25:K.lookup f25 = some ⟨oc25,od25,.func (PySem.W.fnOf "near_or_far_word" "near_or_far_word" (defArgs sNearFarW) (defBody sNearFarW) (defScope sNearFarW) .none kV25 dc25 pm25 an25 cd25 ct25),sl25⟩) (c25:PySem.W.codeIn K cd25 "near_or_far_word" = true) (k25:PySem.W.keepIn K (.ref f25) = true)
    (a26:PySem.W.nsIn K mainGlobals "kind_tree" = some (some (.ref f26))) (l26:K.lookup f26 = some ⟨oc26,od26,.func (PySem.W.fnOf "kind_tree" "kind_tree" (defArgs sKindTree) (defBody sKindTree) (defScope sKindTree) .none kV26 dc26 pm26 an26 cd26 ct26),sl26⟩) (c26:PySem.W.codeIn K cd26 "kind_tree" = true) (k26:PySem.W.keepIn K (.ref f26) = true)
    (a27:PySem.W.nsIn K mainGlobals "expression_tree" = some (some (.ref f27))) (l27:K.lookup f27 = some ⟨oc27,od27,.func (PySem.W.fnOf "expression_tree" "expression_tree" (defArgs sExTree) (defBody sExTree) (defScope sExTree) .none kV27 dc27 pm27 an27 cd27 ct27),sl27⟩) (c27:PySem.W.codeIn K cd27 "expression_tree" = true) (k27:PySem.W.keepIn K (.ref f27) = true)
    (a28:PySem.W.nsIn K mainGlobals "words_ahead" = some (some (.ref f28))) (l28:K.lookup f28 = some ⟨oc28,od28,.func (PySem.W.fnOf "words_ahead" "words_ahead" (defArgs sWords) (defBody sWords) (defScope sWords) .none kV28 dc28 pm28 an28 cd28 ct28),sl28⟩) (c28:PySem.W.codeIn K cd28 "words_ahead" = true) (k28:PySem.W.keepIn K (.ref f28) = true)
    (a29:PySem.W.nsIn K mainGlobals "_law_cell" = some (some (.ref f29))) (l29:K.lookup f29 = some ⟨oc29,od29,.func (PySem.W.fnOf "_law_cell" "_law_cell" (defArgs sCell) (defBody sCell) (defScope sCell) .none kV29 dc29 pm29 an29 cd29 ct29),sl29⟩) (c29:PySem.W.codeIn K cd29 "_law_cell" = true) (k29:PySem.W.keepIn K (.ref f29) = true)
    (a30:PySem.W.nsIn K mainGlobals "_law_name" = some (some (.ref f30))) (l30:K.lookup f30 = some ⟨oc30,od30,.func (PySem.W.fnOf "_law_name" "_law_name" (defArgs sNameL) (defBody sNameL) (defScope sNameL) .none kV30 dc30 pm30 an30 cd30 ct30),sl30⟩) (c30:PySem.W.codeIn K cd30 "_law_name" = true) (k30:PySem.W.keepIn K (.ref f30) = true)
    (a31:PySem.W.nsIn K mainGlobals "_law_size" = some (some (.ref f31))) (l31:K.lookup f31 = some ⟨oc31,od31,.func (PySem.W.fnOf "_law_size" "_law_size" (defArgs sSizeL) (defBody sSizeL) (defScope sSizeL) .none kV31 dc31 pm31 an31 cd31 ct31),sl31⟩) (c31:PySem.W.codeIn K cd31 "_law_size" = true) (k31:PySem.W.keepIn K (.ref f31) = true)
    (a32:PySem.W.nsIn K mainGlobals "_law_kind_over" = some (some (.ref f32))) (l32:K.lookup f32 = some ⟨oc32,od32,.func (PySem.W.fnOf "_law_kind_over" "_law_kind_over" (defArgs sKindOv) (defBody sKindOv) (defScope sKindOv) .none kV32 dc32 pm32 an32 cd32 ct32),sl32⟩) (c32:PySem.W.codeIn K cd32 "_law_kind_over" = true) (k32:PySem.W.keepIn K (.ref f32) = true)
    (a33:PySem.W.nsIn K mainGlobals "_law_expression_over" = some (some (.ref f33))) (l33:K.lookup f33 = some ⟨oc33,od33,.func (PySem.W.fnOf "_law_expression_over" "_law_expression_over" (defArgs sExOv) (defBody sExOv) (defScope sExOv) .none kV33 dc33 pm33 an33 cd33 ct33),sl33⟩) (c33:PySem.W.codeIn K cd33 "_law_expression_over" = true) (k33:PySem.W.keepIn K (.ref f33) = true)
    (a34:PySem.W.nsIn K mainGlobals "_law_tokens" = some (some (.ref f34))) (l34:K.lookup f34 = some ⟨oc34,od34,.func (PySem.W.fnOf "_law_tokens" "_law_tokens" (defArgs sTokens) (defBody sTokens) (defScope sTokens) .none kV34 dc34 pm34 an34 cd34 ct34),sl34⟩) (c34:PySem.W.codeIn K cd34 "_law_tokens" = true) (k34:PySem.W.keepIn K (.ref f34) = true)
    (a35:PySem.W.nsIn K mainGlobals "_law_written" = some (some (.ref f35))) (l35:K.lookup f35 = some ⟨oc35,od35,.func (PySem.W.fnOf "_law_written" "_law_written" (defArgs sWritten) (defBody sWritten) (defScope sWritten) .none kV35 dc35 pm35 an35 cd35 ct35),sl35⟩) (c35:PySem.W.codeIn K cd35 "_law_written" = true) (k35:PySem.W.keepIn K (.ref f35) = true)
    (a36:PySem.W.nsIn K mainGlobals "_law_loose" = some (some (.ref f36))) (l36:K.lookup f36 = some ⟨oc36,od36,.func (PySem.W.fnOf "_law_loose" "_law_loose" (defArgs sLoose) (defBody sLoose) (defScope sLoose) .none kV36 dc36 pm36 an36 cd36 ct36),sl36⟩) (c36:PySem.W.codeIn K cd36 "_law_loose" = true) (k36:PySem.W.keepIn K (.ref f36) = true)
    (a37:PySem.W.nsIn K mainGlobals "_law_spoiled" = some (some (.ref f37))) (l37:K.lookup f37 = some ⟨oc37,od37,.func (PySem.W.fnOf "_law_spoiled" "_law_spoiled" (defArgs sSpoil) (defBody sSpoil) (defScope sSpoil) .none kV37 dc37 pm37 an37 cd37 ct37),sl37⟩) (c37:PySem.W.codeIn K cd37 "_law_spoiled" = true) (k37:PySem.W.keepIn K (.ref f37) = true)
    (a38:PySem.W.nsIn K mainGlobals "_law_trees" = some (some (.ref f38))) (l38:K.lookup f38 = some ⟨oc38,od38,.func (PySem.W.fnOf "_law_trees" "_law_trees" (defArgs sTreesL) (defBody sTreesL) (defScope sTreesL) .none kV38 dc38 pm38 an38 cd38 ct38),sl38⟩) (c38:PySem.W.codeIn K cd38 "_law_trees" = true) (k38:PySem.W.keepIn K (.ref f38) = true)
    (a39:PySem.W.nsIn K mainGlobals "_law_is_name" = some (some (.ref f39))) (l39:K.lookup f39 = some ⟨oc39,od39,.func (PySem.W.fnOf "_law_is_name" "_law_is_name" (defArgs sIsName) (defBody sIsName) (defScope sIsName) .none kV39 dc39 pm39 an39 cd39 ct39),sl39⟩) (c39:PySem.W.codeIn K cd39 "_law_is_name" = true) (k39:PySem.W.keepIn K (.ref f39) = true)
    (a40:PySem.W.nsIn K mainGlobals "_law_is_far" = some (some (.ref f40))) (l40:K.lookup f40 = some ⟨oc40,od40,.func (PySem.W.fnOf "_law_is_far" "_law_is_far" (defArgs sIsFar) (defBody sIsFar) (defScope sIsFar) .none kV40 dc40 pm40 an40 cd40 ct40),sl40⟩) (c40:PySem.W.codeIn K cd40 "_law_is_far" = true) (k40:PySem.W.keepIn K (.ref f40) = true)
    (a41:PySem.W.nsIn K mainGlobals "_law_number" = some (some (.ref f41))) (l41:K.lookup f41 = some ⟨oc41,od41,.func (PySem.W.fnOf "_law_number" "_law_number" (defArgs sNumL) (defBody sNumL) (defScope sNumL) .none kV41 dc41 pm41 an41 cd41 ct41),sl41⟩) (c41:PySem.W.codeIn K cd41 "_law_number" = true) (k41:PySem.W.keepIn K (.ref f41) = true)
    (a42:PySem.W.nsIn K mainGlobals "_law_is_size" = some (some (.ref f42))) (l42:K.lookup f42 = some ⟨oc42,od42,.func (PySem.W.fnOf "_law_is_size" "_law_is_size" (defArgs sIsSize) (defBody sIsSize) (defScope sIsSize) .none kV42 dc42 pm42 an42 cd42 ct42),sl42⟩) (c42:PySem.W.codeIn K cd42 "_law_is_size" = true) (k42:PySem.W.keepIn K (.ref f42) = true)
    (a43:PySem.W.nsIn K mainGlobals "_law_is_kind" = some (some (.ref f43))) (l43:K.lookup f43 = some ⟨oc43,od43,.func (PySem.W.fnOf "_law_is_kind" "_law_is_kind" (defArgs sIsKind) (defBody sIsKind) (defScope sIsKind) .none kV43 dc43 pm43 an43 cd43 ct43),sl43⟩) (c43:PySem.W.codeIn K cd43 "_law_is_kind" = true) (k43:PySem.W.keepIn K (.ref f43) = true)
    (a44:PySem.W.nsIn K mainGlobals "_law_rest" = some (some (.ref f44))) (l44:K.lookup f44 = some ⟨oc44,od44,.func (PySem.W.fnOf "_law_rest" "_law_rest" (defArgs sRest) (defBody sRest) (defScope sRest) .none kV44 dc44 pm44 an44 cd44 ct44),sl44⟩) (c44:PySem.W.codeIn K cd44 "_law_rest" = true) (k44:PySem.W.keepIn K (.ref f44) = true)
    (a45:PySem.W.nsIn K mainGlobals "_law_is_expression" = some (some (.ref f45))) (l45:K.lookup f45 = some ⟨oc45,od45,.func (PySem.W.fnOf "_law_is_expression" "_law_is_expression" (defArgs sIsEx) (defBody sIsEx) (defScope sIsEx) .none kV45 dc45 pm45 an45 cd45 ct45),sl45⟩) (c45:PySem.W.codeIn K cd45 "_law_is_expression" = true) (k45:PySem.W.keepIn K (.ref f45) = true)
    (a46:PySem.W.nsIn K mainGlobals "_law_read" = some (some (.ref f46))) (l46:K.lookup f46 = some ⟨oc46,od46,.func (PySem.W.fnOf "_law_read" "_law_read" (defArgs sRead) (defBody sRead) (defScope sRead) .none kV46 dc46 pm46 an46 cd46 ct46),sl46⟩) (c46:PySem.W.codeIn K cd46 "_law_read" = true) (k46:PySem.W.keepIn K (.ref f46) = true)
    (a47:PySem.W.nsIn K mainGlobals "_law_of_tree" = some (some (.ref f47))) (l47:K.lookup f47 = some ⟨oc47,od47,.func (PySem.W.fnOf "_law_of_tree" "_law_of_tree" (defArgs sOfTree) (defBody sOfTree) (defScope sOfTree) .none kV47 dc47 pm47 an47 cd47 ct47),sl47⟩) (c47:PySem.W.codeIn K cd47 "_law_of_tree" = true) (k47:PySem.W.keepIn K (.ref f47) = true)
    (a48:PySem.W.nsIn K mainGlobals "_law_fits" = some (some (.ref f48))) (l48:K.lookup f48 = some ⟨oc48,od48,.func (PySem.W.fnOf "_law_fits" "_law_fits" (defArgs sFits) (defBody sFits) (defScope sFits) .none kV48 dc48 pm48 an48 cd48 ct48),sl48⟩) (c48:PySem.W.codeIn K cd48 "_law_fits" = true) (k48:PySem.W.keepIn K (.ref f48) = true)
    (a49:PySem.W.nsIn K mainGlobals "law" = some (some (.ref f49))) (l49:K.lookup f49 = some ⟨oc49,od49,.func (PySem.W.fnOf "law" "law" (defArgs sLaw) (defBody sLaw) (defScope sLaw) .none kV49 dc49 pm49 an49 cd49 ct49),sl49⟩) (c49:PySem.W.codeIn K cd49 "law" = true) (k49:PySem.W.keepIn K (.ref f49) = true)
    (eT:PySem.W.nsIn K mainGlobals "NoTree" = some (some (.ref CT)))
    (eFo:PySem.W.nsIn K mainGlobals "NoForm" = some (some (.ref CF)))
    (xT:PySem.W.excIn K CT bmVE "ValueError.__new__" = true)
    (xF:PySem.W.excIn K CF bmVE "ValueError.__new__" = true)
    (x1:PySem.W.exmOne K (.ref CF) (.ref CF) = some true)
    (x2:PySem.W.exmOne K (.ref CT) (.ref CF) = some false)
    (x3:PySem.W.exmOne K (.ref CT) (.ref CT) = some true)
    (eD:PySem.W.nsIn K mainGlobals "DEEPEST" = some (some (.int 30 tk)))
    (eL:PySem.W.nsIn K mainGlobals "LETTERS" = some (some (.str "abcdefghijklmnopqrstuvwxyz" tL)))
    (eN:PySem.W.nsIn K mainGlobals "LONGEST_NAME" = some (some (.int 12 tN)))
    (eF:PySem.W.nsIn K mainGlobals "FIGURES" = some (some (.str "0123456789" tF)))
    (eM:PySem.W.nsIn K mainGlobals "LONGEST_NUMBER" = some (some (.int 19 tM)))
    (eG:PySem.W.nsIn K mainGlobals "GREATEST" = some (some (.int 1000000000000000000 tG)))
    (eP:PySem.W.nsIn K mainGlobals "NO_NAMES" = some (some (.ref pT)))
    (lT:K.lookup pT = some ⟨.type "tuple",oT,.seq #[.str "num" t1,.str "pair" t2,.str "lit" t3,.str "as" t4,.str "if" t5,.str "let" t6,.str "two" t7,.str "first" t8,.str "second" t9] nT,sT⟩)
    (eA:PySem.W.nsIn K mainGlobals "MOST_ARGUMENTS" = some (some (.int 4 tA)))
    (eO:PySem.W.nsIn K mainGlobals "OPERATORS" = some (some (.ref pO)))
    (lO:K.lookup pO = some ⟨.type "tuple",oO,.seq #[.str "+" u1,.str "-" u2,.str "*" u3] nO,sO⟩)
    (eE:PySem.W.nsIn K mainGlobals "TESTS" = some (some (.ref pTs)))
    (lE:K.lookup pTs = some ⟨.type "tuple",oE,.seq #[.str "=" u4,.str "<" u5] nE,sE⟩)
    (eB:PySem.W.nsIn K mainGlobals "BRANCHES" = some (some (.ref pB)))
    (lB:K.lookup pB = some ⟨.type "dict",none,.dict #[⟨hashStr w "if",.str "if" b1,.int 3 d1⟩,⟨hashStr w "two",.str "two" b2,.int 2 d2⟩,⟨hashStr w "first",.str "first" b3,.int 1 d3⟩,⟨hashStr w "second",.str "second" b4,.int 1 d4⟩] nB,#[]⟩)
    (qB:(pB == sysModules) = false)
    (eH:PySem.W.nsIn K mainGlobals "AHEAD" = some (some (.ref pA)))
    (lH:K.lookup pA = some ⟨.type "dict",none,.dict #[⟨hashStr w "op",.str "op" g1,.int 3 h1⟩,⟨hashStr w "test",.str "test" g2,.int 2 h2⟩,⟨hashStr w "as",.str "as" g3,.int 2 h3⟩,⟨hashStr w "let",.str "let" g4,.int 2 h4⟩,⟨hashStr w "if",.str "if" g5,.int 1 h5⟩,⟨hashStr w "two",.str "two" g6,.int 1 h6⟩,⟨hashStr w "first",.str "first" g7,.int 1 h7⟩,⟨hashStr w "second",.str "second" g8,.int 1 h8⟩] nA,#[]⟩)
    (qH:(pA == sysModules) = false)
    (z1:PySem.W.nsIn K mainGlobals "len" = some none)
    (z2:PySem.W.nsIn K mainGlobals "range" = some none)
    (z3:PySem.W.nsIn K mainGlobals "isinstance" = some none)
    (z4:PySem.W.nsIn K mainGlobals "tuple" = some none)
    (z5:PySem.W.nsIn K mainGlobals "str" = some none)
    (z6:PySem.W.nsIn K mainGlobals "reversed" = some none)
    (z7:PySem.W.nsIn K mainGlobals "enumerate" = some none)
    (z8:PySem.W.nsIn K mainGlobals "int" = some none)
    (z9:PySem.W.nsIn K mainGlobals "list" = some none)
    (z10:PySem.W.nsIn K mainGlobals "all" = some none) :
    ∃ fd:FuncData,(∀ (s:Shared) (v:Value),BindsTo s fd ⟨[v],[]⟩ [("_law_script",v)]) ∧ ∀ base:Heap,K.In base → base.Ns mainGlobals mg → FnOk l.prog w K mg base CX0 101 fa fd ["_law_script"] (spLaw K):=by
  have e:=hfa.symm.trans (PySem.W.mg_of X G a49)
  cases e
  have F1:=fun_mk (st:=sTrees) l1 c1 k1
  have F2:=fun_mk (st:=sPiecesOf) l2 c2 k2
  have F3:=fun_mk (st:=sTextOf) l3 c3 k3
  have F4:=fun_mk (st:=sTreeText) l4 c4 k4
  have F5:=fun_mk (st:=sPieces) l5 c5 k5
  have F6:=fun_mk (st:=sName) l6 c6 k6
  have F7:=fun_mk (st:=sNum) l7 c7 k7
  have F8:=fun_mk (st:=sReadKind) l8 c8 k8
  have F9:=fun_mk (st:=sReadEx) l9 c9 k9
  have F10:=fun_mk (st:=sSingle) l10 c10 k10
  have F11:=fun_mk (st:=sBracket) l11 c11 k11
  have F12:=fun_mk (st:=sAhead) l12 c12 k12
  have F13:=fun_mk (st:=sNameOf) l13 c13 k13
  have F14:=fun_mk (st:=sNumberOf) l14 c14 k14
  have F15:=fun_mk (st:=sSizeOf) l15 c15 k15
  have F16:=fun_mk (st:=sNearFar) l16 c16 k16
  have F17:=fun_mk (st:=sKindOf) l17 c17 k17
  have F18:=fun_mk (st:=sExOf) l18 c18 k18
  have F19:=fun_mk (st:=sExsOf) l19 c19 k19
  have F20:=fun_mk (st:=sLitOf) l20 c20 k20
  have F21:=fun_mk (st:=sCallOf) l21 c21 k21
  have F22:=fun_mk (st:=sWithin) l22 c22 k22
  have F23:=fun_mk (st:=sKindText) l23 c23 k23
  have F24:=fun_mk (st:=sExText) l24 c24 k24
  have F25:=fun_mk (st:=sNearFarW) l25 c25 k25
  have F26:=fun_mk (st:=sKindTree) l26 c26 k26
  have F27:=fun_mk (st:=sExTree) l27 c27 k27
  have F28:=fun_mk (st:=sWords) l28 c28 k28
  have F29:=fun_mk (st:=sCell) l29 c29 k29
  have F30:=fun_mk (st:=sNameL) l30 c30 k30
  have F31:=fun_mk (st:=sSizeL) l31 c31 k31
  have F32:=fun_mk (st:=sKindOv) l32 c32 k32
  have F33:=fun_mk (st:=sExOv) l33 c33 k33
  have F34:=fun_mk (st:=sTokens) l34 c34 k34
  have F35:=fun_mk (st:=sWritten) l35 c35 k35
  have F36:=fun_mk (st:=sLoose) l36 c36 k36
  have F37:=fun_mk (st:=sSpoil) l37 c37 k37
  have F38:=fun_mk (st:=sTreesL) l38 c38 k38
  have F39:=fun_mk (st:=sIsName) l39 c39 k39
  have F40:=fun_mk (st:=sIsFar) l40 c40 k40
  have F41:=fun_mk (st:=sNumL) l41 c41 k41
  have F42:=fun_mk (st:=sIsSize) l42 c42 k42
  have F43:=fun_mk (st:=sIsKind) l43 c43 k43
  have F44:=fun_mk (st:=sRest) l44 c44 k44
  have F45:=fun_mk (st:=sIsEx) l45 c45 k45
  have F46:=fun_mk (st:=sRead) l46 c46 k46
  have F47:=fun_mk (st:=sOfTree) l47 c47 k47
  have F48:=fun_mk (st:=sFits) l48 c48 k48
  have F49:=fun_mk (st:=sLaw) l49 c49 k49
  have b1:=F1.binds (ps:=["text"]) fun _ _ _ _ _ _ us hl => match us,hl with | [_],_ => rfl
  have b2:=F2.binds (ps:=["text"]) fun _ _ _ _ _ _ us hl => match us,hl with | [_],_ => rfl
  have b3:=F3.binds (ps:=["trees"]) fun _ _ _ _ _ _ us hl => match us,hl with | [_],_ => rfl
  have b4:=F4.binds (ps:=["tree"]) fun _ _ _ _ _ _ us hl => match us,hl with | [_],_ => rfl
  have b5:=F5.binds (ps:=["trees"]) fun _ _ _ _ _ _ us hl => match us,hl with | [_],_ => rfl
  have b6:=F6.binds (ps:=["word"]) fun _ _ _ _ _ _ us hl => match us,hl with | [_],_ => rfl
  have b7:=F7.binds (ps:=["word"]) fun _ _ _ _ _ _ us hl => match us,hl with | [_],_ => rfl
  have b8:=F8.binds (ps:=["text"]) fun _ _ _ _ _ _ us hl => match us,hl with | [_],_ => rfl
  have b9:=F9.binds (ps:=["text"]) fun _ _ _ _ _ _ us hl => match us,hl with | [_],_ => rfl
  have b10:=F10.binds (ps:=["trees"]) fun _ _ _ _ _ _ us hl => match us,hl with | [_],_ => rfl
  have b11:=F11.binds (ps:=["tree","least","most"]) fun _ _ _ _ _ _ us hl => match us,hl with | [_,_,_],_ => rfl
  have b12:=F12.binds (ps:=["tree"]) fun _ _ _ _ _ _ us hl => match us,hl with | [_],_ => rfl
  have b13:=F13.binds (ps:=["tree"]) fun _ _ _ _ _ _ us hl => match us,hl with | [_],_ => rfl
  have b14:=F14.binds (ps:=["tree","least","most"]) fun _ _ _ _ _ _ us hl => match us,hl with | [_,_,_],_ => rfl
  have b15:=F15.binds (ps:=["tree"]) fun _ _ _ _ _ _ us hl => match us,hl with | [_],_ => rfl
  have b16:=F16.binds (ps:=["word"]) fun _ _ _ _ _ _ us hl => match us,hl with | [_],_ => rfl
  have b17:=F17.binds (ps:=["tree"]) fun _ _ _ _ _ _ us hl => match us,hl with | [_],_ => rfl
  have b18:=F18.binds (ps:=["tree"]) fun _ _ _ _ _ _ us hl => match us,hl with | [_],_ => rfl
  have b19:=F19.binds (ps:=["trees"]) fun _ _ _ _ _ _ us hl => match us,hl with | [_],_ => rfl
  have b20:=F20.binds (ps:=["tree"]) fun _ _ _ _ _ _ us hl => match us,hl with | [_],_ => rfl
  have b21:=F21.binds (ps:=["tree"]) fun _ _ _ _ _ _ us hl => match us,hl with | [_],_ => rfl
  have b22:=F22.binds (ps:=["expression"]) fun _ _ _ _ _ _ us hl => match us,hl with | [_],_ => rfl
  have b23:=F23.binds (ps:=["kind"]) fun _ _ _ _ _ _ us hl => match us,hl with | [_],_ => rfl
  have b24:=F24.binds (ps:=["expression"]) fun _ _ _ _ _ _ us hl => match us,hl with | [_],_ => rfl
  have b25:=F25.binds (ps:=["part","name"]) fun _ _ _ _ _ _ us hl => match us,hl with | [_,_],_ => rfl
  have b26:=F26.binds (ps:=["kind"]) fun _ _ _ _ _ _ us hl => match us,hl with | [_],_ => rfl
  have b27:=F27.binds (ps:=["expression"]) fun _ _ _ _ _ _ us hl => match us,hl with | [_],_ => rfl
  have b28:=F28.binds (ps:=["expression"]) fun _ _ _ _ _ _ us hl => match us,hl with | [_],_ => rfl
  have b29:=F29.binds (ps:=["_law_script","_law_k"]) fun _ _ _ _ _ _ us hl => match us,hl with | [_,_],_ => rfl
  have b30:=F30.binds (ps:=["_law_cell_here"]) fun _ _ _ _ _ _ us hl => match us,hl with | [_],_ => rfl
  have b31:=F31.binds (ps:=["_law_cell_here"]) fun _ _ _ _ _ _ us hl => match us,hl with | [_],_ => rfl
  have b32:=F32.binds (ps:=["_law_cell_here","_law_inner"]) fun _ _ _ _ _ _ us hl => match us,hl with | [_,_],_ => rfl
  have b33:=F33.binds (ps:=["_law_cell_here","_law_inner"]) fun _ _ _ _ _ _ us hl => match us,hl with | [_,_],_ => rfl
  have b34:=F34.binds (ps:=["_law_tree"]) fun _ _ _ _ _ _ us hl => match us,hl with | [_],_ => rfl
  have b35:=F35.binds (ps:=["_law_tokens_here"]) fun _ _ _ _ _ _ us hl => match us,hl with | [_],_ => rfl
  have b36:=F36.binds (ps:=["_law_tokens_here","_law_cell_here"]) fun _ _ _ _ _ _ us hl => match us,hl with | [_,_],_ => rfl
  have b37:=F37.binds (ps:=["_law_tokens_here","_law_turn_of","_law_cell_here"]) fun _ _ _ _ _ _ us hl => match us,hl with | [_,_,_],_ => rfl
  have b38:=F38.binds (ps:=["_law_tokens_here"]) fun _ _ _ _ _ _ us hl => match us,hl with | [_],_ => rfl
  have b39:=F39.binds (ps:=["_law_tree"]) fun _ _ _ _ _ _ us hl => match us,hl with | [_],_ => rfl
  have b40:=F40.binds (ps:=["_law_tree"]) fun _ _ _ _ _ _ us hl => match us,hl with | [_],_ => rfl
  have b41:=F41.binds (ps:=["_law_tree"]) fun _ _ _ _ _ _ us hl => match us,hl with | [_],_ => rfl
  have b42:=F42.binds (ps:=["_law_tree"]) fun _ _ _ _ _ _ us hl => match us,hl with | [_],_ => rfl
  have b43:=F43.binds (ps:=["_law_tree"]) fun _ _ _ _ _ _ us hl => match us,hl with | [_],_ => rfl
  have b44:=F44.binds (ps:=["_law_head","_law_rest_here"]) fun _ _ _ _ _ _ us hl => match us,hl with | [_,_],_ => rfl
  have b45:=F45.binds (ps:=["_law_tree"]) fun _ _ _ _ _ _ us hl => match us,hl with | [_],_ => rfl
  have b46:=F46.binds (ps:=["_law_text","_law_is_kind_here"]) fun _ _ _ _ _ _ us hl => match us,hl with | [_,_],_ => rfl
  have b47:=F47.binds (ps:=["_law_tree","_law_is_kind_here"]) fun _ _ _ _ _ _ us hl => match us,hl with | [_,_],_ => rfl
  have b48:=F48.binds (ps:=["_law_tree","_law_is_kind_here"]) fun _ _ _ _ _ _ us hl => match us,hl with | [_,_],_ => rfl
  refine ⟨PySem.W.fnOf "law" "law" (defArgs sLaw) (defBody sLaw) (defScope sLaw) .none kV49 dc49 pm49 an49 cd49 ct49,fun s v => .of_eq rfl,fun base _ _ => ?_⟩
  have hT:∀ H,SqT K H pT takenV:=fun H => .inr ⟨_,_,_,lT,rfl,rfl,(show (9:Nat) ≤ sizeLine by decide),.cons ⟨_,rfl⟩ (.cons ⟨_,rfl⟩ (.cons ⟨_,rfl⟩ (.cons ⟨_,rfl⟩ (.cons ⟨_,rfl⟩ (.cons ⟨_,rfl⟩ (.cons ⟨_,rfl⟩ (.cons ⟨_,rfl⟩ (.cons ⟨_,rfl⟩ .nil))))))))⟩
  have hO:∀ H,SqT K H pO opsV:=fun H => .inr ⟨_,_,_,lO,rfl,rfl,(show (3:Nat) ≤ sizeLine by decide),.cons ⟨_,rfl⟩ (.cons ⟨_,rfl⟩ (.cons ⟨_,rfl⟩ .nil))⟩
  have hE:∀ H,SqT K H pTs tstV:=fun H => .inr ⟨_,_,_,lE,rfl,rfl,(show (2:Nat) ≤ sizeLine by decide),.cons ⟨_,rfl⟩ (.cons ⟨_,rfl⟩ .nil)⟩
  have hB:DKt K w pB brs:=dkt_of lB qB (.cons rfl (.cons rfl (.cons rfl (.cons rfl .nil)))) (by decide +kernel)
  have hA:DKt K w pA ahs:=dkt_of lH qH (.cons rfl (.cons rfl (.cons rfl (.cons rfl (.cons rfl (.cons rfl (.cons rfl (.cons rfl .nil)))))))) (by decide +kernel)
  have GP:=ok_pieces (P:=l.prog) (w:=w) (base:=base) (mg:=mg) F5 (PySem.W.mg_none_of X G z7)
  have GX:=ok_treeText (P:=l.prog) (w:=w) (base:=base) (mg:=mg) F4 GP b5 k5 (PySem.W.mg_of X G a5) (PySem.W.mg_none_of X G z1) (PySem.W.mg_none_of X G z3) (PySem.W.mg_none_of X G z5) (PySem.W.mg_none_of X G z6)
  have GO:=ok_textOf (P:=l.prog) (w:=w) (base:=base) (mg:=mg) F3 GX b4 k4 (PySem.W.mg_of X G a4)
  have GI:=ok_pcs (P:=l.prog) (w:=w) (base:=base) (mg:=mg) F2
  have GT:=ok_trees (P:=l.prog) (w:=w) (base:=base) (mg:=mg) F1 GI b2 k2 (PySem.W.mg_of X G a2) (PySem.W.mg_of X G eD) (PySem.W.mg_of X G eT) xT (PySem.W.mg_none_of X G z1) (PySem.W.mg_none_of X G z4)
  have GNa:=ok_name (P:=l.prog) (w:=w) (base:=base) (mg:=mg) F6 (PySem.W.mg_none_of X G z1) (PySem.W.mg_none_of X G z10) (PySem.W.mg_of X G eL) (PySem.W.mg_of X G eN) (PySem.W.mg_of X G eP) hT
  have GNu:=ok_num (P:=l.prog) (w:=w) (base:=base) (mg:=mg) F7 (PySem.W.mg_none_of X G z1) (PySem.W.mg_none_of X G z10) (PySem.W.mg_of X G eF) (PySem.W.mg_of X G eM)
  have GSi:=ok_single (P:=l.prog) (w:=w) (base:=base) (mg:=mg) F10 (PySem.W.mg_none_of X G z1) (PySem.W.mg_of X G eFo) xF
  have GBr:=ok_bracket (P:=l.prog) (w:=w) (base:=base) (mg:=mg) F11 (PySem.W.mg_none_of X G z1) (PySem.W.mg_none_of X G z3) (PySem.W.mg_none_of X G z4) (PySem.W.mg_of X G eFo) xF
  have GAh:=ok_ahead (P:=l.prog) (w:=w) (base:=base) (mg:=mg) F12 GBr b11 k11 (PySem.W.mg_of X G a11) (PySem.W.mg_none_of X G z3) (PySem.W.mg_none_of X G z5) (PySem.W.mg_of X G eFo) xF
  have GNm:=ok_nameOf (P:=l.prog) (w:=w) (base:=base) (mg:=mg) F13 GNa b6 k6 (PySem.W.mg_of X G a6) (PySem.W.mg_none_of X G z3) (PySem.W.mg_none_of X G z5) (PySem.W.mg_of X G eFo) xF
  have GNo:=ok_numberOf (P:=l.prog) (w:=w) (base:=base) (mg:=mg) F14 GNu b7 k7 (PySem.W.mg_of X G a7) (PySem.W.mg_none_of X G z3) (PySem.W.mg_none_of X G z5) (PySem.W.mg_none_of X G z8) (PySem.W.mg_of X G eFo) xF
  have GSz:=ok_sizeOf (P:=l.prog) (w:=w) (base:=base) (mg:=mg) F15 GNo b14 k14 (PySem.W.mg_of X G a14) (PySem.W.mg_of X G eG)
  have GNf:=ok_nearFar (P:=l.prog) (w:=w) (base:=base) (mg:=mg) F16 GNa b6 k6 (PySem.W.mg_of X G a6) (PySem.W.mg_none_of X G z1) (PySem.W.mg_of X G eFo) xF
  have GKo:=ok_kindOf (P:=l.prog) (w:=w) (base:=base) (mg:=mg) F17 b17 k17 (PySem.W.mg_of X G a17) GNf b16 k16 (PySem.W.mg_of X G a16) GAh b12 k12 (PySem.W.mg_of X G a12) GBr b11 k11 (PySem.W.mg_of X G a11) GSz b15 k15 (PySem.W.mg_of X G a15) (PySem.W.mg_none_of X G z3) (PySem.W.mg_none_of X G z5) (PySem.W.mg_of X G eFo) xF 31
  have GLi:=ok_litOf (P:=l.prog) (w:=w) (base:=base) (mg:=mg) F20 GBr b11 k11 (PySem.W.mg_of X G a11) GSz b15 k15 (PySem.W.mg_of X G a15) GNo b14 k14 (PySem.W.mg_of X G a14)
  have GEx:=ok_exOf (P:=l.prog) (w:=w) (base:=base) (mg:=mg) F18 b18 k18 (PySem.W.mg_of X G a18) GNm b13 k13 (PySem.W.mg_of X G a13) GAh b12 k12 (PySem.W.mg_of X G a12) GBr b11 k11 (PySem.W.mg_of X G a11) GSz b15 k15 (PySem.W.mg_of X G a15) GLi b20 k20 (PySem.W.mg_of X G a20) (fun n GG => ok_exsOf F19 GG b18 k18 (PySem.W.mg_of X G a18) (PySem.W.mg_none_of X G z4)) b19 k19 (PySem.W.mg_of X G a19) (fun n GG => ok_callOf (m:=3 * n + 4) F21 GNf b16 k16 (PySem.W.mg_of X G a16) GAh b12 k12 (PySem.W.mg_of X G a12) GBr b11 k11 (PySem.W.mg_of X G a11) GG b19 k19 (PySem.W.mg_of X G a19) (PySem.W.mg_of X G eA)) b21 k21 (PySem.W.mg_of X G a21) (PySem.W.mg_of X G eO) hO (PySem.W.mg_of X G eE) hE (PySem.W.mg_of X G eB) hB (PySem.W.mg_none_of X G z3) (PySem.W.mg_none_of X G z5) 31
  have GRk:=ok_readKind (P:=l.prog) (w:=w) (base:=base) (mg:=mg) F8 GT b1 k1 (PySem.W.mg_of X G a1) GSi b10 k10 (PySem.W.mg_of X G a10) GKo b17 k17 (PySem.W.mg_of X G a17)
  have GRx:=ok_readEx (P:=l.prog) (w:=w) (base:=base) (mg:=mg) F9 GT b1 k1 (PySem.W.mg_of X G a1) GSi b10 k10 (PySem.W.mg_of X G a10) GEx b18 k18 (PySem.W.mg_of X G a18)
  have GWi:=ok_within (P:=l.prog) (w:=w) (base:=base) (mg:=mg) F22 (PySem.W.mg_of X G eH) hA
  have GNw:=ok_nearFarW (P:=l.prog) (w:=w) (base:=base) (mg:=mg) F25
  have GWo:=ok_words (P:=l.prog) (w:=w) (base:=base) (mg:=mg) F28 GNw b25 k25 (PySem.W.mg_of X G a25) (PySem.W.mg_none_of X G z5)
  have GTr:=ok_exTree (P:=l.prog) (w:=w) (base:=base) (mg:=mg) F27 b27 k27 (PySem.W.mg_of X G a27) GWo b28 k28 (PySem.W.mg_of X G a28) GWi b22 k22 (PySem.W.mg_of X G a22) (PySem.W.mg_none_of X G z9) (PySem.W.mg_none_of X G z4) 31
  have GTx:=ok_exText (P:=l.prog) (w:=w) (base:=base) (mg:=mg) F24 GTr b27 k27 (PySem.W.mg_of X G a27) GO b3 k3 (PySem.W.mg_of X G a3)
  have GKt:=ok_kindTree (P:=l.prog) (w:=w) (base:=base) (mg:=mg) F26 b26 k26 (PySem.W.mg_of X G a26) GNw b25 k25 (PySem.W.mg_of X G a25) (PySem.W.mg_none_of X G z5) 31
  have GKx:=ok_kindText (P:=l.prog) (w:=w) (base:=base) (mg:=mg) F23 GKt b26 k26 (PySem.W.mg_of X G a26) GO b3 k3 (PySem.W.mg_of X G a3)
  have GC:=ok_cell (P:=l.prog) (w:=w) (base:=base) (mg:=mg) F29 (PySem.W.mg_none_of X G z1)
  have GNl:=ok_nameL (P:=l.prog) (w:=w) (base:=base) (mg:=mg) F30 (PySem.W.mg_none_of X G z2)
  have GSl:=ok_sizeL (P:=l.prog) (w:=w) (base:=base) (mg:=mg) F31
  have GKv:=ok_kindOv (P:=l.prog) (w:=w) (base:=base) (mg:=mg) F32 GNl b30 k30 (PySem.W.mg_of X G a30) GSl b31 k31 (PySem.W.mg_of X G a31) (PySem.W.mg_none_of X G z5)
  have GEv:=ok_exOv (P:=l.prog) (w:=w) (base:=base) (mg:=mg) F33 GNl b30 k30 (PySem.W.mg_of X G a30) GSl b31 k31 (PySem.W.mg_of X G a31) (PySem.W.mg_none_of X G z5)
  have GTo:=ok_tokens (P:=l.prog) (w:=w) (base:=base) (mg:=mg) F34 b34 k34 (PySem.W.mg_of X G a34) (PySem.W.mg_none_of X G z3) (PySem.W.mg_none_of X G z5) 6
  have GW:=ok_written (P:=l.prog) (w:=w) (base:=base) (mg:=mg) F35 (PySem.W.mg_none_of X G z1) (PySem.W.mg_none_of X G z2)
  have GL:=ok_loose (P:=l.prog) (w:=w) (base:=base) (mg:=mg) F36 (PySem.W.mg_none_of X G z1) (PySem.W.mg_none_of X G z2)
  have GSp:=ok_spoil (P:=l.prog) (w:=w) (base:=base) (mg:=mg) F37 (PySem.W.mg_none_of X G z1)
  have GTl:=ok_treesL (P:=l.prog) (w:=w) (base:=base) (mg:=mg) F38 (PySem.W.mg_none_of X G z4)
  have GIn:=ok_isName (P:=l.prog) (w:=w) (base:=base) (mg:=mg) F39 (PySem.W.mg_none_of X G z1) (PySem.W.mg_none_of X G z10) (PySem.W.mg_none_of X G z3) (PySem.W.mg_none_of X G z5)
  have GIf:=ok_isFar (P:=l.prog) (w:=w) (base:=base) (mg:=mg) F40 GIn b39 k39 (PySem.W.mg_of X G a39) (PySem.W.mg_none_of X G z1) (PySem.W.mg_none_of X G z10) (PySem.W.mg_none_of X G z3) (PySem.W.mg_none_of X G z5)
  have GNn:=ok_numL (P:=l.prog) (w:=w) (base:=base) (mg:=mg) F41 (PySem.W.mg_none_of X G z1) (PySem.W.mg_none_of X G z3) (PySem.W.mg_none_of X G z5) (PySem.W.mg_none_of X G z8)
  have GIs:=ok_isSize (P:=l.prog) (w:=w) (base:=base) (mg:=mg) F42 GNn b41 k41 (PySem.W.mg_of X G a41)
  have GIk:=ok_isKind (P:=l.prog) (w:=w) (base:=base) (mg:=mg) F43 b43 k43 (PySem.W.mg_of X G a43) GIf b40 k40 (PySem.W.mg_of X G a40) GIs b42 k42 (PySem.W.mg_of X G a42) (PySem.W.mg_none_of X G z3) (PySem.W.mg_none_of X G z5) (PySem.W.mg_none_of X G z1) 31
  have GRs:=ok_rest (P:=l.prog) (w:=w) (base:=base) (mg:=mg) F44 GIf b40 k40 (PySem.W.mg_of X G a40) GIs b42 k42 (PySem.W.mg_of X G a42) GNn b41 k41 (PySem.W.mg_of X G a41) GIn b39 k39 (PySem.W.mg_of X G a39) (PySem.W.mg_none_of X G z1) (PySem.W.mg_none_of X G z8)
  have GIe:=ok_isEx (P:=l.prog) (w:=w) (base:=base) (mg:=mg) F45 b45 k45 (PySem.W.mg_of X G a45) GRs b44 k44 (PySem.W.mg_of X G a44) GIn b39 k39 (PySem.W.mg_of X G a39) (PySem.W.mg_none_of X G z3) (PySem.W.mg_none_of X G z5) (PySem.W.mg_none_of X G z1) (PySem.W.mg_none_of X G z10) 31
  have GRd:=ok_read (P:=l.prog) (w:=w) (base:=base) (mg:=mg) F46 GRk b8 k8 (PySem.W.mg_of X G a8) GRx b9 k9 (PySem.W.mg_of X G a9) GKx b23 k23 (PySem.W.mg_of X G a23) GTx b24 k24 (PySem.W.mg_of X G a24) (PySem.W.mg_of X G eFo) (PySem.W.mg_of X G eT) x1 x2 x3
  have GOt:=ok_ofTree (P:=l.prog) (w:=w) (base:=base) (mg:=mg) F47 GKo b17 k17 (PySem.W.mg_of X G a17) GEx b18 k18 (PySem.W.mg_of X G a18) (PySem.W.mg_of X G eFo) x1
  have GFi:=ok_fits (P:=l.prog) (w:=w) (base:=base) (mg:=mg) F48 GIk b43 k43 (PySem.W.mg_of X G a43) GIe b45 k45 (PySem.W.mg_of X G a45)
  exact ok_law F49 GC b29 k29 (PySem.W.mg_of X G a29) GNl b30 k30 (PySem.W.mg_of X G a30) GKv b32 k32 (PySem.W.mg_of X G a32) GEv b33 k33 (PySem.W.mg_of X G a33) GTo b34 k34 (PySem.W.mg_of X G a34) GSp b37 k37 (PySem.W.mg_of X G a37) GTl b38 k38 (PySem.W.mg_of X G a38) GOt b47 k47 (PySem.W.mg_of X G a47) GFi b48 k48 (PySem.W.mg_of X G a48) GL b36 k36 (PySem.W.mg_of X G a36) GRd b46 k46 (PySem.W.mg_of X G a46) GW b35 k35 (PySem.W.mg_of X G a35) (PySem.W.mg_none_of X G z1) (PySem.W.mg_none_of X G z2)
theorem walk {l:PySem.W.OpenLaw} {q:Program} {loose:List Str} {XP:(Str → Option Value) → Heap → Prop} {YP:World → Heap → Prop} {d:DefRec} {K:Params → PySem.W.Frag} (hn:l.most = some 63) (hdf:d.params.defaults = [])
    (hY:∀ (w:World) (h:Heap),YP w h → (K w.params).In h)
    (F:∀ (w:World) (mg:Str → Option Value) (fa:Addr) (h:Heap),(K w.params).In h → h.Ns mainGlobals mg → mg d.name = some (.ref fa) →
      ∃ fd:FuncData,(∀ (s:Shared) (u:Value),BindsTo s fd ⟨[u],[]⟩ [("_law_script",u)]) ∧ ∀ base:Heap,(K w.params).In base → base.Ns mainGlobals mg → FnOk l.prog w (K w.params) mg base CX0 101 fa fd ["_law_script"] (spLaw (K w.params))) :
    PySem.W.WalkO q loose XP YP l.row.toRowW d [] (fun f vs => PySem.call f vs) :=
  L2.walk_of (n:=63) (k:=101) (x:="_law_script") (CX:=fun _ => CX0) (sp:=fun w => spLaw (K w.params)) hn (by decide) hdf ⟨rfl,by decide,by decide,rfl⟩ hY F (fun _ _ a ns hl _ hS => ⟨a,ns,rfl,hS,hl,fun _ => rfl⟩) fun _ _ _ _ _ z => z
end K18
open PySem PySem.W PyProof.Rows
set_option maxRecDepth 100000 in
set_option maxHeartbeats 0 in
theorem PySem.Challenge.cw_sealhouse_k18_no_kind_no_expression_holds : PySem.Challenge.rw_sealhouse_k18_no_kind_no_expression.Holds := by
  w_on; o_law; z_head; (case hw => w_witness2)
  k_fill
  refine L2.walk_z (fun _ => rfl) ?_
  refine K18.walk (l:=PySem.Challenge.rw_sealhouse_k18_no_kind_no_expression) rfl rfl (fun w h Y => Y) ?F
  case F =>
    intro w mg fa h KX G hmg
    refine' K18.all_mk KX G hmg ?a1 ?l1 ?c1 ?k1 ?a2 ?l2 ?c2 ?k2 ?a3 ?l3 ?c3 ?k3 ?a4 ?l4 ?c4 ?k4 ?a5 ?l5 ?c5 ?k5 ?a6 ?l6 ?c6 ?k6 ?a7 ?l7 ?c7 ?k7 ?a8 ?l8 ?c8 ?k8 ?a9 ?l9 ?c9 ?k9 ?a10 ?l10 ?c10 ?k10 ?a11 ?l11 ?c11 ?k11 ?a12 ?l12 ?c12 ?k12 ?a13 ?l13 ?c13 ?k13 ?a14 ?l14 ?c14 ?k14 ?a15 ?l15 ?c15 ?k15 ?a16 ?l16 ?c16 ?k16 ?a17 ?l17 ?c17 ?k17 ?a18 ?l18 ?c18 ?k18 ?a19 ?l19 ?c19 ?k19 ?a20 ?l20 ?c20 ?k20 ?a21 ?l21 ?c21 ?k21 ?a22 ?l22 ?c22 ?k22 ?a23 ?l23 ?c23 ?k23 ?a24 ?l24 ?c24 ?k24 ?a25 ?l25 ?c25 ?k25 ?a26 ?l26 ?c26 ?k26 ?a27 ?l27 ?c27 ?k27 ?a28 ?l28 ?c28 ?k28 ?a29 ?l29 ?c29 ?k29 ?a30 ?l30 ?c30 ?k30 ?a31 ?l31 ?c31 ?k31 ?a32 ?l32 ?c32 ?k32 ?a33 ?l33 ?c33 ?k33 ?a34 ?l34 ?c34 ?k34 ?a35 ?l35 ?c35 ?k35 ?a36 ?l36 ?c36 ?k36 ?a37 ?l37 ?c37 ?k37 ?a38 ?l38 ?c38 ?k38 ?a39 ?l39 ?c39 ?k39 ?a40 ?l40 ?c40 ?k40 ?a41 ?l41 ?c41 ?k41 ?a42 ?l42 ?c42 ?k42 ?a43 ?l43 ?c43 ?k43 ?a44 ?l44 ?c44 ?k44 ?a45 ?l45 ?c45 ?k45 ?a46 ?l46 ?c46 ?k46 ?a47 ?l47 ?c47 ?k47 ?a48 ?l48 ?c48 ?k48 ?a49 ?l49 ?c49 ?k49 ?eT ?eFo ?xT ?xF ?x1 ?x2 ?x3 ?eD ?eL ?eN ?eF ?eM ?eG ?eP ?lT ?eA ?eO ?lO ?eE ?lE ?eB ?lB ?qB ?eH ?lH ?qH ?z1 ?z2 ?z3 ?z4 ?z5 ?z6 ?z7 ?z8 ?z9 ?z10
    (case a1 => k_is)
    (case l1 => k_is)
    (case c1 => k_is)
    (case k1 => k_is)
    (case a2 => k_is)
    (case l2 => k_is)
    (case c2 => k_is)
    (case k2 => k_is)
    (case a3 => k_is)
    (case l3 => k_is)
    (case c3 => k_is)
    (case k3 => k_is)
    (case a4 => k_is)
    (case l4 => k_is)
    (case c4 => k_is)
    (case k4 => k_is)
    (case a5 => k_is)
    (case l5 => k_is)
    (case c5 => k_is)
    (case k5 => k_is)
    (case a6 => k_is)
    (case l6 => k_is)
    (case c6 => k_is)
    (case k6 => k_is)
    (case a7 => k_is)
    (case l7 => k_is)
    (case c7 => k_is)
    (case k7 => k_is)
    (case a8 => k_is)
    (case l8 => k_is)
    (case c8 => k_is)
    (case k8 => k_is)
    (case a9 => k_is)
    (case l9 => k_is)
    (case c9 => k_is)
    (case k9 => k_is)
    (case a10 => k_is)
    (case l10 => k_is)
    (case c10 => k_is)
    (case k10 => k_is)
    (case a11 => k_is)
    (case l11 => k_is)
    (case c11 => k_is)
    (case k11 => k_is)
    (case a12 => k_is)
    (case l12 => k_is)
    (case c12 => k_is)
    (case k12 => k_is)
    (case a13 => k_is)
    (case l13 => k_is)
    (case c13 => k_is)
    (case k13 => k_is)
    (case a14 => k_is)
    (case l14 => k_is)
    (case c14 => k_is)
    (case k14 => k_is)
    (case a15 => k_is)
    (case l15 => k_is)
    (case c15 => k_is)
    (case k15 => k_is)
    (case a16 => k_is)
    (case l16 => k_is)
    (case c16 => k_is)
    (case k16 => k_is)
    (case a17 => k_is)
    (case l17 => k_is)
    (case c17 => k_is)
    (case k17 => k_is)
    (case a18 => k_is)
    (case l18 => k_is)
    (case c18 => k_is)
    (case k18 => k_is)
    (case a19 => k_is)
    (case l19 => k_is)
    (case c19 => k_is)
    (case k19 => k_is)
    (case a20 => k_is)
    (case l20 => k_is)
    (case c20 => k_is)
    (case k20 => k_is)
    (case a21 => k_is)
    (case l21 => k_is)
    (case c21 => k_is)
    (case k21 => k_is)
    (case a22 => k_is)
    (case l22 => k_is)
    (case c22 => k_is)
    (case k22 => k_is)
    (case a23 => k_is)
    (case l23 => k_is)
    (case c23 => k_is)
    (case k23 => k_is)
    (case a24 => k_is)
    (case l24 => k_is)
    (case c24 => k_is)
    (case k24 => k_is)
    (case a25 => k_is)
    (case l25 => k_is)
    (case c25 => k_is)
    (case k25 => k_is)
    (case a26 => k_is)
    (case l26 => k_is)
    (case c26 => k_is)
    (case k26 => k_is)
    (case a27 => k_is)
    (case l27 => k_is)
    (case c27 => k_is)
    (case k27 => k_is)
    (case a28 => k_is)
    (case l28 => k_is)
    (case c28 => k_is)
    (case k28 => k_is)
    (case a29 => k_is)
    (case l29 => k_is)
    (case c29 => k_is)
    (case k29 => k_is)
    (case a30 => k_is)
    (case l30 => k_is)
    (case c30 => k_is)
    (case k30 => k_is)
    (case a31 => k_is)
    (case l31 => k_is)
    (case c31 => k_is)
    (case k31 => k_is)
    (case a32 => k_is)
    (case l32 => k_is)
    (case c32 => k_is)
    (case k32 => k_is)
    (case a33 => k_is)
    (case l33 => k_is)
    (case c33 => k_is)
    (case k33 => k_is)
    (case a34 => k_is)
    (case l34 => k_is)
    (case c34 => k_is)
    (case k34 => k_is)
    (case a35 => k_is)
    (case l35 => k_is)
    (case c35 => k_is)
    (case k35 => k_is)
    (case a36 => k_is)
    (case l36 => k_is)
    (case c36 => k_is)
    (case k36 => k_is)
    (case a37 => k_is)
    (case l37 => k_is)
    (case c37 => k_is)
    (case k37 => k_is)
    (case a38 => k_is)
    (case l38 => k_is)
    (case c38 => k_is)
    (case k38 => k_is)
    (case a39 => k_is)
    (case l39 => k_is)
    (case c39 => k_is)
    (case k39 => k_is)
    (case a40 => k_is)
    (case l40 => k_is)
    (case c40 => k_is)
    (case k40 => k_is)
    (case a41 => k_is)
    (case l41 => k_is)
    (case c41 => k_is)
    (case k41 => k_is)
    (case a42 => k_is)
    (case l42 => k_is)
    (case c42 => k_is)
    (case k42 => k_is)
    (case a43 => k_is)
    (case l43 => k_is)
    (case c43 => k_is)
    (case k43 => k_is)
    (case a44 => k_is)
    (case l44 => k_is)
    (case c44 => k_is)
    (case k44 => k_is)
    (case a45 => k_is)
    (case l45 => k_is)
    (case c45 => k_is)
    (case k45 => k_is)
    (case a46 => k_is)
    (case l46 => k_is)
    (case c46 => k_is)
    (case k46 => k_is)
    (case a47 => k_is)
    (case l47 => k_is)
    (case c47 => k_is)
    (case k47 => k_is)
    (case a48 => k_is)
    (case l48 => k_is)
    (case c48 => k_is)
    (case k48 => k_is)
    (case a49 => k_is)
    (case l49 => k_is)
    (case c49 => k_is)
    (case k49 => k_is)
    (case eT => k_is)
    (case eFo => k_is)
    (case xT => with_unfolding_all exact rfl)
    (case xF => with_unfolding_all exact rfl)
    (case x1 => exact rfl)
    (case x2 => exact rfl)
    (case x3 => exact rfl)
    (case eD => k_is)
    (case eL => k_is)
    (case eN => k_is)
    (case eF => k_is)
    (case eM => k_is)
    (case eG => k_is)
    (case eP => k_is)
    (case lT => k_is)
    (case eA => k_is)
    (case eO => k_is)
    (case lO => k_is)
    (case eE => k_is)
    (case lE => k_is)
    (case eB => k_is)
    (case lB => with_unfolding_all exact rfl)
    (case qB => exact rfl)
    (case eH => k_is)
    (case lH => with_unfolding_all exact rfl)
    (case qH => exact rfl)
    (case z1 => k_is)
    (case z2 => k_is)
    (case z3 => k_is)
    (case z4 => k_is)
    (case z5 => k_is)
    (case z6 => k_is)
    (case z7 => k_is)
    (case z8 => k_is)
    (case z9 => k_is)
    (case z10 => k_is)
#print axioms PySem.Challenge.cw_sealhouse_k18_no_kind_no_expression_holds
