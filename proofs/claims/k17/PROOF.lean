import PyProof.Rows.All
import Wide.All
import OpenK.AllK
import Wide.FinOn
import Lean
import PyProof.EqAt
import PyProof.EqKinds
import PyProof.TupleCall
import PySem.Challenge.RW_sealhouse_k17_houses_read_and_written
noncomputable section
set_option Elab.async false
set_option linter.all false
set_option maxRecDepth 100000
namespace L2
open PySem PySem.Spec PyProof.Rows
noncomputable abbrev Key:=Sum Int Str
noncomputable def keyIs:Key → Value → Bool
  | .inl k,v => Value.isInt k v
  | .inr x,v => Value.isStrOf x v
noncomputable def keyH (w:World):Key → Int
  | .inl k => hashInt k
  | .inr x => hashStr w x
theorem keyIs_shape:∀ {k:Key} {v:Value},keyIs k v = true → (∃ i t,k = Sum.inl i ∧ v = Value.int i t) ∨ (∃ x t,k = Sum.inr x ∧ v = Value.str x t)
  | .inl i,v,h => by
    obtain ⟨t,e⟩:=Value.isInt_shape (k:=i) (v:=v) h
    exact .inl ⟨i,t,rfl,e⟩
  | .inr x,v,h => by
    obtain ⟨t,e⟩:=Value.isStrOf_shape (x:=x) (v:=v) h
    exact .inr ⟨x,t,rfl,e⟩
theorem keyIs_int (i:Int) (t:Tok):keyIs (.inl i) (.int i t) = true:=by simp [keyIs,Value.isInt]
theorem keyIs_str (x:Str) (t:Tok):keyIs (.inr x) (.str x t) = true:=by simp [keyIs,Value.isStrOf]
theorem key_ll (a b:Int):decide ((Sum.inl a:Key) = Sum.inl b) = (a == b):=by
  by_cases e:a = b
  · subst e; simp
  · have h:¬ (Sum.inl a:Key) = Sum.inl b:=fun q => e (Sum.inl.inj q)
    rw [decide_eq_false h]
    exact (beq_eq_false_iff_ne.mpr e).symm
theorem key_rr (a b:Str):decide ((Sum.inr a:Key) = Sum.inr b) = decide (a = b):=by
  by_cases e:a = b
  · subst e; simp
  · have h:¬ (Sum.inr a:Key) = Sum.inr b:=fun q => e (Sum.inr.inj q)
    rw [decide_eq_false h,decide_eq_false e]
theorem key_lr (a:Int) (b:Str):decide ((Sum.inl a:Key) = Sum.inr b) = false:=decide_eq_false (fun q => nomatch q)
theorem key_rl (a:Str) (b:Int):decide ((Sum.inr a:Key) = Sum.inl b) = false:=decide_eq_false (fun q => nomatch q)
noncomputable def mixKind (prog:Program) (w:World):PySem.KeyKind prog w Key where
  is:=keyIs
  hash:=keyH w
  inj:=fun v a b ha hb => by
    rcases keyIs_shape ha with ⟨i,t,rfl,rfl⟩ | ⟨x,t,rfl,rfl⟩
    · rcases keyIs_shape hb with ⟨j,u,rfl,e⟩ | ⟨y,u,rfl,e⟩
      · injection e with e1 _; rw [e1]
      · exact nomatch e
    · rcases keyIs_shape hb with ⟨j,u,rfl,e⟩ | ⟨y,u,rfl,e⟩
      · exact nomatch e
      · injection e with e1 _; rw [e1]
  byValue:=fun k v h => by
    rcases keyIs_shape h with ⟨i,t,rfl,rfl⟩ | ⟨x,t,rfl,rfl⟩ <;> rfl
  pyHash:=fun hv h => by
    rcases keyIs_shape hv with ⟨i,t,rfl,rfl⟩ | ⟨x,t,rfl,rfl⟩
    · exact wpAny_pyHash_int h
    · exact wpAny_pyHash_str h
  eqBool:=fun hu hv h => by
    rcases keyIs_shape hu with ⟨i,t,rfl,rfl⟩ | ⟨x,t,rfl,rfl⟩
    · rcases keyIs_shape hv with ⟨j,u,rfl,rfl⟩ | ⟨y,u,rfl,rfl⟩
      · rw [key_ll] at h; exact wpAny_eqBool_int h
      · rw [key_lr] at h; exact SeqAt.EqAt.int_str i t y u _ _ _ _ h
    · rcases keyIs_shape hv with ⟨j,u,rfl,rfl⟩ | ⟨y,u,rfl,rfl⟩
      · rw [key_rl] at h; exact SeqAt.EqAt.str_int x t j u _ _ _ _ h
      · rw [key_rr] at h; exact wpAny_eqBool_str h
  «strs»:=fun k x t v h => by
    rcases keyIs_shape h with ⟨i,u,rfl,e⟩ | ⟨y,u,rfl,e⟩
    · exact nomatch e
    · injection e with e1 _
      subst e1
      cases v <;> rfl
theorem mixKind_int (prog:Program) (w:World) (i:Int) (t:Tok):(mixKind prog w).is (.inl i) (.int i t) = true:=keyIs_int i t
theorem mixKind_str (prog:Program) (w:World) (x:Str) (t:Tok):(mixKind prog w).is (.inr x) (.str x t) = true:=keyIs_str x t
end L2
namespace L2
open PySem PySem.Spec PyProof.Rows
inductive V where
  | non | bl (b:Bool) | int (i:Int) | str (x:Str) | byt (b:Array UInt8) | flt (b:UInt64) | ref (a:Addr) | ty (n:String)
  deriving DecidableEq
noncomputable def RelV:V → Value → Prop
  | .non,u => u = Value.none
  | .bl b,u => u = Value.bool b
  | .int i,u => ∃ t,u = Value.int i t
  | .str x,u => ∃ t,u = Value.str x t
  | .byt b,u => ∃ t,u = Value.bytes b t
  | .flt b,u => ∃ t,u = Value.float b t
  | .ref a,u => u = Value.ref a
  | .ty n,u => u = Value.type n
noncomputable abbrev Vals:List V → List Value → Prop:=Paired RelV
theorem Vals.length {xs:List V} {us:List Value} (r:Vals xs us):xs.length = us.length:=Paired.length r
theorem Vals.get:∀ {xs:List V} {us:List Value} {i:Nat} {x:V},Vals xs us → xs[i]? = some x → ∃ u,us[i]? = some u ∧ RelV x u
  | _,_,_,_,.nil,e => by simp at e
  | _,_,0,_,.cons r _,e => by simp at e; subst e; exact ⟨_,rfl,r⟩
  | _,_,i + 1,x,.cons _ t,e => by
    obtain ⟨u,h1,h2⟩:=Vals.get (i:=i) (x:=x) t (by simpa using e)
    exact ⟨u,by simpa using h1,h2⟩
theorem Vals.append:∀ {xs ys:List V} {us ws:List Value},Vals xs us → Vals ys ws → Vals (xs ++ ys) (us ++ ws)
  | _,_,_,_,.nil,s => s
  | _,_,_,_,.cons r t,s => .cons r (Vals.append t s)
theorem Vals.take:∀ {xs:List V} {us:List Value} (n:Nat),Vals xs us → Vals (xs.take n) (us.take n)
  | _,_,0,_ => .nil
  | _,_,_ + 1,.nil => .nil
  | _,_,n + 1,.cons r t => .cons r (Vals.take n t)
theorem Vals.drop:∀ {xs:List V} {us:List Value} (n:Nat),Vals xs us → Vals (xs.drop n) (us.drop n)
  | _,_,0,r => r
  | _,_,_ + 1,.nil => .nil
  | _,_,n + 1,.cons _ t => Vals.drop n t
noncomputable def RelO:Option V → Option Value → Prop
  | some v,some u => RelV v u
  | none,none => True
  | _,_ => False
noncomputable def KV {κ:Type}:List (κ × V) → List (κ × Value) → Prop:=Paired fun (p:κ × V) (q:κ × Value) => p.1 = q.1 ∧ RelV p.2 q.2
noncomputable def kV:Key → V
  | .inl i => .int i
  | .inr x => .str x
inductive HO where
  | lst (xs:List V)
  | tup (xs:List V)
  | dK (kvs:List (Key × V)) | dT (kvs:List (List Key × V))
  | set (S:Int → Bool) (n:Nat)
  | ins (C dx:Addr) (fs:List (Str × V))
  | own (x:Addr)
  | xd (fs:List (Str × V))
  | met (f x:Addr)
  | rng (lo hi:Int)
  | frz (o:Obj) (u:HO)
  | tbl (ps:Array Value)
  | ext (φ:Heap → Prop)
noncomputable abbrev Hp:=Addr → Option HO
noncomputable def upd (H:Hp) (a:Addr) (o:HO):Hp:=fun b => if b = a then some o else H b
theorem upd_same {H:Hp} {a:Addr} {o:HO}:upd H a o a = some o:=by unfold upd; rw [if_pos rfl]
theorem upd_ne {H:Hp} {a b:Addr} {o:HO} (h:b ≠ a):upd H a o b = H b:=by unfold upd; rw [if_neg h]
theorem ne_of_none {H:Hp} {a b:Addr} {o:HO} (h:H a = some o) (h':H b = none):a ≠ b:=by
  intro e; subst e; rw [h] at h'; cases h'
section
variable (P:Program) (w:World)
noncomputable def ObjOk (H:Hp) (h:Heap) (a:Addr):HO → Prop
  | .lst xs => xs.length ≤ sizeLine ∧ ∃ (its:List Value) (n:Nat),Vals xs its ∧ h.get? a = some { cls:=.type "list",data:=.seq its.toArray n }
  | .tup xs => xs.length ≤ sizeLine ∧ ∃ its:List Value,Vals xs its ∧ IsTup h a its.toArray
  | .dK kvs => kvs.length ≤ sizeLine ∧ (a == sysModules) = false ∧ ∃ vs,KV kvs vs ∧ h.DictOf (mixKind P w) a vs
  | .dT kvs => kvs.length ≤ sizeLine ∧ (a == sysModules) = false ∧ ∃ xs:List (List Key × Addr × Value),
      Paired (fun (p:List Key × V) (q:List Key × Addr × Value) => p.1 = q.1 ∧ H q.2.1 = some (.tup (p.1.map kV)) ∧ RelV p.2 q.2.2) kvs xs ∧
      ∃ o es ep,h.get? a = some o ∧ o.ExactDict ∧ o.data = .dict es ep ∧ es.toList = xs.map (entryOfKey (tupleKind (mixKind P w))) ∧ (xs.map (·.1)).Nodup
  | .set S n => h.SetOf (intKind P w) a S n
  | .ins C dx fs => H dx = some (.own a) ∧ fs.length ≤ 1000 ∧ dx ≠ a ∧ h.get? a = some (PySem.W.instObj C dx) ∧
      ∃ mA,h.Ns1 dx mA ∧ (∀ f,RelO (fs.lookup f) (mA f)) ∧ PySem.Within mA (fs.map (·.1))
  | .own _ => ∃ o,h.get? a = some o
  | .xd fs => ∃ mA,h.Ns1 a mA ∧ ∀ f,RelO (fs.lookup f) (mA f)
  | .rng lo hi => ∃ t u v,h.get? a = some { cls:=.type "range",data:=.fields #[.int lo t,.int hi u,.int 1 v] }
  | .frz o u => h.get? a = some o ∧ ObjOk H h a u
  | .tbl ps => h.get? a = some { cls:=.none,data:=.fields ps }
  | .met f x => h.get? a = some (PySem.W.methodObj (.ref f) (.ref x))
  | .ext φ => φ h ∧ (∃ o,h.get? a = some o) ∧ ∀ h1 h2:Heap,φ h1 → (∀ o,h1.get? a = some o → h2.get? a = some o) → φ h2
noncomputable def HOk (H:Hp) (h:Heap):Prop:=∀ a o,H a = some o → ObjOk P w H h a o
end
section
variable {P:Program} {w:World} {H H':Hp} {h h':Heap} {a:Addr} {o:HO}
theorem ObjOk.lt (x:ObjOk P w H h a o):a < h.objs.size:=by
  cases o with
  | lst xs => obtain ⟨_,_,_,_,e⟩:=x; exact Heap.lt_size e
  | tup xs => obtain ⟨_,_,_,p⟩:=x; exact p.lt
  | dK kvs => obtain ⟨_,_,_,_,o,_,_,e,_⟩:=x; exact Heap.lt_size e
  | dT kvs => obtain ⟨_,_,_,_,o,_,_,e,_⟩:=x; exact Heap.lt_size e
  | set S n => obtain ⟨o,_,_,_,e,_⟩:=x; exact Heap.lt_size e
  | ins C dx fs => obtain ⟨_,_,_,e,_⟩:=x; exact Heap.lt_size e
  | own y => obtain ⟨_,e⟩:=x; exact Heap.lt_size e
  | xd fs => obtain ⟨_,⟨_,_,_,e,_⟩,_⟩:=x; exact Heap.lt_size e
  | rng lo hi => obtain ⟨_,_,_,e⟩:=x; exact Heap.lt_size e
  | frz ob u => obtain ⟨e,_⟩:=x; exact Heap.lt_size e
  | tbl ps => exact Heap.lt_size (show h.get? a = some _ from x)
  | met f y => exact Heap.lt_size (show h.get? a = some _ from x)
  | ext φ => obtain ⟨_,⟨_,e⟩,_⟩:=x; exact Heap.lt_size e
theorem Paired.mapP {α β:Type} {F G:α → β → Prop}:∀ {l₁:List α} {l₂:List β},Paired F l₁ l₂ → (∀ a b,F a b → G a b) → Paired G l₁ l₂
  | _,_,.nil,_ => .nil
  | _,_,.cons r t,f => .cons (f _ _ r) (Paired.mapP t f)
theorem ObjOk.stay (x:ObjOk P w H h a o) (k:∀ b u,(b = a ∨ H b = some (.own a)) → h.get? b = some u → h'.get? b = some u)
    (ho:∀ b,H b = some (.own a) → H' b = some (.own a)) (ht:∀ b xs,H b = some (.tup xs) → H' b = some (.tup xs)):ObjOk P w H' h' a o:=by
  induction o with
  | lst xs => obtain ⟨z,its,n,r,e⟩:=x; exact ⟨z,its,n,r,k _ _ (.inl rfl) e⟩
  | tup xs => obtain ⟨z,its,r,ob,e,c⟩:=x; exact ⟨z,its,r,ob,k _ _ (.inl rfl) e,c⟩
  | dK kvs => obtain ⟨z,y,vs,r,ob,es,ep,e,c⟩:=x; exact ⟨z,y,vs,r,ob,es,ep,k _ _ (.inl rfl) e,c⟩
  | dT kvs =>
    obtain ⟨z,y,xs,r,ob,es,ep,e,c⟩:=x
    exact ⟨z,y,xs,Paired.mapP r fun p q z => ⟨z.1,ht _ _ z.2.1,z.2.2⟩,ob,es,ep,k _ _ (.inl rfl) e,c⟩
  | set S n => obtain ⟨ob,es,ep,t,e,c⟩:=x; exact ⟨ob,es,ep,t,k _ _ (.inl rfl) e,c⟩
  | ins C dx fs =>
    obtain ⟨d,z,ne,e,mA,⟨od,es,ep,e2,c⟩,r⟩:=x
    exact ⟨ho _ d,z,ne,k _ _ (.inl rfl) e,mA,⟨od,es,ep,k _ _ (.inr d) e2,c⟩,r⟩
  | own y => obtain ⟨ob,e⟩:=x; exact ⟨ob,k _ _ (.inl rfl) e⟩
  | xd fs => obtain ⟨mA,⟨od,es,ep,e,c⟩,r⟩:=x; exact ⟨mA,⟨od,es,ep,k _ _ (.inl rfl) e,c⟩,r⟩
  | rng lo hi => obtain ⟨t,u,v,e⟩:=x; exact ⟨t,u,v,k _ _ (.inl rfl) e⟩
  | frz ob u ih => obtain ⟨e,q⟩:=x; exact ⟨k _ _ (.inl rfl) e,ih q⟩
  | tbl ps =>
    have e:h.get? a = some { cls:=.none,data:=.fields ps }:=x
    show h'.get? a = some { cls:=.none,data:=.fields ps }
    exact k a _ (.inl rfl) e
  | met f y =>
    have e:h.get? a = some (PySem.W.methodObj (.ref f) (.ref y)):=x
    show h'.get? a = some (PySem.W.methodObj (.ref f) (.ref y))
    exact k a _ (.inl rfl) e
  | ext φ => obtain ⟨p,⟨o,e⟩,st⟩:=x; exact ⟨st _ _ p fun o q => k _ _ (.inl rfl) q,⟨o,k _ _ (.inl rfl) e⟩,st⟩
theorem HOk.lt (x:HOk P w H h) (e:H a = some o):a < h.objs.size:=(x a o e).lt
theorem HOk.fresh (x:HOk P w H h) (e:h.objs.size ≤ a):H a = none:=by
  cases q:H a with
  | none => rfl
  | some u => exact absurd (Nat.lt_of_lt_of_le (x.lt q) e) (Nat.lt_irrefl _)
theorem HOk.kept (x:HOk P w H h) (k:∀ b u,h.get? b = some u → h'.get? b = some u):HOk P w H h':=fun a o e =>
  (x a o e).stay (fun b u _ q => k b u q) (fun _ q => q) fun _ _ q => q
theorem HOk.laid (x:HOk P w H h) (k:∀ b u,h.get? b = some u → h'.get? b = some u) (hp:h.objs.size ≤ a) (new:ObjOk P w (upd H a o) h' a o):HOk P w (upd H a o) h':=fun b u e => by
  have hn:=x.fresh hp
  by_cases hb:b = a
  · subst hb; rw [upd_same] at e; cases e; exact new
  · rw [upd_ne hb] at e
    exact (x b u e).stay (fun c v _ q => k c v q) (fun c q => by rw [upd_ne (ne_of_none q hn)]; exact q) fun c xs q => by rw [upd_ne (ne_of_none q hn)]; exact q
end
noncomputable def Rd (H:Hp) (a:Addr) (u:HO):Prop:=H a = some u ∨ ∃ o,H a = some (.frz o u)
theorem Rd.ok {P:Program} {w:World} {H:Hp} {h:Heap} {a:Addr} {u:HO} (r:Rd H a u) (x:HOk P w H h):ObjOk P w H h a u:=by
  rcases r with r | ⟨o,r⟩
  · exact x a u r
  · obtain ⟨_,q⟩:=x a _ r
    exact q
noncomputable def Mut:Option HO → Prop
  | some (.lst _) => True
  | some (.dK _) => True
  | some (.dT _) => True
  | some (.set _ _) => True
  | some (.ins _ _ _) => True
  | some (.ext _) => True
  | _ => False
section
variable {P:Program} {w:World} {H:Hp} {h h':Heap} {x e:Addr} {o':HO}
theorem HOk.write (ok:HOk P w H h) (mu:Mut (H x)) (he:e = x ∨ H e = some (.own x)) (k:∀ b u,b ≠ e → h.get? b = some u → h'.get? b = some u) (heo:∃ u,h'.get? e = some u)
    (new:ObjOk P w (upd H x o') h' x o'):HOk P w (upd H x o') h':=fun b u q => by
  have nown:∀ c y,H c = some (.own y) → c ≠ x:=fun c y r z => by subst z; rw [r] at mu; exact mu
  have ntup:∀ c xs,H c = some (.tup xs) → c ≠ x:=fun c xs r z => by subst z; rw [r] at mu; exact mu
  by_cases hb:b = x
  · subst hb; rw [upd_same] at q; cases q; exact new
  · rw [upd_ne hb] at q
    by_cases hbe:b = e
    · have q':H b = some (.own x):=by
        rcases he with z | z
        · exact absurd (hbe.trans z) hb
        · rw [hbe]; exact z
      rw [q] at q'; cases q'
      obtain ⟨v,hv⟩:=heo
      exact ⟨v,by rw [hbe]; exact hv⟩
    · refine (ok b u q).stay (fun c v hc r => k c v ?_ r) (fun c r => by rw [upd_ne (nown c b r)]; exact r) fun c xs r => by rw [upd_ne (ntup c xs r)]; exact r
      rcases hc with rfl | hc
      · exact hbe
      · rintro rfl
        rcases he with z | z
        · exact nown c b hc z
        · rw [hc] at z; cases z; exact hb rfl
end
structure Un (fs ex:List Addr) (H H':Hp) (h h':Heap):Prop where
  keep:∀ b o,h.get? b = some o → H b = none → b ∉ fs → b ∉ ex → h'.get? b = some o
  slot:∀ b o,h.get? b = some o → H b = none → b ∈ fs → b ∉ ex → ∃ sl,h'.get? b = some { o with slots:=sl }
  free:∀ b o,h.get? b = some o → H b = none → b ∉ ex → H' b = none
  there:∀ b o,h.get? b = some o → b ∉ ex → ∃ o',h'.get? b = some o'
  tups:∀ b xs,H b = some (.tup xs) → H' b = some (.tup xs)
  frzs:∀ b o u,H b = some (.frz o u) → H' b = some (.frz o u)
  tbls:∀ b ps,H b = some (.tbl ps) → ∃ more,H' b = some (.tbl (ps ++ more))
section
variable {fs fs' ex ex':List Addr} {H H1 H2:Hp} {h h1 h2 h':Heap} {a x e:Addr} {o:HO}
theorem Un.any (u:Un fs ex H H1 h h1) {b:Addr} {ob:Obj} (q:h.get? b = some ob) (n:H b = none) (hx:b ∉ ex):∃ sl,h1.get? b = some { ob with slots:=sl }:=by
  by_cases hb:b ∈ fs
  · exact u.slot b ob q n hb hx
  · exact ⟨ob.slots,u.keep b ob q n hb hx⟩
theorem Un.kept (k:∀ b u,h.get? b = some u → h'.get? b = some u):Un fs ex H H h h' :=
  ⟨fun b ob q _ _ _ => k b ob q,fun b ob q _ _ _ => ⟨ob.slots,k b ob q⟩,fun _ _ _ n _ => n,fun b ob q _ => ⟨ob,k b ob q⟩,fun _ _ q => q,fun _ _ _ q => q,fun _ ps q => ⟨#[],by rw [q]; simp⟩⟩
theorem Un.refl:Un fs ex H H h h:=Un.kept fun _ _ q => q
theorem Un.laid (k:∀ b u,h.get? b = some u → h'.get? b = some u) (hp:h.objs.size ≤ a) (hn:H a = none):Un fs ex H (upd H a o) h h' where
  keep:=fun b u q _ _ _ => k b u q
  slot:=fun b u q _ _ _ => ⟨u.slots,k b u q⟩
  free:=fun b u q n _ => by rw [upd_ne (Nat.ne_of_lt (Nat.lt_of_lt_of_le (Heap.lt_size q) hp))]; exact n
  there:=fun b u q _ => ⟨u,k b u q⟩
  tups:=fun b xs q => by rw [upd_ne (ne_of_none q hn)]; exact q
  frzs:=fun b u xs q => by rw [upd_ne (ne_of_none q hn)]; exact q
  tbls:=fun b ps q => ⟨#[],by rw [upd_ne (ne_of_none q hn),q]; simp⟩
theorem Un.write (mu:Mut (H x)) (he:e = x ∨ H e = some (.own x)) (k:∀ b u,b ≠ e → h.get? b = some u → h'.get? b = some u) (heo:∃ u,h'.get? e = some u):Un fs ex H (upd H x o) h h':=by
  have hx:∀ b,H b = none → b ≠ x:=fun b n z => by subst z; rw [n] at mu; exact mu
  have hb:∀ b,H b = none → b ≠ e:=fun b n z => by
    subst z
    rcases he with r | r
    · exact hx b n r
    · rw [n] at r; cases r
  have hm:∀ b u,H b = some u → ¬ Mut (some u) → b ≠ x:=fun b u q nm z => by subst z; rw [q] at mu; exact nm mu
  refine ⟨fun b u q n _ _ => k b u (hb b n) q,fun b u q n _ _ => ⟨u.slots,k b u (hb b n) q⟩,fun b u q n _ => by rw [upd_ne (hx b n)]; exact n,fun b u q _ => ?_,
    fun b xs q => by rw [upd_ne (hm b _ q fun z => z)]; exact q,fun b u xs q => by rw [upd_ne (hm b _ q fun z => z)]; exact q,fun b ps q => ⟨#[],by rw [upd_ne (hm b _ q fun z => z),q]; simp⟩⟩
  by_cases hbe:b = e
  · subst hbe; exact heo
  · exact ⟨u,k b u hbe q⟩
end
noncomputable def trk (h:Heap) (H:Hp):List Addr:=(List.range h.objs.size).filter fun a => (H a).isSome
noncomputable def hidT (h:Heap) (H:Hp):Heap:=PySem.W.hideAll h (trk h H)
theorem hidT_size (h:Heap) (H:Hp):(hidT h H).objs.size = h.objs.size:=PySem.W.hideAll_size _ _
theorem hidT_get {h:Heap} {H:Hp} {b:Addr} {o:Obj} (e:h.get? b = some o) (n:H b = none):(hidT h H).get? b = some o :=
  PySem.W.hideAll_get _ e fun hm => by
    have q:(H b).isSome = true:=(List.mem_filter.mp hm).2
    rw [n] at q; simp at q
theorem of_hidT {h:Heap} {H:Hp} {b:Addr} {o:Obj} (e:(hidT h H).get? b = some o):h.get? b = some o ∧ H b = none:=by
  have e':h.get? b = some o:=PySem.W.of_hideAll (trk h H) e
  refine ⟨e',?_⟩
  cases q:H b with
  | none => rfl
  | some x =>
    have hm:b ∈ trk h H:=List.mem_filter.mpr ⟨List.mem_range.mpr (Heap.lt_size e'),by simp [q]⟩
    have z:(hidT h H).get? b = none:=PySem.W.hideAll_none (trk h H) hm
    rw [z] at e; cases e
noncomputable def allNews (g h:Heap) (L:Addr):List (Addr × Obj):=(List.range h.objs.size).filterMap fun a => if a = L ∨ (g.get? a).isSome = true then none else (h.get? a).map fun o => (a,o)
noncomputable def rest (g h:Heap) (L d:Addr):List (Addr × Obj):=(allNews g h L).filter fun p => decide (p.1 ≠ d)
end L2
namespace L2
open PySem PySem.Spec PyProof.Rows
structure Mod (K:PySem.W.Frag) (mg:Str → Option Value) (base:Heap):Prop where
  kin:K.In base
  glob:base.Ns mainGlobals mg
  blt:∃ mb,base.Ns builtinsNs mb ∧ ∀ x:Str,x ≠ "__name__" → mb x = bootBuiltins x
  nolimit:base.NoLimit
structure Cx where
  prog:Program
  w:World
  K:PySem.W.Frag
  mg:Str → Option Value
  base:Heap
  A:Around
  N:List Str
  s₀:Shared
  H₀:Hp
  env:Env
  outer:List Env
  stack:List Env
  ex:List Addr
  fn:Str → Bool
  calm:Bool
  pn:List (Addr × Obj)
  xe:Value → Shared → Prop
noncomputable def frs (l:List Env):List Addr:=l.filterMap (·.frame)
noncomputable abbrev Cx.fs (X:Cx):List Addr:=frs X.outer
noncomputable def Vis (sc:Scope) (x:Str):Prop:=sc.names.lookup x = some .local ∨ sc.names.lookup x = some .cell ∨ sc.names.lookup x = some .free
noncomputable def Loc (sc:Scope) (x:Str):Prop:=sc.names.lookup x = some .local ∨ sc.names.lookup x = some .cell
noncomputable def Look (env:Env) (h:Heap) (m:Str → Option Value) (x:Str) (u:Value):Prop :=
  (env.kindOf x = some .local ∧ m x = some u) ∨ ((env.kindOf x = some .cell ∨ env.kindOf x = some .free) ∧ ∃ c,env.cells.lookup x = some c ∧ h.IsCell c (some u))
structure Cx.Ok (X:Cx):Prop where
  mod:Mod X.K X.mg X.base
  kind:X.env.scope.kind = .function
  glob:X.env.globals = mainGlobals
  blt:X.env.builtins = builtinsNs
  above:X.s₀.heap.objs.size ≤ X.env.locals
  inj:∀ x y c,X.env.cells.lookup x = some c → X.env.cells.lookup y = some c → x = y
  has:∀ x,(X.env.kindOf x = some .cell ∨ X.env.kindOf x = some .free) → ∃ c,X.env.cells.lookup x = some c
  cab:∀ x c,X.fn x = true → X.env.cells.lookup x = some c → X.s₀.heap.objs.size ≤ c
  hd:X.calm = true → X.A.handled = none
  frames:X.A.frames = some X.stack
  stk:X.stack = X.outer ∨ (X.stack = X.env :: X.outer ∧ X.env.frame = some X.env.locals)
  exf:∀ b ∈ X.ex,b ≠ X.env.locals ∧ ∀ x c,X.env.cells.lookup x = some c → c ≠ b
  bs:∀ b o,X.base.get? b = some o → X.s₀.heap.get? b = some o ∧ X.H₀ b = none
  bsz:X.base.objs.size ≤ X.s₀.heap.objs.size
  noex:∀ b o,X.base.get? b = some o → b ∉ X.ex
  exfs:∀ b ∈ X.ex,b ∉ X.fs
  funs:X.s₀.heap.FunFrames X.base X.outer
  frf:∀ b ∈ X.fs,X.H₀ b = none
structure Inv (X:Cx) (pins:List (Addr × Obj)) (σ:List (Option V)) (H:Hp) (s:Shared):Prop where
  ok:X.Ok
  os:s.os = X.s₀.os
  bare:AllBare s.gens
  base:Un X.fs X.ex X.H₀ H X.s₀.heap s.heap
  loc:∃ m,s.heap.Ns X.env.locals m ∧ ∀ (i:Nat) (x:Str) (v:V),X.N[i]? = some x → σ[i]? = some (some v) → Vis X.env.scope x → ∃ u,RelV v u ∧ Look X.env s.heap m x u
  cell:∀ x c,X.env.cells.lookup x = some c → ∃ v,s.heap.IsCell c v
  free:H X.env.locals = none
  freeC:∀ x c,X.env.cells.lookup x = some c → H c = none
  pin:∀ p ∈ X.pn ++ pins,s.heap.get? p.1 = some p.2 ∧ H p.1 = none ∧ p.1 ≠ X.env.locals ∧ p.1 ∉ X.fs ∧ ∀ v,p.2.data ≠ .cell v
  hok:HOk X.prog X.w H s.heap
  len:σ.length = X.N.length
section
variable {X:Cx} {pins:List (Addr × Obj)} {σ:List (Option V)} {H H':Hp} {s:Shared} {h':Heap}
theorem Cx.Ok.nofr (ok:X.Ok) {b:Addr} {o:Obj} (e:X.base.get? b = some o):b ∉ X.fs:=fun hb => by
  have:=(ok.funs.mem hb).1
  rw [e] at this; cases this
theorem Inv.bs (I:Inv X pins σ H s):∀ b o,X.base.get? b = some o → s.heap.get? b = some o ∧ H b = none:=fun b o e =>
  ⟨I.base.keep b o (I.ok.bs b o e).1 (I.ok.bs b o e).2 (I.ok.nofr e) (I.ok.noex b o e),I.base.free b o (I.ok.bs b o e).1 (I.ok.bs b o e).2 (I.ok.noex b o e)⟩
theorem Inv.bk (I:Inv X pins σ H s):∀ b o,X.base.get? b = some o → s.heap.get? b = some o:=fun b o e => (I.bs b o e).1
theorem Inv.mod (I:Inv X pins σ H s):Mod X.K X.mg X.base:=I.ok.mod
theorem Inv.kIn (I:Inv X pins σ H s):X.K.In s.heap:=I.ok.mod.kin.keeps I.bk
theorem Inv.lt (I:Inv X pins σ H s):X.env.locals < s.heap.objs.size:=let ⟨_,hn,_⟩:=I.loc; hn.lt
theorem Inv.sz (I:Inv X pins σ H s):X.s₀.heap.objs.size ≤ s.heap.objs.size:=Nat.le_trans I.ok.above (Nat.le_of_lt I.lt)
theorem Inv.nofs (I:Inv X pins σ H s) {a:Addr} (h:s.heap.objs.size ≤ a):a ∉ X.fs:=fun hb => by
  obtain ⟨_,o,ho,_⟩:=I.ok.funs.mem hb
  exact absurd (Nat.lt_of_lt_of_le (Heap.lt_size ho) (Nat.le_trans I.sz h)) (Nat.lt_irrefl _)
theorem Inv.cne (I:Inv X pins σ H s):∀ x c,X.env.cells.lookup x = some c → c ≠ X.env.locals:=fun x c e z => by
  obtain ⟨v,o,ho,hd⟩:=I.cell x c e
  obtain ⟨m,⟨o',es,ep,ho',hd',_⟩,_⟩:=I.loc
  rw [z,ho'] at ho; cases ho; rw [hd'] at hd; cases hd
theorem Inv.funs (I:Inv X pins σ H s):s.heap.FunFrames X.base X.outer:=by
  have all:∀ (l:List Env),(∀ b ∈ frs l,b ∈ X.fs) → X.s₀.heap.FunFrames X.base l → s.heap.FunFrames X.base l:=by
    intro l
    induction l with
    | nil => intro _ _; trivial
    | cons env r ih =>
      intro hs hl
      obtain ⟨hk,⟨L,o,hf,hn,ho,hd⟩,hr⟩:=hl
      have hL:L ∈ X.fs:=hs L (by unfold frs; rw [List.filterMap_cons,hf]; exact List.mem_cons_self)
      obtain ⟨sl,e⟩:=I.base.slot L o ho (I.ok.frf L hL) hL fun z => I.ok.exfs L z hL
      exact ⟨hk,⟨L,_,hf,hn,e,hd⟩,ih (fun b hb => hs b (by unfold frs; rw [List.filterMap_cons,hf]; exact List.mem_cons_of_mem _ hb)) hr⟩
  exact all X.outer (fun _ hb => hb) I.ok.funs
theorem Inv.stack (I:Inv X pins σ H s):s.heap.FunFrames X.base X.stack:=by
  rcases I.ok.stk with e | ⟨e,hf⟩
  · rw [e]; exact I.funs
  · rw [e]
    obtain ⟨m,hn,_⟩:=I.loc
    refine .cons (by rw [I.ok.kind]; decide) hf hn ?_ I.funs
    exact Heap.get?_none_of_le (Nat.le_trans I.ok.bsz I.ok.above)
theorem Inv.stkSub (I:Inv X pins σ H s):∀ b ∈ frs X.stack,b ∈ X.env.locals :: X.fs:=fun b hb => by
  rcases I.ok.stk with e | ⟨e,hf⟩
  · rw [e] at hb; exact List.mem_cons_of_mem _ hb
  · rw [e] at hb
    unfold frs at hb
    rw [List.filterMap_cons,hf] at hb
    exact hb
theorem Inv.stkFree (I:Inv X pins σ H s):∀ b ∈ frs X.stack,H b = none:=fun b hb => by
  rcases List.mem_cons.mp (I.stkSub b hb) with e | hb
  · rw [e]; exact I.free
  · obtain ⟨_,o,ho,_⟩:=I.ok.funs.mem hb
    exact I.base.free b o ho (I.ok.frf b hb) fun z => I.ok.exfs b z hb
theorem Inv.step {g':Array GenState} {t':Nat} {d':Drawn} {ch:List Addr} (I:Inv X pins σ H s)
    (hch:∀ b ∈ ch,(b ∈ X.ex ∨ X.s₀.heap.objs.size ≤ b) ∧ b ≠ X.env.locals ∧ (∀ x c,X.env.cells.lookup x = some c → c ≠ b) ∧ ∀ p ∈ X.pn ++ pins,p.1 ≠ b)
    (keep:∀ b o,b ≠ X.env.locals → b ∉ X.fs → b ∉ ch → s.heap.get? b = some o → H b = none → h'.get? b = some o)
    (slot:∀ b o,b ≠ X.env.locals → b ∈ X.fs → b ∉ ch → s.heap.get? b = some o → H b = none → ∃ sl,h'.get? b = some { o with slots:=sl }) (free:∀ b o,b ∉ ch → s.heap.get? b = some o → H b = none → H' b = none)
    (there:∀ b o,b ∉ ch → s.heap.get? b = some o → ∃ o',h'.get? b = some o')
    (tups:∀ b xs,H b = some (.tup xs) → H' b = some (.tup xs)) (frzs:∀ b o u,H b = some (.frz o u) → H' b = some (.frz o u)) (tbls:∀ b ps,H b = some (.tbl ps) → ∃ more,H' b = some (.tbl (ps ++ more)))
    (ns:∀ m,s.heap.Ns X.env.locals m → h'.Ns X.env.locals m) (hok:HOk X.prog X.w H' h') (hg:AllBare g') :
    Inv X pins σ H' { s with heap:=h',gens:=g',drawn:=d',toks:=t' }:=by
  have neL:∀ b o,X.s₀.heap.get? b = some o → b ≠ X.env.locals:=fun b o e => Nat.ne_of_lt (Nat.lt_of_lt_of_le (Heap.lt_size e) I.ok.above)
  have neC:∀ b o,X.s₀.heap.get? b = some o → b ∉ X.ex → b ∉ ch:=fun b o e hx hb => by
    rcases (hch b hb).1 with z | z
    · exact hx z
    · exact absurd (Nat.lt_of_lt_of_le (Heap.lt_size e) z) (Nat.lt_irrefl _)
  have cellK:∀ x c,X.env.cells.lookup x = some c → ∀ v,s.heap.IsCell c v → h'.IsCell c v:=fun x c e v ⟨o,ho,hd⟩ => by
    have nch:c ∉ ch:=fun z => (hch c z).2.2.1 x c e rfl
    by_cases hc:c ∈ X.fs
    · obtain ⟨sl,q⟩:=slot c o (I.cne x c e) hc nch ho (I.freeC x c e)
      exact ⟨_,q,hd⟩
    · exact ⟨o,keep c o (I.cne x c e) hc nch ho (I.freeC x c e),hd⟩
  refine ⟨I.ok,I.os,hg,⟨fun b o e n hb hx => ?_,fun b o e n hb hx => ?_,fun b o e n hx => ?_,fun b o e hx => ?_,fun b xs e => tups b xs (I.base.tups b xs e),fun b o xs e => frzs b o xs (I.base.frzs b o xs e),fun b ps e => ?_⟩,?_,fun x c e => ?_,?_,fun x c e => ?_,fun p hp => ?_,hok,I.len⟩
  · exact keep b o (neL b o e) hb (neC b o e hx) (I.base.keep b o e n hb hx) (I.base.free b o e n hx)
  · obtain ⟨sl,e1⟩:=I.base.slot b o e n hb hx
    obtain ⟨sl',e2⟩:=slot b _ (neL b o e) hb (neC b o e hx) e1 (I.base.free b o e n hx)
    exact ⟨sl',e2⟩
  · obtain ⟨o',e1⟩:=I.base.there b o e hx
    exact free b o' (neC b o e hx) e1 (I.base.free b o e n hx)
  · obtain ⟨o',e1⟩:=I.base.there b o e hx
    exact there b o' (neC b o e hx) e1
  · obtain ⟨m1,e1⟩:=I.base.tbls b ps e
    obtain ⟨m2,e2⟩:=tbls b _ e1
    exact ⟨m1 ++ m2,by rw [e2,Array.append_assoc]⟩
  · obtain ⟨m,hn,hl⟩:=I.loc
    refine ⟨m,ns m hn,fun i x v e1 e2 e3 => ?_⟩
    obtain ⟨u,r,l⟩:=hl i x v e1 e2 e3
    refine ⟨u,r,?_⟩
    rcases l with l | ⟨k,c,e,z⟩
    · exact .inl l
    · exact .inr ⟨k,c,e,cellK x c e _ z⟩
  · obtain ⟨v,z⟩:=I.cell x c e
    exact ⟨v,cellK x c e v z⟩
  · obtain ⟨m,⟨o,_,_,ho,_⟩,_⟩:=I.loc
    exact free _ o (fun z => (hch _ z).2.1 rfl) ho I.free
  · obtain ⟨v,o,ho,hd⟩:=I.cell x c e
    exact free c o (fun z => (hch c z).2.2.1 x c e rfl) ho (I.freeC x c e)
  · obtain ⟨e,n,ne,nf,d⟩:=I.pin p hp
    have nch:p.1 ∉ ch:=fun z => (hch p.1 z).2.2.2 p hp rfl
    exact ⟨keep p.1 p.2 ne nf nch e n,free p.1 p.2 nch e n,ne,nf,d⟩
theorem Inv.un {t':Nat} (I:Inv X pins σ H s) (u:Un X.fs [] H H' s.heap h') (hok:HOk X.prog X.w H' h'):Inv X pins σ H' { s with heap:=h',toks:=t' }:=by
  obtain ⟨m,⟨o,es,ep,ho,r⟩,_⟩:=id I.loc
  obtain ⟨sl,hL⟩:=u.any ho I.free (by simp)
  exact I.step (g':=s.gens) (d':=s.drawn) (ch:=[]) (fun _ z => nomatch z) (fun b o _ hb _ e n => u.keep b o e n hb (by simp)) (fun b o _ hb _ e n => u.slot b o e n hb (by simp)) (fun b o _ e n => u.free b o e n (by simp)) (fun b o _ e => u.there b o e (by simp)) u.tups u.frzs u.tbls (fun m' hm => by
    obtain ⟨o',es',ep',ho',r'⟩:=hm
    rw [ho] at ho'; cases ho'
    exact ⟨_,es',ep',hL,r'⟩) hok I.bare
theorem Inv.call {g':Array GenState} {t':Nat} {d':Drawn} {ch:List Addr} (I:Inv X pins σ H s) (u:Un (frs X.stack) ch H H' s.heap h') (hok:HOk X.prog X.w H' h') (hg:AllBare g')
    (hch:∀ b ∈ ch,(b ∈ X.ex ∨ X.s₀.heap.objs.size ≤ b) ∧ b ≠ X.env.locals ∧ (∀ x c,X.env.cells.lookup x = some c → c ≠ b) ∧ ∀ p ∈ X.pn ++ pins,p.1 ≠ b) :
    Inv X pins σ H' { s with heap:=h',gens:=g',drawn:=d',toks:=t' }:=by
  obtain ⟨m,⟨o,es,ep,ho,r⟩,_⟩:=id I.loc
  obtain ⟨sl,hL⟩:=u.any ho I.free fun z => (hch _ z).2.1 rfl
  exact I.step (ch:=ch) hch (fun b o hL hb hc e n => u.keep b o e n (fun z => (List.mem_cons.mp (I.stkSub b z)).elim hL hb) hc) (fun b o _ _ hc e n => u.any e n hc) (fun b o hc e n => u.free b o e n hc) (fun b o hc e => u.there b o e hc) u.tups u.frzs u.tbls (fun m' hm => by
    obtain ⟨o',es',ep',ho',r'⟩:=hm
    rw [ho] at ho'; cases ho'
    exact ⟨_,es',ep',hL,r'⟩) hok hg
theorem Inv.turned {t':Nat} {it:Addr} (I:Inv X pins σ H s) (k:∀ b o,b ≠ it → s.heap.get? b = some o → h'.get? b = some o) (hn:H it = none) (hL:it ≠ X.env.locals)
    (h1:it ∈ X.ex ∨ X.s₀.heap.objs.size ≤ it) (h2:∀ x c,X.env.cells.lookup x = some c → c ≠ it) (h3:∀ p ∈ X.pn ++ pins,p.1 ≠ it):Inv X pins σ H { s with heap:=h',toks:=t' }:=by
  have nit:∀ b u,H b = some u → b ≠ it:=fun b u e z => by rw [z,hn] at e; cases e
  refine I.step (g':=s.gens) (d':=s.drawn) (ch:=[it]) (fun b hb => ?_) (fun b o _ _ hc e _ => k b o (fun z => hc (by simp [z])) e) (fun b o _ _ hc e _ => ⟨o.slots,k b o (fun z => hc (by simp [z])) e⟩) (fun _ _ _ _ n => n)
    (fun b o hc e => ⟨o,k b o (fun z => hc (by simp [z])) e⟩) (fun _ _ e => e) (fun _ _ _ e => e) (fun b ps e => ⟨#[],by rw [e]; simp⟩) (fun m hm => ?_) (fun b u e => ?_) I.bare
  · have e:b = it:=by simpa using hb
    subst e
    exact ⟨h1,hL,h2,h3⟩
  · obtain ⟨o,es,ep,ho,r⟩:=hm
    exact ⟨o,es,ep,k _ o (Ne.symm hL) ho,r⟩
  · refine (I.hok b u e).stay (fun c v hc q => k c v ?_ q) (fun _ q => q) fun _ _ q => q
    rcases hc with z | z
    · rw [z]; exact nit b u e
    · exact nit c _ z
theorem Inv.tok (I:Inv X pins σ H s) (t:Nat):Inv X pins σ H { s with toks:=t }:=I.un (h':=s.heap) (t':=t) Un.refl I.hok
theorem Inv.kept {t':Nat} (I:Inv X pins σ H s) (k:∀ b u,s.heap.get? b = some u → h'.get? b = some u):Inv X pins σ H { s with heap:=h',toks:=t' }:=I.un (Un.kept k) (I.hok.kept k)
theorem Inv.laid {a:Addr} {o:HO} {t':Nat} (I:Inv X pins σ H s) (k:∀ b u,s.heap.get? b = some u → h'.get? b = some u) (hp:s.heap.objs.size ≤ a) (new:ObjOk X.prog X.w (upd H a o) h' a o) :
    Inv X pins σ (upd H a o) { s with heap:=h',toks:=t' }:=I.un (Un.laid k hp (I.hok.fresh hp)) (I.hok.laid k hp new)
theorem Inv.write {x e:Addr} {o:HO} {t':Nat} (I:Inv X pins σ H s) (mu:Mut (H x)) (he:e = x ∨ H e = some (.own x)) (k:∀ b u,b ≠ e → s.heap.get? b = some u → h'.get? b = some u) (heo:∃ u,h'.get? e = some u)
    (new:ObjOk X.prog X.w (upd H x o) h' x o):Inv X pins σ (upd H x o) { s with heap:=h',toks:=t' }:=I.un (Un.write mu he k heo) (I.hok.write mu he k heo new)
theorem Inv.weak {σ':List (Option V)} (I:Inv X pins σ H s) (hl:σ'.length = σ.length) (w:∀ (i:Nat) v,σ'[i]? = some (some v) → σ[i]? = some (some v)):Inv X pins σ' H s :=
  ⟨I.ok,I.os,I.bare,I.base,let ⟨m,hn,hl'⟩:=I.loc; ⟨m,hn,fun i x v e1 e2 e3 => hl' i x v e1 (w i v e2) e3⟩,I.cell,I.free,I.freeC,I.pin,I.hok,hl.trans I.len⟩
theorem Inv.pins_of {pins':List (Addr × Obj)} (I:Inv X pins σ H s) (h:∀ p ∈ pins',s.heap.get? p.1 = some p.2 ∧ H p.1 = none ∧ p.1 ≠ X.env.locals ∧ p.1 ∉ X.fs ∧ ∀ v,p.2.data ≠ .cell v):Inv X pins' σ H s :=
  ⟨I.ok,I.os,I.bare,I.base,I.loc,I.cell,I.free,I.freeC,fun p hp => (List.mem_append.mp hp).elim (fun z => I.pin p (List.mem_append_left _ z)) (h p),I.hok,I.len⟩
theorem nodup_ix {N:List Str} (hN:N.Nodup) {i j:Nat} {x:Str} (a:N[i]? = some x) (b:N[j]? = some x):i = j:=by
  obtain ⟨h1,e1⟩:=List.getElem?_eq_some_iff.mp a
  obtain ⟨h2,e2⟩:=List.getElem?_eq_some_iff.mp b
  exact (List.getElem_inj hN).mp (e1.trans e2.symm)
theorem store_ok2 {M:Model} {A:Around} {E:Value → Shared → Prop} {i:Nat} {x:Str} {v:V} {u:Value} {Q:Unit → Shared → Prop} (I:Inv X pins σ H s) (hN:X.N.Nodup) (hi:X.N[i]? = some x) (hx:Loc X.env.scope x) (r:RelV v u)
    (h:∀ s',Inv X pins (σ.set i (some v)) H s' → (∃ a,Heap.SameBut a s.heap s'.heap ∧ (a = X.env.locals ∨ X.env.cells.lookup x = some a)) → Q () s') (hf:X.fn x = true ∨ X.env.scope.names.lookup x = some .local:=by first | exact .inl rfl | exact .inr rfl | assumption):wpAny M A (storeName X.env x u) Q E s:=by
  obtain ⟨m,hn,hl⟩:=id I.loc
  have hcls:(X.env.scope.kind == .class || (X.env.scope.kind == .module && X.env.locals != X.env.globals)) = false:=by rw [I.ok.kind]; rfl
  have hiσ:i < σ.length:=by rw [I.len]; exact (List.getElem?_eq_some_iff.mp hi).1
  have cne:=I.cne
  have tracked:∀ {a:Addr} {h':Heap},(∃ o,s.heap.get? a = some o ∧ H a = none) → Heap.SameBut a s.heap h' → HOk X.prog X.w H h':=fun {a h'} ha hs b ob e => by
    obtain ⟨_,_,hfree⟩:=ha
    refine (I.hok b ob e).stay (fun c w' hc q => (hs.2 c ?_).trans q) (fun _ q => q) fun _ _ q => q
    rintro rfl
    rcases hc with rfl | hc
    · rw [hfree] at e; cases e
    · rw [hfree] at hc; cases hc
  rcases hx with hk | hk
  · refine wpAny_storeName_local hk hn (fun h' hn' hs => ?_) hcls
    obtain ⟨oL,_,_,hoL,_⟩:=id hn
    refine h _ ⟨I.ok,I.os,I.bare,⟨fun b o e n hb hx => ?_,fun b o e n hb hx => ?_,I.base.free,fun b o e hx => ?_,I.base.tups,I.base.frzs,I.base.tbls⟩,⟨_,hn',fun j y v' e1 e2 e3 => ?_⟩,fun y c e => ?_,I.free,I.freeC,fun p hp => ?_,tracked ⟨oL,hoL,I.free⟩ hs,by simpa using I.len⟩ ⟨_,hs,.inl rfl⟩
    · exact (hs.2 b (Nat.ne_of_lt (Nat.lt_of_lt_of_le (Heap.lt_size e) I.ok.above))).trans (I.base.keep b o e n hb hx)
    · obtain ⟨sl,e1⟩:=I.base.slot b o e n hb hx
      exact ⟨sl,(hs.2 b (Nat.ne_of_lt (Nat.lt_of_lt_of_le (Heap.lt_size e) I.ok.above))).trans e1⟩
    · obtain ⟨o',e1⟩:=I.base.there b o e hx
      exact ⟨o',(hs.2 b (Nat.ne_of_lt (Nat.lt_of_lt_of_le (Heap.lt_size e) I.ok.above))).trans e1⟩
    · by_cases hj:j = i
      · subst hj
        rw [hi] at e1; cases e1
        rw [List.getElem?_set_self hiσ] at e2
        cases e2
        exact ⟨u,r,.inl ⟨hk,by simp⟩⟩
      · rw [List.getElem?_set_ne (Ne.symm hj)] at e2
        obtain ⟨u',r',q⟩:=hl j y v' e1 e2 e3
        refine ⟨u',r',?_⟩
        rcases q with ⟨k,e⟩ | ⟨k,c,e,z⟩
        · refine .inl ⟨k,?_⟩
          have:y ≠ x:=fun e => hj (nodup_ix hN e1 (e ▸ hi))
          simp [this,e]
        · exact .inr ⟨k,c,e,z.sameBut hs (cne y c e)⟩
    · obtain ⟨w',z⟩:=I.cell y c e
      exact ⟨w',z.sameBut hs (cne y c e)⟩
    · obtain ⟨e,n,ne,nf,d⟩:=I.pin p hp
      exact ⟨(hs.2 p.1 ne).trans e,n,ne,nf,d⟩
  · have hfn:X.fn x = true:=by
      rcases hf with z | z
      · exact z
      · rw [z] at hk; cases hk
    obtain ⟨c,hc⟩:=I.ok.has x (.inl hk)
    obtain ⟨w',z⟩:=I.cell x c hc
    refine wpAny_storeName_cell I.ok.kind hk hc z (fun h' hc' hs => ?_)
    obtain ⟨oc,hoc,hocd⟩:=id z
    refine h { s with heap:=h' } ⟨I.ok,I.os,I.bare,⟨fun b o e n hb hx => ?_,fun b o e n hb hx => ?_,I.base.free,fun b o e hx => ?_,I.base.tups,I.base.frzs,I.base.tbls⟩,⟨m,hn.sameBut hs (Ne.symm (cne x c hc)),fun j y v' e1 e2 e3 => ?_⟩,fun y c' e => ?_,I.free,I.freeC,fun p hp => ?_,tracked ⟨oc,hoc,I.freeC x c hc⟩ hs,by simpa using I.len⟩ ⟨c,hs,.inr hc⟩
    · exact (hs.2 b (Nat.ne_of_lt (Nat.lt_of_lt_of_le (Heap.lt_size e) (I.ok.cab x c hfn hc)))).trans (I.base.keep b o e n hb hx)
    · obtain ⟨sl,e1⟩:=I.base.slot b o e n hb hx
      exact ⟨sl,(hs.2 b (Nat.ne_of_lt (Nat.lt_of_lt_of_le (Heap.lt_size e) (I.ok.cab x c hfn hc)))).trans e1⟩
    · obtain ⟨o',e1⟩:=I.base.there b o e hx
      exact ⟨o',(hs.2 b (Nat.ne_of_lt (Nat.lt_of_lt_of_le (Heap.lt_size e) (I.ok.cab x c hfn hc)))).trans e1⟩
    · by_cases hj:j = i
      · subst hj
        rw [hi] at e1; cases e1
        rw [List.getElem?_set_self hiσ] at e2
        cases e2
        exact ⟨u,r,.inr ⟨.inl hk,c,hc,hc'⟩⟩
      · rw [List.getElem?_set_ne (Ne.symm hj)] at e2
        obtain ⟨u',r',q⟩:=hl j y v' e1 e2 e3
        refine ⟨u',r',?_⟩
        rcases q with q | ⟨k,c',e,z'⟩
        · exact .inl q
        · refine .inr ⟨k,c',e,z'.sameBut hs ?_⟩
          rintro rfl
          exact hj (nodup_ix hN e1 (I.ok.inj _ _ _ e hc ▸ hi))
    · by_cases hcc:c' = c
      · subst hcc; exact ⟨_,hc'⟩
      · obtain ⟨w2,z2⟩:=I.cell y c' e
        exact ⟨w2,z2.sameBut hs hcc⟩
    · obtain ⟨e,n,ne,nf,d⟩:=I.pin p hp
      refine ⟨(hs.2 p.1 ?_).trans e,n,ne,nf,d⟩
      intro q
      rw [q,hoc] at e
      have q':oc = p.2:=Option.some.inj e
      exact d w' (by rw [← q']; exact hocd)
theorem store_ok {M:Model} {A:Around} {E:Value → Shared → Prop} {i:Nat} {x:Str} {v:V} {u:Value} {Q:Unit → Shared → Prop} (I:Inv X pins σ H s) (hN:X.N.Nodup) (hi:X.N[i]? = some x) (hx:Loc X.env.scope x) (r:RelV v u)
    (h:∀ s',Inv X pins (σ.set i (some v)) H s' → Q () s') (hf:X.fn x = true ∨ X.env.scope.names.lookup x = some .local:=by first | exact .inl rfl | exact .inr rfl | assumption):wpAny M A (storeName X.env x u) Q E s :=
  store_ok2 I hN hi hx r (fun s' I' _ => h s' I') hf
theorem Inv.call' {s':Shared} {ch:List Addr} (I:Inv X pins σ H s) (ho:s'.os = s.os) (u:Un (frs X.stack) ch H H' s.heap s'.heap) (hok:HOk X.prog X.w H' s'.heap) (hg:AllBare s'.gens)
    (hch:∀ b ∈ ch,(b ∈ X.ex ∨ X.s₀.heap.objs.size ≤ b) ∧ b ≠ X.env.locals ∧ (∀ x c,X.env.cells.lookup x = some c → c ≠ b) ∧ ∀ p ∈ X.pn ++ pins,p.1 ≠ b):Inv X pins σ H' s':=by
  obtain ⟨h',g',d',t',o'⟩:=s'
  have e:o' = s.os:=ho
  subst e
  exact I.call (g':=g') (t':=t') (d':=d') u hok hg hch
end
noncomputable abbrev XK:=Value → Option Addr → Hp → Prop
noncomputable abbrev St:=List (Option V)
noncomputable abbrev VK:=V → Hp → Prop
noncomputable abbrev TE:=St → Hp → VK → Prop
noncomputable abbrev TT:=St → Hp → (Bool → Hp → Prop) → Prop
noncomputable abbrev TA:=St → Hp → (List V → Hp → Prop) → Prop
structure Ends where
  nx:St → Hp → Prop
  rt:VK
  bk:St → Hp → Prop:=fun _ _ => False
  ct:St → Hp → Prop:=fun _ _ => False
noncomputable abbrev TS:=Ends → St → Hp → Prop
noncomputable def EP (X:Cx) (pins:List (Addr × Obj)) (σ:St) (Q:VK) (u:Value) (s':Shared):Prop:=∃ v H',Inv X pins σ H' s' ∧ RelV v u ∧ Q v H'
noncomputable def TP (X:Cx) (pins:List (Addr × Obj)) (σ:St) (Q:Bool → Hp → Prop) (b:Bool) (s':Shared):Prop:=∃ H',Inv X pins σ H' s' ∧ Q b H'
noncomputable def AP (X:Cx) (pins:List (Addr × Obj)) (σ:St) (Q:List V → Hp → Prop) (us:List Value) (s':Shared):Prop:=∃ vs H',Inv X pins σ H' s' ∧ Vals vs us ∧ Q vs H'
noncomputable def SP (X:Cx) (pins:List (Addr × Obj)) (D:Ends) (f:Flow) (s':Shared):Prop :=
  match f with
  | .next => ∃ σ' H',Inv X pins σ' H' s' ∧ D.nx σ' H'
  | .brk => ∃ σ' H',Inv X pins σ' H' s' ∧ D.bk σ' H'
  | .cont => ∃ σ' H',Inv X pins σ' H' s' ∧ D.ct σ' H'
  | .ret u => ∃ v σ' H',Inv X pins σ' H' s' ∧ RelV v u ∧ D.rt v H'
noncomputable def PE (X:Cx) (e:Expr) (t:TE):Prop :=
  ∀ (pins:List (Addr × Obj)) (s:Shared) (σ:St) (H:Hp) (Q:VK),Inv X pins σ H s → t σ H Q → wpAny (model X.prog X.w) X.A (eval e X.env) (EP X pins σ Q) X.xe s
noncomputable def PT (X:Cx) (e:Expr) (t:TT):Prop :=
  ∀ (pins:List (Addr × Obj)) (s:Shared) (σ:St) (H:Hp) (Q:Bool → Hp → Prop),Inv X pins σ H s → t σ H Q → wpAny (model X.prog X.w) X.A (isTrue e X.env (eval e X.env)) (TP X pins σ Q) X.xe s
noncomputable def PW (X:Cx) (e:Expr) (t:TT):Prop :=
  ∀ (whole:Sem Value) (pins:List (Addr × Obj)) (s:Shared) (σ:St) (H:Hp) (Q:Bool → Hp → Prop),Inv X pins σ H s → t σ H Q → wpAny (model X.prog X.w) X.A (isTrue e X.env whole) (TP X pins σ Q) X.xe s
theorem PW.pt {X:Cx} {e:Expr} {t:TT} (h:PW X e t):PT X e t:=h _
noncomputable def PA (X:Cx) (es:List Expr) (t:TA):Prop :=
  ∀ (pos:Pos) (pins:List (Addr × Obj)) (s:Shared) (σ:St) (H:Hp) (Q:List V → Hp → Prop),Inv X pins σ H s → t σ H Q → wpAny (model X.prog X.w) X.A (spliced (backTo pos (starEach es X.env))) (AP X pins σ Q) X.xe s
noncomputable def PS (X:Cx) (st:Stmt) (t:TS):Prop :=
  ∀ (pins:List (Addr × Obj)) (s:Shared) (σ:St) (H:Hp) (D:Ends),Inv X pins σ H s → t D σ H → wpAny (model X.prog X.w) X.A (exec st X.env) (SP X pins D) X.xe s
noncomputable def PSs (X:Cx) (st:List Stmt) (t:TS):Prop :=
  ∀ (pins:List (Addr × Obj)) (s:Shared) (σ:St) (H:Hp) (D:Ends),Inv X pins σ H s → t D σ H → wpAny (model X.prog X.w) X.A (execs st X.env) (SP X pins D) X.xe s
theorem thn {α:Type} {t:Sem α} {Q Q':α → Shared → Prop} {M:Model} {A:Around} {E:Value → Shared → Prop} {s:Shared} (h:wpAny M A t Q E s) (hQ:∀ a s,Q a s → Q' a s):wpAny M A t Q' E s:=wpAny_mono h hQ fun _ _ x => x
end L2
namespace L2
open PySem PySem.Spec PyProof.Rows
section
variable {X:Cx}
noncomputable def tVar (i:Nat):TE:=fun σ H Q => ∃ v,σ[i]? = some (some v) ∧ Q v H
noncomputable def tC (v:V):TE:=fun _ H Q => Q v H
theorem pe_var {i:Nat} {x:Str} {pos:Pos} (hN:X.N[i]? = some x) (hv:Vis X.env.scope x) (hd:(x == ("__debug__":Str)) = false:=by decide) (hcd:(x == ("__classdict__":Str)) = false:=by decide):PE X (.Name x pos) (tVar i):=by
  intro pins s σ H Q I h
  obtain ⟨v,e,h⟩:=h
  obtain ⟨m,hn,hl⟩:=I.loc
  obtain ⟨u,r,l⟩:=hl i x v hN e hv
  have fin:EP X pins σ Q u s:=⟨v,H,I,r,h⟩
  rcases l with ⟨hk,hm⟩ | ⟨hk,c,hc,hcell⟩
  · exact wpAny_Name (wpAny_loadName_local I.ok.kind hk hn hm fin) hd
  · rcases hk with hk | hk
    · exact wpAny_Name (wpAny_loadName_cell I.ok.kind hk hc hcell fin) hd
    · exact wpAny_Name (wpAny_loadName_free I.ok.kind hk hc hcell fin hcd) hd
theorem pe_int {i j pos}:PE X (.Constant (.int i) j pos) (tC (.int i)):=fun _ _ _ H _ I h => wpAny_Constant_int ⟨.int i,H,I.tok _,⟨_,rfl⟩,h⟩
theorem pe_bl {b j pos}:PE X (.Constant (.bool b) j pos) (tC (.bl b)):=fun _ _ _ H _ I h => Constant_bool ⟨.bl b,H,I,rfl,h⟩
theorem pe_non {j pos}:PE X (.Constant .none j pos) (tC .non):=fun _ _ _ H _ I h => Constant_none ⟨.non,H,I,rfl,h⟩
theorem pe_str {x j pos}:PE X (.Constant (.str x) j pos) (tC (.str x)):=fun _ _ _ H _ I h => Calls.Constant_str ⟨.str x,H,I.tok _,⟨_,rfl⟩,h⟩
noncomputable def Gl (X:Cx) (x:Str):Prop:=X.env.kindOf x = some .globalImplicit
theorem ld_glob {E:Value → Shared → Prop} {pins:List (Addr × Obj)} {s:Shared} {σ:St} {H:Hp} {x:Str} {u:Value} {pos:Pos} {Q:Value → Shared → Prop} (I:Inv X pins σ H s) (hg:Gl X x) (hm:X.mg x = some u) (h:Q u s)
    (hd:(x == ("__debug__":Str)) = false:=by decide):wpAny (model X.prog X.w) X.A (eval (.Name x pos) X.env) Q E s :=
  Calls.Name_function_global I.ok.kind hg (Calls.loadGlobal_global (by rw [I.ok.glob]; exact I.mod.glob.keeps I.bk) hm h) hd
theorem ld_blt {E:Value → Shared → Prop} {pins:List (Addr × Obj)} {s:Shared} {σ:St} {H:Hp} {x:Str} {u:Value} {pos:Pos} {Q:Value → Shared → Prop} (I:Inv X pins σ H s) (hg:Gl X x) (hm:X.mg x = none) (hv:bootBuiltins x = some u) (h:Q u s)
    (hn:x ≠ "__name__":=by decide) (hd:(x == ("__debug__":Str)) = false:=by decide):wpAny (model X.prog X.w) X.A (eval (.Name x pos) X.env) Q E s:=by
  obtain ⟨mb,h1,h2⟩:=I.mod.blt
  exact Calls.Name_function_global I.ok.kind hg (Calls.loadGlobal_builtin (by rw [I.ok.glob]; exact I.mod.glob.keeps I.bk) hm (by rw [I.ok.blt]; exact h1.keeps I.bk) ((h2 x hn).trans hv) h) hd
theorem pe_glob {x:Str} {v:V} {u:Value} {pos:Pos} (hg:Gl X x) (hm:X.mg x = some u) (r:RelV v u) (hd:(x == ("__debug__":Str)) = false:=by decide):PE X (.Name x pos) (tC v) :=
  fun _ _ _ H _ I h => ld_glob I hg hm ⟨v,H,I,r,h⟩ hd
theorem pe_bltn {x:Str} {v:V} {u:Value} {pos:Pos} (hg:Gl X x) (hm:X.mg x = none) (hv:bootBuiltins x = some u) (r:RelV v u) (hn:x ≠ "__name__":=by decide) (hd:(x == ("__debug__":Str)) = false:=by decide):PE X (.Name x pos) (tC v) :=
  fun _ _ _ H _ I h => ld_blt I hg hm hv ⟨v,H,I,r,h⟩ hn hd
variable {a b:Expr} {ta tb:TE} {pos:Pos}
noncomputable def PC (X:Cx) (op:CmpOp) (a b:Expr) (t:TE):Prop :=
  ∀ (pins:List (Addr × Obj)) (s:Shared) (σ:St) (H:Hp) (Q:VK),Inv X pins σ H s → t σ H Q →
    wpAny (model X.prog X.w) X.A (eval a X.env) (fun v s₁ => wpAny (model X.prog X.w) X.A (eval b X.env) (fun u s₂ => wpAny (model X.prog X.w) X.A (compareOp op v u) (EP X pins σ Q) X.xe s₂) X.xe s₁) X.xe s
noncomputable def tB (t:TE):TT:=fun σ H Q => t σ H fun x H1 => ∃ c,x = .bl c ∧ Q c H1
theorem pt_cmp {op:CmpOp} {t:TE} (h:PC X op a b t) (h1:behindInMarks op b = false:=by first | exact nobehind _ (by decide) (by decide) | rfl):PT X (.Compare a [op] [b] pos) (tB t):=by
  intro pins s σ H Q I hw
  refine wpAny_isTrue_Compare1 (thn (h pins s σ H _ I hw) fun v s1 h1 => thn h1 fun u s2 h2 => thn h2 fun c s3 ⟨x,H1,I1,r1,q1⟩ => ?_) h1
  obtain ⟨d,rfl,q⟩:=q1
  cases r1
  exact wpAny_truthy_bool ⟨H1,I1,q⟩
theorem pt_val {e:Expr} {t:TE} (h:PE X e t) (he:∀ whole,isTrue e X.env whole = (do let v ← whole; standAt e.pos; holding [v] (truthy v)):=by intro _; rfl):PT X e (tB t):=by
  intro pins s σ H Q I hw
  refine isTrue_plain (thn (h pins s σ H _ I hw) fun v s1 ⟨x,H1,I1,r1,q1⟩ => ?_) (he _)
  obtain ⟨d,rfl,q⟩:=q1
  cases r1
  exact wpAny_truthy_bool ⟨H1,I1,q⟩
variable {tA tB':TT} {rest:List Expr}
noncomputable def tAnd (t u:TT):TT:=fun σ H Q => t σ H fun c H1 => if c = true then u σ H1 Q else Q false H1
noncomputable def tOr (t u:TT):TT:=fun σ H Q => t σ H fun c H1 => if c = true then Q true H1 else u σ H1 Q
noncomputable def tNot (t:TT):TT:=fun σ H Q => t σ H fun c H1 => Q (!c) H1
theorem pw_and1 (ha:PT X a tA):PW X (.BoolOp .And [a] pos) tA:=by
  intro wh pins s σ H Q I h
  refine isTrue_and (thn (ha pins s σ H Q I h) fun c s1 e => ?_)
  cases c with
  | true => exact isTrue_and_nil e
  | false => exact e
theorem pw_or1 (ha:PT X a tA):PW X (.BoolOp .Or [a] pos) tA:=by
  intro wh pins s σ H Q I h
  refine isTrue_or (thn (ha pins s σ H Q I h) fun c s1 e => ?_)
  cases c with
  | false => exact isTrue_or_nil e
  | true => exact e
theorem pw_and (ha:PT X a tA) (hb:PW X (.BoolOp .And (b :: rest) pos) tB'):PW X (.BoolOp .And (a :: b :: rest) pos) (tAnd tA tB'):=by
  intro wh pins s σ H Q I h
  refine isTrue_and (thn (ha pins s σ H _ I h) fun c s1 ⟨H1,I1,q1⟩ => ?_)
  cases c with
  | true => exact hb wh pins s1 σ H1 Q I1 q1
  | false => exact ⟨H1,I1,q1⟩
theorem pw_or (ha:PT X a tA) (hb:PW X (.BoolOp .Or (b :: rest) pos) tB'):PW X (.BoolOp .Or (a :: b :: rest) pos) (tOr tA tB'):=by
  intro wh pins s σ H Q I h
  refine isTrue_or (thn (ha pins s σ H _ I h) fun c s1 ⟨H1,I1,q1⟩ => ?_)
  cases c with
  | true => exact ⟨H1,I1,q1⟩
  | false => exact hb wh pins s1 σ H1 Q I1 q1
theorem pt_not (ha:PT X a tA):PT X (.UnaryOp .Not a pos) (tNot tA):=by
  intro pins s σ H Q I h
  exact isTrue_not (ha pins s σ H (fun c H1 => Q (!c) H1) I h)
noncomputable def tAndV (ta tb:TE):TE:=fun σ H Q => ta σ H fun x H1 => ∃ c,x = .bl c ∧ if c = true then tb σ H1 Q else Q (.bl false) H1
noncomputable def tNotV (ta:TE):TE:=fun σ H Q => ta σ H fun x H1 => ∃ c,x = .bl c ∧ Q (.bl (!c)) H1
theorem pe_one {op} {t:TE} (h:PE X a t):PE X (.BoolOp op [a] pos) t:=fun pins s σ H Q I hw => BoolOp_one (h pins s σ H Q I hw)
theorem pe_and (ha:PE X a ta) (hb:PE X (.BoolOp .And (b :: rest) pos) tb):PE X (.BoolOp .And (a :: b :: rest) pos) (tAndV ta tb):=by
  intro pins s σ H Q I h
  refine BoolOp_and (thn (ha pins s σ H _ I h) fun v s1 ⟨x,H1,I1,r1,q1⟩ => ?_)
  obtain ⟨c,rfl,q1⟩:=q1
  cases r1
  refine wpAny_truthy_bool ?_
  cases c with
  | true => exact hb pins s1 σ H1 Q I1 q1
  | false => exact ⟨.bl false,H1,I1,rfl,q1⟩
theorem pe_not (ha:PE X a ta):PE X (.UnaryOp .Not a pos) (tNotV ta):=by
  intro pins s σ H Q I h
  refine UnaryOp_ (thn (ha pins s σ H _ I h) fun v s1 ⟨x,H1,I1,r1,q1⟩ => ?_)
  obtain ⟨c,rfl,q1⟩:=q1
  cases r1
  exact not_of (wpAny_truthy_bool ⟨.bl (!c),H1,I1,rfl,q1⟩)
end
end L2
namespace L2
open PySem PySem.Spec PyProof.Rows
noncomputable def SqL (K:PySem.W.Frag) (H:Hp) (a:Addr) (xs:List V):Prop :=
  Rd H a (.lst xs) ∨
    ∃ (o:Obj) (its:Array Value) (n:Nat),K.lookup a = some o ∧ o.cls = .type "list" ∧ o.dict = none ∧ o.data = .seq its n ∧ its.size ≤ sizeLine ∧ Vals xs its.toList
noncomputable def SqT (K:PySem.W.Frag) (H:Hp) (a:Addr) (xs:List V):Prop :=
  Rd H a (.tup xs) ∨
    ∃ (o:Obj) (its:Array Value) (n:Nat),K.lookup a = some o ∧ o.cls = .type "tuple" ∧ o.data = .seq its n ∧ its.size ≤ sizeLine ∧ Vals xs its.toList
noncomputable def absV:Value → Option V
  | .none => some .non
  | .bool b => some (.bl b)
  | .int i _ => some (.int i)
  | .str x _ => some (.str x)
  | .bytes b _ => some (.byt b)
  | .float b _ => some (.flt b)
  | .ref a => some (.ref a)
  | .type n => some (.ty n)
  | _ => none
theorem RelV.abs {x:V} {u:Value} (r:RelV x u):absV u = some x:=by
  cases x with
  | non => cases r; rfl
  | bl _ => cases r; rfl
  | int _ => obtain ⟨t,rfl⟩:=r; rfl
  | str _ => obtain ⟨t,rfl⟩:=r; rfl
  | byt _ => obtain ⟨t,rfl⟩:=r; rfl
  | flt _ => obtain ⟨t,rfl⟩:=r; rfl
  | ref _ => cases r; rfl
  | ty _ => cases r; rfl
theorem RelV.inj {x y:V} {u:Value} (r:RelV x u) (q:RelV y u):x = y:=Option.some.inj (r.abs.symm.trans q.abs)
theorem Vals.inj:∀ {xs ys:List V} {us:List Value},Vals xs us → Vals ys us → xs = ys
  | _,_,_,.nil,.nil => rfl
  | _,_,_,.cons r t,.cons r' t' => by rw [r.inj r',Vals.inj t t']
section
variable {X:Cx} {pins:List (Addr × Obj)} {σ:St} {H:Hp} {s:Shared} {a:Addr} {xs ys:List V}
theorem SqL.of {K:PySem.W.Frag} (h:H a = some (.lst xs)):SqL K H a xs:=.inl (.inl h)
theorem SqT.of {K:PySem.W.Frag} (h:H a = some (.tup xs)):SqT K H a xs:=.inl (.inl h)
theorem Inv.list (I:Inv X pins σ H s) (h:SqL X.K H a xs):∃ its:List Value,Vals xs its ∧ PlainL s.heap a its.toArray ∧ xs.length ≤ sizeLine:=by
  rcases h with h | ⟨o,its,n,hk,hc,hd,hs,hz,r⟩
  · obtain ⟨z,its,n,r,e⟩:=h.ok I.hok
    exact ⟨its,r,⟨_,n,e,rfl,rfl,rfl⟩,z⟩
  · refine ⟨its.toList,r,⟨o,n,I.kIn a o hk,hc,hd,by simpa using hs⟩,?_⟩
    have e:=r.length
    simp only [Array.length_toList] at e
    omega
theorem Inv.tuple (I:Inv X pins σ H s) (h:SqT X.K H a xs):∃ its:List Value,Vals xs its ∧ IsTup s.heap a its.toArray ∧ xs.length ≤ sizeLine:=by
  rcases h with h | ⟨o,its,n,hk,hc,hs,hz,r⟩
  · obtain ⟨z,its,r,p⟩:=h.ok I.hok
    exact ⟨its,r,p,z⟩
  · refine ⟨its.toList,r,⟨o,I.kIn a o hk,hc,n,by simpa using hs⟩,?_⟩
    have e:=r.length
    simp only [Array.length_toList] at e
    omega
theorem Inv.list_inj (I:Inv X pins σ H s) (h:SqL X.K H a xs) (h':SqL X.K H a ys):xs = ys:=by
  obtain ⟨its,r,⟨o,n,e,_,_,d⟩,_⟩:=I.list h
  obtain ⟨its',r',⟨o',n',e',_,_,d'⟩,_⟩:=I.list h'
  rw [e] at e'; cases e'
  rw [d] at d'
  injection d' with d1 _
  have:its = its':=by simpa using congrArg Array.toList d1
  subst this
  exact r.inj r'
theorem Inv.tuple_inj (I:Inv X pins σ H s) (h:SqT X.K H a xs) (h':SqT X.K H a ys):xs = ys:=by
  obtain ⟨its,r,⟨o,e,_,n,d⟩,_⟩:=I.tuple h
  obtain ⟨its',r',⟨o',e',_,n',d'⟩,_⟩:=I.tuple h'
  rw [e] at e'; cases e'
  rw [d] at d'
  injection d' with d1 _
  have:its = its':=by simpa using congrArg Array.toList d1
  subst this
  exact r.inj r'
end
noncomputable abbrev Cx.wish (X:Cx) (E:Value → Shared → Prop):Cx:={ X with xe:=E }
noncomputable abbrev Cx.nox (X:Cx):Cx:=X.wish fun _ _ => False
theorem Cx.Ok.wish {X:Cx} (ok:X.Ok) (E:Value → Shared → Prop):(X.wish E).Ok :=
  ⟨ok.mod,ok.kind,ok.glob,ok.blt,ok.above,ok.inj,ok.has,ok.cab,ok.hd,ok.frames,ok.stk,ok.exf,ok.bs,ok.bsz,ok.noex,ok.exfs,ok.funs,ok.frf⟩
theorem Cx.Ok.unwish {X:Cx} {E:Value → Shared → Prop} (ok:(X.wish E).Ok):X.Ok :=
  ⟨ok.mod,ok.kind,ok.glob,ok.blt,ok.above,ok.inj,ok.has,ok.cab,ok.hd,ok.frames,ok.stk,ok.exf,ok.bs,ok.bsz,ok.noex,ok.exfs,ok.funs,ok.frf⟩
section
variable {X:Cx} {pins:List (Addr × Obj)} {σ:St} {H:Hp} {s:Shared} {E:Value → Shared → Prop}
theorem Inv.wish (I:Inv X pins σ H s) (E:Value → Shared → Prop):Inv (X.wish E) pins σ H s:=⟨I.ok.wish E,I.os,I.bare,I.base,I.loc,I.cell,I.free,I.freeC,I.pin,I.hok,I.len⟩
theorem Inv.unwish (I:Inv (X.wish E) pins σ H s):Inv X pins σ H s:=⟨I.ok.unwish,I.os,I.bare,I.base,I.loc,I.cell,I.free,I.freeC,I.pin,I.hok,I.len⟩
theorem SP.unwish {D:Ends} {f:Flow} {s':Shared} (h:SP (X.wish E) pins D f s'):SP X pins D f s':=by
  cases f with
  | next => obtain ⟨σ',H',I,q⟩:=h; exact ⟨σ',H',I.unwish,q⟩
  | brk => obtain ⟨σ',H',I,q⟩:=h; exact ⟨σ',H',I.unwish,q⟩
  | cont => obtain ⟨σ',H',I,q⟩:=h; exact ⟨σ',H',I.unwish,q⟩
  | ret u => obtain ⟨v,σ',H',I,r,q⟩:=h; exact ⟨v,σ',H',I.unwish,r,q⟩
theorem PSs.nox {st:List Stmt} {t:TS} (h:PSs X.nox st t):PSs X st t:=fun pins s σ H D I hw =>
  wpAny_mono (h pins s σ H D (I.wish _) hw) (fun _ _ q => q.unwish) fun _ _ z => False.elim z
end
section
variable {X:Cx} {st:Stmt} {rest:List Stmt} {t u:TS} {e:Expr} {te:TE} {pos:Pos}
noncomputable def tNext:TS:=fun D σ H => D.nx σ H
noncomputable def tSeq (t u:TS):TS:=fun D σ H => t { D with nx:=u D } σ H
theorem pss_nil:PSs X [] tNext:=fun _ _ σ H _ I h => wpAny_execs_nil ⟨σ,H,I,h⟩
theorem pss_cons (h1:PS X st t) (h2:PSs X rest u):PSs X (st :: rest) (tSeq t u):=by
  intro pins s σ H D I h
  refine wpAny_execs_cons (thn (h1 pins s σ H { D with nx:=u D } I h) fun f s1 q => ?_)
  cases f with
  | next =>
    obtain ⟨σ',H',I',q⟩:=q
    exact h2 pins s1 σ' H' D I' q
  | ret v => exact q
  | brk => exact q
  | cont => exact q
theorem pss_one (h1:PS X st t):PSs X [st] t:=by
  intro pins s σ H D I h
  refine wpAny_execs_cons (thn (h1 pins s σ H D I h) fun f s1 q => ?_)
  cases f with
  | next => exact wpAny_execs_nil q
  | ret v => exact q
  | brk => exact q
  | cont => exact q
theorem Inv.quiet {pins:List (Addr × Obj)} {σ:St} {H:Hp} {s:Shared} (I:Inv X pins σ H s):interactive X.env = false:=by simp [interactive,I.ok.kind]
noncomputable def tDrop (te:TE):TS:=fun D σ H => te σ H fun _ H1 => D.nx σ H1
theorem ps_expr (he:PE X e te) (hs:swapsWith e none pos.line X.env = pure false:=by rfl):PS X (.Expr e pos) (tDrop te):=by
  intro pins s σ H D I h
  exact wpAny_Expr_any (thn (he pins s σ H _ I h) fun v s1 ⟨x,H1,I1,r1,q1⟩ => ⟨σ,H1,I1,q1⟩) I.quiet hs
noncomputable def tRet (te:TE):TS:=fun D σ H => te σ H D.rt
theorem ps_ret (he:PE X e te):PS X (.Return (some e) pos) (tRet te):=by
  intro pins s σ H D I h
  exact wpAny_Return_some (thn (he pins s σ H _ I h) fun v s1 ⟨x,H1,I1,r1,q1⟩ => ⟨x,σ,H1,I1,r1,q1⟩)
noncomputable def tIfS (c:TT) (t u:TS):TS:=fun D σ H => c σ H fun b H1 => if b = true then t D σ H1 else u D σ H1
theorem ps_if {c:Expr} {a b:List Stmt} {tc:TT} (hc:PT X c tc) (ha:PSs X a t) (hb:PSs X b u):PS X (.If c a b pos) (tIfS tc t u):=by
  intro pins s σ H D I h
  refine wpAny_If (thn (hc pins s σ H _ I h) fun d s1 ⟨H1,I1,q1⟩ => ?_)
  cases d with
  | true => exact ha pins s1 σ H1 D I1 q1
  | false => exact hb pins s1 σ H1 D I1 q1
end
noncomputable abbrev TG:=V → St → Hp → (St → Hp → Prop) → Prop
noncomputable abbrev TGs:=List V → St → Hp → (St → Hp → Prop) → Prop
noncomputable def PG (X:Cx) (target:Expr) (t:TG):Prop :=
  ∀ (pins:List (Addr × Obj)) (s:Shared) (σ:St) (H:Hp) (v:V) (u:Value) (Q:St → Hp → Prop),Inv X pins σ H s → RelV v u → t v σ H Q →
    wpAny (model X.prog X.w) X.A (assign target X.env u) (fun _ s' => ∃ σ' H',Inv X pins σ' H' s' ∧ Q σ' H') X.xe s
noncomputable def PGs (X:Cx) (ts:List Expr) (t:TGs):Prop :=
  ∀ (pins:List (Addr × Obj)) (s:Shared) (σ:St) (H:Hp) (vs:List V) (us:List Value) (Q:St → Hp → Prop),Inv X pins σ H s → Vals vs us → t vs σ H Q →
    wpAny (model X.prog X.w) X.A (assignInOrder ((assignEach ts X.env).map (·.2)) us) (fun _ s' => ∃ σ' H',Inv X pins σ' H' s' ∧ Q σ' H') X.xe s
section
variable {X:Cx} {pos:Pos}
noncomputable def gName (i:Nat):TG:=fun v σ H Q => Q (σ.set i (some v)) H
theorem pg_name {i:Nat} {x:Str} (hN:X.N.Nodup) (hi:X.N[i]? = some x) (hx:Loc X.env.scope x) (hf:X.fn x = true ∨ X.env.scope.names.lookup x = some .local:=by first | exact .inl rfl | exact .inr rfl | assumption):PG X (.Name x pos) (gName i):=by
  intro pins s σ H v u Q I r h
  exact wpAny_assign_Name (store_ok I hN hi hx r (fun s' I' => ⟨_,H,I',h⟩) hf)
noncomputable def gNil:TGs:=fun vs σ H Q => vs = [] ∧ Q σ H
noncomputable def gCons (t:TG) (u:TGs):TGs:=fun vs σ H Q => ∃ v r,vs = v :: r ∧ t v σ H fun σ' H' => u r σ' H' Q
theorem pgs_nil:PGs X [] gNil:=by
  intro pins s σ H vs us Q I r h
  obtain ⟨e,h⟩:=h
  subst e
  cases r
  exact assignInOrder_nil ⟨σ,H,I,h⟩
theorem pgs_cons {e:Expr} {es:List Expr} {t:TG} {u:TGs} (h1:PG X e t) (h2:PGs X es u)
    (hs:(assignEach (e :: es) X.env).map (·.2) = assign e X.env :: (assignEach es X.env).map (·.2):=by rfl):PGs X (e :: es) (gCons t u):=by
  intro pins s σ H vs us Q I r h
  obtain ⟨v,vr,e1,h⟩:=h
  subst e1
  cases r with
  | cons r rr =>
    rw [hs]
    refine assignInOrder_cons (thn (h1 pins s σ H _ _ _ I r h) fun _ s1 ⟨σ1,H1,I1,q1⟩ => ?_)
    exact h2 pins s1 σ1 H1 _ _ Q I1 rr q1
noncomputable def gTup (K:PySem.W.Frag) (n:Nat) (t:TGs):TG:=fun v σ H Q => ∃ a xs,v = .ref a ∧ SqT K H a xs ∧ xs.length = n ∧ t xs σ H Q
theorem pg_tup {es:List Expr} {k:Nat} {t:TGs} {n:Nat} (hc:X.calm = true) (h:PGs X es t)
    (hn:(assignEach es X.env).length = n:=by rfl) (hst:(assignEach es X.env).findIdx? (·.1) = none:=by rfl):PG X (.Tuple es k pos) (gTup X.K n t):=by
  intro pins s σ H v u Q I r hw
  obtain ⟨a,xs,e1,hq,hl,hw⟩:=hw
  subst e1
  cases r
  obtain ⟨its,rv,ht,hz⟩:=I.tuple hq
  refine assign_Tuple_tuple (I.ok.hd hc) ht (by simp [hn,← hl,rv.length]) hst fun h' hx => ?_
  have I1:Inv X pins σ H { s with heap:=h' }:=I.kept (t':=s.toks) fun b o e => hx b o (Nat.ne_of_lt (Heap.lt_size e)) e
  exact h pins _ σ H xs _ Q I1 (by simpa using rv) hw
noncomputable def tAsg (te:TE) (g:TG):TS:=fun D σ H => te σ H fun x H1 => g x σ H1 D.nx
theorem ps_asg {tg e:Expr} {te:TE} {g:TG} (he:PE X e te) (hg:PG X tg g) (hs:swapsWithSole [tg] e pos.line X.env = pure false:=by rfl) (hw:swappedStores [tg] e X.env = pure none:=by rfl)
    (h1:(assignEach [tg] X.env).map (·.2) = [assign tg X.env]:=by rfl):PS X (.Assign [tg] e pos) (tAsg te g):=by
  intro pins s σ H D I h
  refine wpAny_Assign_stores (thn (he pins s σ H _ I h) fun v s1 ⟨x,H1,I1,r1,q1⟩ => ?_) hs hw
  rw [h1]
  exact thn (hg pins s1 σ H1 x v _ I1 r1 q1) fun _ s2 q => q
theorem ps_set {i:Nat} {x:Str} {e:Expr} {te:TE} {pos':Pos} (hN:X.N.Nodup) (hi:X.N[i]? = some x) (hx:Loc X.env.scope x) (he:PE X e te) (hs:swapsWith e (some (.Name x pos')) pos.line X.env = pure false:=by rfl) (hf:X.fn x = true ∨ X.env.scope.names.lookup x = some .local:=by first | exact .inl rfl | exact .inr rfl | assumption) :
    PS X (.Assign [.Name x pos'] e pos) (tAsg te (gName i)):=by
  intro pins s σ H D I h
  refine wpAny_Assign_Name (thn (he pins s σ H _ I h) fun v s1 ⟨y,H1,I1,r1,q1⟩ => ?_) hs
  exact store_ok I1 hN hi hx r1 (fun s2 I2 => ⟨_,H1,I2,q1⟩) hf
end
section
variable {X:Cx} {pos:Pos}
noncomputable def tWhile (c:TT) (tb:TS):TS:=fun D σ H => ∃ W:Nat → St → Hp → Prop,(∃ m,W m σ H) ∧ ∀ m σ H,W m σ H →
  c σ H fun b H1 => if b = true then ∃ N:St → Hp → Prop,(∀ σ' H',N σ' H' → ∃ m',m' < m ∧ W m' σ' H') ∧ tb { D with nx:=N,ct:=N,bk:=D.nx } σ H1 else D.nx σ H1
theorem ps_while {c:Expr} {body:List Stmt} {tc:TT} {tb:TS} (hp:PassesOwn (model X.prog X.w) X.A X.env X.xe) (hc:PT X c tc) (hb:PSs X body tb):PS X (.While c body [] pos) (tWhile tc tb):=by
  intro pins s σ H D I h
  obtain ⟨W,⟨m0,w0⟩,turn⟩:=h
  refine wpAny_While (codeAny_whileLoop (fun n s' => ∃ σ' H',Inv X pins σ' H' s' ∧ W n σ' H') ?_ m0 ⟨σ,H,I,w0⟩)
  rintro n s1 ⟨σ1,H1,I1,w1⟩
  refine wpAny_passesOwn hp (thn (hc pins s1 σ1 H1 _ I1 (turn n σ1 H1 w1)) fun b s2 ⟨H2,I2,q2⟩ => ?_)
  cases b with
  | true =>
    obtain ⟨N,hN,q2⟩:=q2
    rw [if_pos rfl]
    refine wpAny_passesOwn hp (thn (hb pins s2 σ1 H2 _ I2 q2) fun f s3 q3 => ?_)
    cases f with
    | next =>
      obtain ⟨σ3,H3,I3,n3⟩:=q3
      obtain ⟨m',hm,w3⟩:=hN σ3 H3 n3
      exact ⟨m',hm,σ3,H3,I3,w3⟩
    | cont =>
      obtain ⟨σ3,H3,I3,n3⟩:=q3
      obtain ⟨m',hm,w3⟩:=hN σ3 H3 n3
      exact ⟨m',hm,σ3,H3,I3,w3⟩
    | brk => exact q3
    | ret v => exact q3
  | false =>
    rw [if_neg Bool.false_ne_true]
    exact wpAny_execs_nil ⟨σ1,H2,I2,q2⟩
end
structure It where
  go:Nat → Hp → Prop
  yld:Nat → Hp → V → Hp → Prop
  stop:Nat → Hp → Prop
noncomputable def FpOk (X:Cx) (pins:List (Addr × Obj)) (H:Hp) (b:Addr):Prop :=
  H b = none ∧ b ≠ X.env.locals ∧ b ∉ X.fs ∧ (b ∈ X.ex ∨ X.s₀.heap.objs.size ≤ b) ∧ (∀ x c,X.env.cells.lookup x = some c → c ≠ b) ∧ ∀ p ∈ X.pn ++ pins,p.1 ≠ b
theorem Inv.fpOk {X:Cx} {pins:List (Addr × Obj)} {σ:St} {H H':Hp} {s:Shared} {b:Addr} (I:Inv X pins σ H s) (hb:s.heap.objs.size ≤ b) (hn:H' b = none):FpOk X pins H' b:=by
  refine ⟨hn,Nat.ne_of_gt (Nat.lt_of_lt_of_le I.lt hb),I.nofs hb,.inr (Nat.le_trans I.sz hb),fun x c e z => ?_,fun p hp z => ?_⟩
  · obtain ⟨v,q⟩:=I.cell x c e
    exact absurd (Nat.lt_of_lt_of_le q.lt (by rw [z]; exact hb)) (Nat.lt_irrefl _)
  · exact absurd (Nat.lt_of_lt_of_le (Heap.lt_size (I.pin p hp).1) (by rw [z]; exact hb)) (Nat.lt_irrefl _)
structure Turn (P:Program) (w:World) (K:PySem.W.Frag) (tg:Expr) (J:It) (fp:List Addr) (it:Addr) (tn:Nat → Heap → Prop):Prop where
  mem:it ∈ fp
  obj:∀ i h,tn i h → ∀ b ∈ fp,∃ o,h.get? b = some o ∧ ∀ v,o.data ≠ .cell v
  keep:∀ i h h',tn i h → (∀ b ∈ fp,∀ o,h.get? b = some o → h'.get? b = some o) → tn i h'
  item:∀ (X:Cx),X.prog = P → X.w = w → X.K = K → X.calm = true → ∀ (i:Nat) (pins:List (Addr × Obj)) (s:Shared) (σ:St) (H:Hp) (E:Value → Shared → Prop),Inv X pins σ H s → (∀ b ∈ fp,FpOk X pins H b) → tn i s.heap → J.go i H →
    wpAny (model P w) X.A (pyNext (.ref it)) (fun r s1 => ∃ u,r = some u ∧
      wpAny (model P w) X.A (letOwnedTupleGo tg (.ref it) u) (fun _ s2 => ∃ x H',Inv X pins σ H' s2 ∧ RelV x u ∧ J.yld i H x H' ∧ tn (i + 1) s2.heap ∧ ∀ b ∈ fp,H' b = none) E s1) E s
  done:∀ (X:Cx),X.prog = P → X.w = w → X.K = K → X.calm = true → ∀ (i:Nat) (pins:List (Addr × Obj)) (s:Shared) (σ:St) (H:Hp) (E:Value → Shared → Prop),Inv X pins σ H s → (∀ b ∈ fp,FpOk X pins H b) → tn i s.heap → J.stop i H →
    wpAny (model P w) X.A (pyNext (.ref it)) (fun r s1 => r = none ∧ Inv X pins σ H s1) E s
  self:∀ (A:Around) (i:Nat) (s:Shared) (Q:Value → Shared → Prop) (E:Value → Shared → Prop),tn i s.heap → Q (.ref it) s → wpAny (model P w) A (pyIter (.ref it)) Q E s
noncomputable abbrev TI:=St → Hp → (It → Hp → Prop) → Prop
noncomputable def PIE (X:Cx) (pins:List (Addr × Obj)) (σ:St) (tg:Expr) (R:It → Hp → Prop) (itv:Value) (s2:Shared):Prop :=
  ∃ (it:Addr) (fp:List Addr) (tn:Nat → Heap → Prop) (J:It) (H':Hp),itv = .ref it ∧ Inv X pins σ H' s2 ∧ Turn X.prog X.w X.K tg J fp it tn ∧ tn 0 s2.heap ∧ (∀ b ∈ fp,FpOk X pins H' b) ∧ R J H'
noncomputable def PI (X:Cx) (tg iter:Expr) (wi:TI):Prop :=
  ∀ (pins:List (Addr × Obj)) (s:Shared) (σ:St) (H:Hp) (R:It → Hp → Prop),Inv X pins σ H s → wi σ H R →
    wpAny (model X.prog X.w) X.A (eval iter X.env) (fun v s1 => wpAny (model X.prog X.w) X.A (pyIter v) (PIE X pins σ tg R) X.xe s1) X.xe s
theorem go_of {M:Model} {A:Around} {E:Value → Shared → Prop} {s:Shared} {tg:Expr} {it:Addr} {u:Value} {o:Obj} {n:String} {vs:Array Value} {Q:Unit → Shared → Prop} (ho:s.heap.get? it = some o) (hc:o.cls = .type n) (hd:o.data = .fields vs)
    (hn:["enumerate","zip","dict_itemiterator","dict_reverseitemiterator","odict_iterator","itertools.zip_longest","itertools.pairwise"].contains n = false) (hQ:Q () s):wpAny M A (letOwnedTupleGo tg (.ref it) u) Q E s:=by
  unfold letOwnedTupleGo
  cases tg <;> first
    | exact wpAny_pure hQ
    | (cases u <;> first
        | exact wpAny_pure hQ
        | (refine wpAny_bind (wpAny_load ho ?_)
           rw [hc,hd]
           show wpAny M A (if (["enumerate","zip","dict_itemiterator","dict_reverseitemiterator","odict_iterator","itertools.zip_longest","itertools.pairwise"].contains n && vs[0]? == some (rawInt _)) = true then _ else _) Q E s
           rw [if_neg (by intro h; rw [hn,Bool.false_and] at h; cases h)]
           exact wpAny_pure hQ))
noncomputable def Itl (K:PySem.W.Frag) (a:Addr):It :=
  ⟨fun i H => ∃ xs x,SqL K H a xs ∧ xs[i]? = some x,fun i H x H' => H' = H ∧ ∀ xs,SqL K H a xs → xs[i]? = some x,fun i H => ∃ xs,SqL K H a xs ∧ xs.length ≤ i⟩
noncomputable def Itt (K:PySem.W.Frag) (a:Addr):It :=
  ⟨fun i H => ∃ xs x,SqT K H a xs ∧ xs[i]? = some x,fun i H x H' => H' = H ∧ ∀ xs,SqT K H a xs → xs[i]? = some x,fun i H => ∃ xs,SqT K H a xs ∧ xs.length ≤ i⟩
noncomputable def Itr (lo:Int) (n:Nat):It:=⟨fun i _ => i < n,fun i H x H' => H' = H ∧ x = .int (lo + i),fun i _ => n ≤ i⟩
theorem turn_list {P:Program} {w:World} {K:PySem.W.Frag} {tg:Expr} (a it:Addr):Turn P w K tg (Itl K a) [it] it (fun i h => h.IsListIter it a i) where
  mem:=by simp
  obj:=fun i h st b hb => by
    have e:b = it:=by simpa using hb
    subst e
    obtain ⟨o,e,c,d⟩:=st
    exact ⟨o,e,fun v z => by rw [d] at z; cases z⟩
  keep:=fun i h h' st k => st.at fun o e => k it (by simp) o e
  item:=by
    intro X hP hw hK hc i pins s σ H E I hf st hg
    subst hP hw hK
    obtain ⟨xs,x,hq,hx⟩:=hg
    obtain ⟨its,rv,p,hz⟩:=I.list hq
    obtain ⟨u,hu,ru⟩:=rv.get hx
    obtain ⟨f0,f1,f2,f3,f4,f5⟩:=hf it (by simp)
    refine wpAny_pyNext_list_item st p.isList (x:=u) (by simpa using hu) fun h' st' sb => ?_
    have I1:Inv X pins σ H { s with heap:=h' }:=I.turned (t':=s.toks) (fun b o hb e => (sb.2 b hb).trans e) f0 f1 f3 f4 f5
    obtain ⟨o,e,c,d⟩:=id st'
    exact ⟨u,rfl,go_of (s:={ s with heap:=h' }) e c d (by decide) ⟨x,H,I1,ru,⟨rfl,fun ys hy => by rw [I.list_inj hy hq]; exact hx⟩,st',fun b hb => (hf b hb).1⟩⟩
  done:=by
    intro X hP hw hK hc i pins s σ H E I hf st hg
    subst hP hw hK
    obtain ⟨xs,hq,hx⟩:=hg
    obtain ⟨its,rv,p,hz⟩:=I.list hq
    obtain ⟨f0,f1,f2,f3,f4,f5⟩:=hf it (by simp)
    have hl:=rv.length
    exact wpAny_pyNext_list_end (I.ok.hd hc) st p.isList (by simp; omega) fun h' eb => ⟨rfl,I.turned (t':=s.toks) (fun b o hb e => eb b o hb e) f0 f1 f3 f4 f5⟩
  self:=fun _ _ _ _ _ st h => wpAny_pyIter_listiter st h
theorem turn_tuple {P:Program} {w:World} {K:PySem.W.Frag} {tg:Expr} (a it:Addr):Turn P w K tg (Itt K a) [it] it (fun i h => h.IsTupleIter it a i) where
  mem:=by simp
  obj:=fun i h st b hb => by
    have e:b = it:=by simpa using hb
    subst e
    obtain ⟨o,e,c,d⟩:=st
    exact ⟨o,e,fun v z => by rw [d] at z; cases z⟩
  keep:=fun i h h' st k => st.at fun o e => k it (by simp) o e
  item:=by
    intro X hP hw hK hc i pins s σ H E I hf st hg
    subst hP hw hK
    obtain ⟨xs,x,hq,hx⟩:=hg
    obtain ⟨its,rv,p,hz⟩:=I.tuple hq
    obtain ⟨u,hu,ru⟩:=rv.get hx
    obtain ⟨f0,f1,f2,f3,f4,f5⟩:=hf it (by simp)
    refine wpAny_pyNext_tuple_item st (show s.heap.IsTuple a its.toArray from p) (x:=u) (by simpa using hu) fun h' st' sb => ?_
    have I1:Inv X pins σ H { s with heap:=h' }:=I.turned (t':=s.toks) (fun b o hb e => (sb.2 b hb).trans e) f0 f1 f3 f4 f5
    obtain ⟨o,e,c,d⟩:=id st'
    exact ⟨u,rfl,go_of (s:={ s with heap:=h' }) e c d (by decide) ⟨x,H,I1,ru,⟨rfl,fun ys hy => by rw [I.tuple_inj hy hq]; exact hx⟩,st',fun b hb => (hf b hb).1⟩⟩
  done:=by
    intro X hP hw hK hc i pins s σ H E I hf st hg
    subst hP hw hK
    obtain ⟨xs,hq,hx⟩:=hg
    obtain ⟨its,rv,p,hz⟩:=I.tuple hq
    obtain ⟨f0,f1,f2,f3,f4,f5⟩:=hf it (by simp)
    have hl:=rv.length
    exact wpAny_pyNext_tuple_end (I.ok.hd hc) st (show s.heap.IsTuple a its.toArray from p) (by simp; omega) fun h' eb => ⟨rfl,I.turned (t':=s.toks) (fun b o hb e => eb b o hb e) f0 f1 f3 f4 f5⟩
  self:=fun _ _ _ _ _ st h => wpAny_pyIter_tupleiter st h
theorem turn_range {P:Program} {w:World} {K:PySem.W.Frag} {tg:Expr} (it:Addr) (lo:Int) (n:Nat):Turn P w K tg (Itr lo n) [it] it (fun i h => IsRangeIter h it (lo + (i:Nat) * 1) ((n:Int) - (i:Nat)) 1) where
  mem:=by simp
  obj:=fun i h st b hb => by
    have e:b = it:=by simpa using hb
    subst e
    exact ⟨_,st,fun v z => by
      have z':Data.fields _ = Data.cell v:=z
      cases z'⟩
  keep:=fun i h h' st k => k it (by simp) _ st
  item:=by
    intro X hP hw hK hc i pins s σ H E I hf st hg
    subst hP hw hK
    obtain ⟨f0,f1,f2,f3,f4,f5⟩:=hf it (by simp)
    have W:=Walks.range (prog:=X.prog) (w:=X.w) (I.ok.hd hc) it lo 1 n
    refine W.item i s _ _ hg st fun v h' tk hv st' kk => ?_
    obtain ⟨t,rfl⟩:=hv
    have I1:Inv X pins σ H { s with heap:=h',toks:=tk }:=I.turned (fun b o hb e => kk b o (by simpa using hb) e) f0 f1 f3 f4 f5
    refine ⟨_,rfl,go_of (s:={ s with heap:=h',toks:=tk }) (n:="range_iterator") st' rfl rfl (by decide) ⟨.int (lo + i),H,I1,⟨t,?_⟩,⟨rfl,rfl⟩,st',fun b hb => (hf b hb).1⟩⟩
    rw [Int.mul_one]
  done:=by
    intro X hP hw hK hc i pins s σ H E I hf st hg
    subst hP hw hK
    obtain ⟨f0,f1,f2,f3,f4,f5⟩:=hf it (by simp)
    exact wpAny_pyNext_range_end (I.ok.hd hc) st (by have:n ≤ i:=hg; omega) fun h' eb => ⟨rfl,I.turned (t':=s.toks) (fun b o hb e => eb b o hb e) f0 f1 f3 f4 f5⟩
  self:=fun _ _ _ _ _ st h => wpAny_pyIter_rangeiter st h
end L2
namespace L2
open PySem PySem.Spec PyProof.Rows
section
variable {X:Cx} {tg:Expr}
noncomputable def iList (K:PySem.W.Frag) (tl:TE):TI:=fun σ H R => tl σ H fun x H1 => ∃ a,x = .ref a ∧ (∃ xs,SqL K H1 a xs) ∧ R (Itl K a) H1
noncomputable def iTup (K:PySem.W.Frag) (tl:TE):TI:=fun σ H R => tl σ H fun x H1 => ∃ a,x = .ref a ∧ (∃ xs,SqT K H1 a xs) ∧ R (Itt K a) H1
theorem pi_list {l:Expr} {tl:TE} (hl:PE X l tl):PI X tg l (iList X.K tl):=by
  intro pins s σ H R I h
  refine thn (hl pins s σ H _ I h) fun v s1 ⟨x,H1,I1,r1,q1⟩ => ?_
  obtain ⟨a,e,⟨xs,hq⟩,q⟩:=q1
  subst e
  cases r1
  obtain ⟨its,rv,p,hz⟩:=I1.list hq
  refine wpAny_pyIter_list p.isList ?_
  refine ⟨s1.heap.objs.size,[s1.heap.objs.size],_,_,H1,rfl,I1.kept (t':=s1.toks) fun b o e => Heap.get?_push_of_some _ e,turn_list a _,⟨_,Heap.get?_push_size _ rfl,rfl,rfl⟩,fun b hb => ?_,q⟩
  have e:b = s1.heap.objs.size:=by simpa using hb
  subst e
  exact I1.fpOk (Nat.le_refl _) (I1.hok.fresh (Nat.le_refl _))
theorem pi_tup {l:Expr} {tl:TE} (hl:PE X l tl):PI X tg l (iTup X.K tl):=by
  intro pins s σ H R I h
  refine thn (hl pins s σ H _ I h) fun v s1 ⟨x,H1,I1,r1,q1⟩ => ?_
  obtain ⟨a,e,⟨xs,hq⟩,q⟩:=q1
  subst e
  cases r1
  obtain ⟨its,rv,p,hz⟩:=I1.tuple hq
  refine wpAny_pyIter_tuple (show s1.heap.IsTuple a its.toArray from p) ?_
  refine ⟨s1.heap.objs.size,[s1.heap.objs.size],_,_,H1,rfl,I1.kept (t':=s1.toks) fun b o e => Heap.get?_push_of_some _ e,turn_tuple a _,⟨_,Heap.get?_push_size _ rfl,rfl,rfl⟩,fun b hb => ?_,q⟩
  have e:b = s1.heap.objs.size:=by simpa using hb
  subst e
  exact I1.fpOk (Nat.le_refl _) (I1.hok.fresh (Nat.le_refl _))
theorem range_it {pins:List (Addr × Obj)} {σ:St} {H:Hp} {s:Shared} {R:It → Hp → Prop} {E:Value → Shared → Prop} {lo hi:Int} {t u v:Tok} {tk:Nat} (I:Inv X pins σ H s) (h1:-(2 ^ 62) ≤ lo) (h2:lo < 2 ^ 62) (h3:-(2 ^ 62) ≤ hi) (h4:hi < 2 ^ 62)
    (q:R (Itr lo (hi - lo).toNat) H):wpAny (model X.prog X.w) X.A (pyIter (.ref s.heap.objs.size)) (PIE X pins σ tg R) E { s with heap:=s.heap.push { cls:=.type "range",data:=.fields #[.int lo t,.int hi u,.int 1 v] },toks:=tk }:=by
  refine wpAny_pyIter_range (IsRange.new ..) (small_one h1 h2 h3 h4) ?_
  have I1:Inv X pins σ H { s with heap:=s.heap.push { cls:=.type "range",data:=.fields #[.int lo t,.int hi u,.int 1 v] },toks:=tk }:=I.kept fun b o e => Heap.get?_push_of_some _ e
  refine ⟨(s.heap.push { cls:=.type "range",data:=.fields #[.int lo t,.int hi u,.int 1 v] }).objs.size,[(s.heap.push { cls:=.type "range",data:=.fields #[.int lo t,.int hi u,.int 1 v] }).objs.size],_,_,H,rfl,
    I1.kept (t':=tk) fun b o e => Heap.get?_push_of_some _ e,turn_range _ lo (hi - lo).toNat,?_,fun b hb => ?_,q⟩
  · have e1:lo + ((0:Nat):Int) * 1 = lo:=by simp
    have e2:(((hi - lo).toNat:Nat):Int) - ((0:Nat):Int) = Builtin.Range.rangeSize lo hi 1:=by rw [rangeSize_one]; split <;> omega
    show IsRangeIter _ _ (lo + ((0:Nat):Int) * 1) ((((hi - lo).toNat:Nat):Int) - ((0:Nat):Int)) 1
    rw [e1,e2]
    exact Heap.get?_push_size _ rfl
  · have e:b = (s.heap.push { cls:=.type "range",data:=.fields #[.int lo t,.int hi u,.int 1 v] }).objs.size:=by simpa using hb
    subst e
    exact I1.fpOk (Nat.le_refl _) (I1.hok.fresh (Nat.le_refl _))
noncomputable def iRng1 (ta:TA):TI:=fun σ H R => ta σ H fun vs H1 => ∃ j:Int,vs = [.int j] ∧ -(2 ^ 62) ≤ j ∧ j < 2 ^ 62 ∧ R (Itr 0 j.toNat) H1
theorem pi_range1 {a:Expr} {ta:TA} {p pos:Pos} (hg:Gl X "range") (hm:X.mg "range" = none) (ha:PA X [a] ta) (hs:starEach [a] X.env = [(false,eval a X.env)]:=by rfl):PI X tg (.Call (.Name "range" p) [a] [] pos) (iRng1 ta):=by
  intro pins s σ H R I h
  refine Call_ (ld_blt I hg hm boot_range (PyProof.Rows.callWith_type1 (thn (ha pos pins s σ H _ I h) fun us s1 ⟨vs,H1,I1,r1,q1⟩ => ?_) hs rfl))
  obtain ⟨j,e,q1,q2,q⟩:=q1
  subst e
  cases r1 with
  | cons r rr =>
    cases rr
    obtain ⟨t,rfl⟩:=r
    exact call_range_1 (range_it I1 (by omega) (by omega) q1 q2 (by simpa using q))
noncomputable def tFor (wi:TI) (g:TG) (tb:TS):TS:=fun D σ H => wi σ H fun J H1 => ∃ W:Nat → Nat → St → Hp → Prop,(∃ m,W 0 m σ H1) ∧ ∀ i m σ H,W i m σ H →
  (J.stop i H ∧ D.nx σ H) ∨ (J.go i H ∧ ∃ N:St → Hp → Prop,(∀ σ' H',N σ' H' → ∃ m',m' < m ∧ W (i + 1) m' σ' H') ∧ ∀ x H',J.yld i H x H' → g x σ H' fun σ2 H2 => tb { D with nx:=N,ct:=N,bk:=D.nx } σ2 H2)
noncomputable def pinsAt (fp:List Addr) (h:Heap):List (Addr × Obj):=fp.filterMap fun b => (h.get? b).map fun o => (b,o)
theorem mem_pinsAt {fp:List Addr} {h:Heap} {b:Addr} {o:Obj} (hb:b ∈ fp) (e:h.get? b = some o):(b,o) ∈ pinsAt fp h:=List.mem_filterMap.mpr ⟨b,hb,by rw [e]; rfl⟩
theorem of_pinsAt {fp:List Addr} {h:Heap} {p:Addr × Obj} (hp:p ∈ pinsAt fp h):p.1 ∈ fp ∧ h.get? p.1 = some p.2:=by
  obtain ⟨b,hb,e⟩:=List.mem_filterMap.mp hp
  cases q:h.get? b with
  | none => rw [q] at e; cases e
  | some o =>
    rw [q] at e
    have e':(b,o) = p:=Option.some.inj e
    subst e'
    exact ⟨hb,q⟩
theorem Inv.pinned {pins:List (Addr × Obj)} {σ:St} {H:Hp} {s:Shared} {fp:List Addr} (I:Inv X pins σ H s) (hf:∀ b ∈ fp,FpOk X pins H b) (ho:∀ b ∈ fp,∃ o,s.heap.get? b = some o ∧ ∀ v,o.data ≠ .cell v):Inv X (pins ++ pinsAt fp s.heap) σ H s :=
  I.pins_of fun p hp => (List.mem_append.mp hp).elim (fun z => I.pin p (List.mem_append_right _ z)) fun z => by
    obtain ⟨hb,e⟩:=of_pinsAt z
    obtain ⟨f0,f1,f2,_⟩:=hf p.1 hb
    obtain ⟨o,e',d⟩:=ho p.1 hb
    rw [e] at e'; cases e'
    exact ⟨e,f0,f1,f2,d⟩
theorem Inv.unpinned {pins pl:List (Addr × Obj)} {σ:St} {H:Hp} {s:Shared} (I:Inv X (pins ++ pl) σ H s):Inv X pins σ H s:=I.pins_of fun p hp => I.pin p (List.mem_append_right _ (List.mem_append_left _ hp))
theorem ps_for {iter:Expr} {body:List Stmt} {wi:TI} {g:TG} {tb:TS} {pos:Pos} (hp:PassesOwn (model X.prog X.w) X.A X.env X.xe) (hc:X.calm = true) (hi:PI X tg iter wi) (hg:PG X tg g) (hb:PSs X body tb)
    (hs:∀ x,foldedSetIterable iter X.env x = pure x:=by intro _; rfl):PS X (.For tg iter body [] pos) (tFor wi g tb):=by
  intro pins s σ H D I h
  refine wpAny_For (thn (hi pins s σ H _ I h) fun v s1 h1 => thn h1 fun itv s2 h2 => ?_) hs
  obtain ⟨it,fp,tn,J,H2,e,I2,T,st2,f2,W,⟨m0,w0⟩,turn⟩:=h2
  subst e
  have stat:∀ {H':Hp},(∀ b ∈ fp,H' b = none) → ∀ b ∈ fp,FpOk X pins H' b:=fun hn b hb => ⟨hn b hb,(f2 b hb).2⟩
  refine codeAny_forLoop_any (fun n s' => ∃ i σ' H',Inv X pins σ' H' s' ∧ tn i s'.heap ∧ (∀ b ∈ fp,H' b = none) ∧ W i n σ' H') ?_ m0 ⟨0,σ,H2,I2,st2,fun b hb => (f2 b hb).1,w0⟩
  rintro n s3 ⟨i,σ3,H3,I3,st3,fr3,w3⟩
  rcases turn i n σ3 H3 w3 with ⟨stop,qn⟩ | ⟨go,N,hN,step⟩
  · refine wpAny_passesOwn hp (thn (T.done X rfl rfl rfl hc i pins s3 σ3 H3 X.xe I3 (stat fr3) st3 stop) fun r s4 ⟨hr,I4⟩ => ?_)
    subst hr
    exact wpAny_execs_nil ⟨σ3,H3,I4,qn⟩
  · refine wpAny_passesOwn hp (thn (T.item X rfl rfl rfl hc i pins s3 σ3 H3 X.xe I3 (stat fr3) st3 go) fun r s4 ⟨u,hr,h4⟩ => ?_)
    subst hr
    refine wpAny_passesOwn hp (thn h4 fun _ s5 ⟨x,H5,I5,r5,y5,st5,fr5⟩ => ?_)
    have I5':=I5.pinned (stat fr5) (T.obj _ _ st5)
    refine wpAny_passesOwn hp (thn (hg _ s5 σ3 H5 x u _ I5' r5 (step x H5 y5)) fun _ s6 ⟨σ6,H6,I6,q6⟩ => ?_)
    refine wpAny_passesOwn hp (thn (hb _ s6 σ6 H6 _ I6 q6) fun f s7 q7 => ?_)
    have again:∀ {σ7:St} {H7:Hp},Inv X (pins ++ pinsAt fp s5.heap) σ7 H7 s7 → N σ7 H7 → ∃ m,m < n ∧ ∃ i σ' H',Inv X pins σ' H' s7 ∧ tn i s7.heap ∧ (∀ b ∈ fp,H' b = none) ∧ W i m σ' H':=fun {σ7 H7} I7 n7 => by
      obtain ⟨m',hm,w7⟩:=hN σ7 H7 n7
      refine ⟨m',hm,i + 1,σ7,H7,I7.unpinned,T.keep _ _ _ st5 fun b hb o e => (I7.pin (b,o) (List.mem_append_right _ (List.mem_append_right _ (mem_pinsAt hb e)))).1,fun b hb => ?_,w7⟩
      obtain ⟨o,e,d⟩:=T.obj _ _ st5 b hb
      exact (I7.pin (b,o) (List.mem_append_right _ (List.mem_append_right _ (mem_pinsAt hb e)))).2.1
    cases f with
    | next => obtain ⟨σ7,H7,I7,n7⟩:=q7; exact again I7 n7
    | cont => obtain ⟨σ7,H7,I7,n7⟩:=q7; exact again I7 n7
    | brk => obtain ⟨σ7,H7,I7,q7⟩:=q7; exact ⟨σ7,H7,I7.unpinned,q7⟩
    | ret v => obtain ⟨x7,σ7,H7,I7,r7,q7⟩:=q7; exact ⟨x7,σ7,H7,I7.unpinned,r7,q7⟩
end
theorem for_list {K:PySem.W.Frag} {a:Addr} {xs:List V} {g:TG} {tb:TS} {D:Ends} {σ:St} {H:Hp} (Pv:Nat → St → Hp → Prop) (h0:Pv 0 σ H) (hl:∀ i σ H,i ≤ xs.length → Pv i σ H → SqL K H a xs)
    (hs:∀ i x σ H,xs[i]? = some x → Pv i σ H → g x σ H fun σ2 H2 => tb { D with nx:=Pv (i + 1),ct:=Pv (i + 1),bk:=D.nx } σ2 H2) (hd:∀ σ H,Pv xs.length σ H → D.nx σ H) :
    ∃ W:Nat → Nat → St → Hp → Prop,(∃ m,W 0 m σ H) ∧ ∀ i m σ H,W i m σ H →
      ((Itl K a).stop i H ∧ D.nx σ H) ∨ ((Itl K a).go i H ∧ ∃ N:St → Hp → Prop,(∀ σ' H',N σ' H' → ∃ m',m' < m ∧ W (i + 1) m' σ' H') ∧ ∀ x H',(Itl K a).yld i H x H' → g x σ H' fun σ2 H2 => tb { D with nx:=N,ct:=N,bk:=D.nx } σ2 H2):=by
  refine ⟨fun i m σ H => m = xs.length - i ∧ i ≤ xs.length ∧ Pv i σ H,⟨xs.length,by simp,Nat.zero_le _,h0⟩,?_⟩
  rintro i m σ H ⟨rfl,hi,p⟩
  have q:=hl i σ H hi p
  by_cases hlt:i < xs.length
  · refine .inr ⟨⟨xs,xs[i],q,by simp [hlt]⟩,Pv (i + 1),fun σ' H' p' => ⟨xs.length - (i + 1),by omega,rfl,hlt,p'⟩,fun x H' y => ?_⟩
    obtain ⟨e,y⟩:=y
    subst e
    exact hs i x σ _ (y xs q) p
  · have e:i = xs.length:=by omega
    subst e
    exact .inl ⟨⟨xs,q,Nat.le_refl _⟩,hd σ H p⟩
theorem for_tup {K:PySem.W.Frag} {a:Addr} {xs:List V} {g:TG} {tb:TS} {D:Ends} {σ:St} {H:Hp} (Pv:Nat → St → Hp → Prop) (h0:Pv 0 σ H) (hl:∀ i σ H,i ≤ xs.length → Pv i σ H → SqT K H a xs)
    (hs:∀ i x σ H,xs[i]? = some x → Pv i σ H → g x σ H fun σ2 H2 => tb { D with nx:=Pv (i + 1),ct:=Pv (i + 1),bk:=D.nx } σ2 H2) (hd:∀ σ H,Pv xs.length σ H → D.nx σ H) :
    ∃ W:Nat → Nat → St → Hp → Prop,(∃ m,W 0 m σ H) ∧ ∀ i m σ H,W i m σ H →
      ((Itt K a).stop i H ∧ D.nx σ H) ∨ ((Itt K a).go i H ∧ ∃ N:St → Hp → Prop,(∀ σ' H',N σ' H' → ∃ m',m' < m ∧ W (i + 1) m' σ' H') ∧ ∀ x H',(Itt K a).yld i H x H' → g x σ H' fun σ2 H2 => tb { D with nx:=N,ct:=N,bk:=D.nx } σ2 H2):=by
  refine ⟨fun i m σ H => m = xs.length - i ∧ i ≤ xs.length ∧ Pv i σ H,⟨xs.length,by simp,Nat.zero_le _,h0⟩,?_⟩
  rintro i m σ H ⟨rfl,hi,p⟩
  have q:=hl i σ H hi p
  by_cases hlt:i < xs.length
  · refine .inr ⟨⟨xs,xs[i],q,by simp [hlt]⟩,Pv (i + 1),fun σ' H' p' => ⟨xs.length - (i + 1),by omega,rfl,hlt,p'⟩,fun x H' y => ?_⟩
    obtain ⟨e,y⟩:=y
    subst e
    exact hs i x σ _ (y xs q) p
  · have e:i = xs.length:=by omega
    subst e
    exact .inl ⟨⟨xs,q,Nat.le_refl _⟩,hd σ H p⟩
theorem for_range {lo:Int} {n:Nat} {g:TG} {tb:TS} {D:Ends} {σ:St} {H:Hp} (Pv:Nat → St → Hp → Prop) (h0:Pv 0 σ H)
    (hs:∀ i σ H,i < n → Pv i σ H → g (.int (lo + i)) σ H fun σ2 H2 => tb { D with nx:=Pv (i + 1),ct:=Pv (i + 1),bk:=D.nx } σ2 H2) (hd:∀ σ H,Pv n σ H → D.nx σ H) :
    ∃ W:Nat → Nat → St → Hp → Prop,(∃ m,W 0 m σ H) ∧ ∀ i m σ H,W i m σ H →
      ((Itr lo n).stop i H ∧ D.nx σ H) ∨ ((Itr lo n).go i H ∧ ∃ N:St → Hp → Prop,(∀ σ' H',N σ' H' → ∃ m',m' < m ∧ W (i + 1) m' σ' H') ∧ ∀ x H',(Itr lo n).yld i H x H' → g x σ H' fun σ2 H2 => tb { D with nx:=N,ct:=N,bk:=D.nx } σ2 H2):=by
  refine ⟨fun i m σ H => m = n - i ∧ i ≤ n ∧ Pv i σ H,⟨n,by simp,Nat.zero_le _,h0⟩,?_⟩
  rintro i m σ H ⟨rfl,hi,p⟩
  by_cases hlt:i < n
  · refine .inr ⟨hlt,Pv (i + 1),fun σ' H' p' => ⟨n - (i + 1),by omega,rfl,hlt,p'⟩,fun x H' y => ?_⟩
    obtain ⟨e,y⟩:=y
    subst e y
    exact hs i σ _ hlt p
  · have e:i = n:=by omega
    subst e
    exact .inl ⟨Nat.le_refl _,hd σ H p⟩
end L2
namespace L2
open PySem PySem.Spec PyProof.Rows
noncomputable abbrev R2:=V → V → Hp → VK → Prop
noncomputable def OpR (X:Cx) (f:Value → Value → Sem Value) (r:R2):Prop :=
  ∀ (pins:List (Addr × Obj)) (s:Shared) (σ:St) (H:Hp) (x y:V) (v u:Value) (Q:VK),Inv X pins σ H s → RelV x v → RelV y u → r x y H Q →
    wpAny (model X.prog X.w) X.A (f v u) (EP X pins σ Q) X.xe s
noncomputable def CallR (X:Cx) (f:Value) (r:List V → Hp → VK → Prop):Prop :=
  ∀ (pins:List (Addr × Obj)) (s:Shared) (σ:St) (H:Hp) (xs:List V) (us:List Value) (Q:VK),Inv X pins σ H s → Vals xs us → r xs H Q →
    wpAny (model X.prog X.w) X.A (call f us) (EP X pins σ Q) X.xe s
noncomputable def tOp (r:R2) (ta tb:TE):TE:=fun σ H Q => ta σ H fun x H1 => tb σ H1 fun y H2 => r x y H2 Q
noncomputable def rI (C:Int → Int → Prop) (g:Int → Int → V):R2:=fun x y H Q => ∃ i j,x = .int i ∧ y = .int j ∧ C i j ∧ Q (g i j) H
noncomputable def rI0 (g:Int → Int → V):R2:=fun x y H Q => ∃ i j,x = .int i ∧ y = .int j ∧ Q (g i j) H
section
variable {X:Cx} {a b c:Expr} {ta tb tc:TE} {pos:Pos}
theorem binT (ha:PE X a ta) (hb:PE X b tb) {pins:List (Addr × Obj)} {s:Shared} {σ:St} {H:Hp} {R:V → V → Hp → Prop} (I:Inv X pins σ H s)
    (h:ta σ H fun x H1 => tb σ H1 fun y H2 => R x y H2) {Q:Value → Shared → Prop} {f:Value → Value → Sem Value}
    (hf:∀ v u s2 x y H2,Inv X pins σ H2 s2 → RelV x v → RelV y u → R x y H2 → wpAny (model X.prog X.w) X.A (f v u) Q X.xe s2) :
    wpAny (model X.prog X.w) X.A (eval a X.env) (fun v s₁ => wpAny (model X.prog X.w) X.A (eval b X.env) (fun u s₂ => wpAny (model X.prog X.w) X.A (f v u) Q X.xe s₂) X.xe s₁) X.xe s:=by
  refine thn (ha pins s σ H _ I h) fun v s1 ⟨x,H1,I1,r1,q1⟩ => ?_
  refine thn (hb pins s1 σ H1 _ I1 q1) fun u s2 ⟨y,H2,I2,r2,q2⟩ => ?_
  exact hf v u s2 x y H2 I2 r1 r2 q2
theorem pe_op {op:Operator} {r:R2} (ho:OpR X (binaryOp op) r) (ha:PE X a ta) (hb:PE X b tb):PE X (.BinOp a op b pos) (tOp r ta tb):=by
  intro pins s σ H Q I h
  exact wpAny_BinOp (binT ha hb I h fun v u s2 x y H2 I2 rx ry q => ho pins s2 σ H2 x y v u Q I2 rx ry q)
theorem opI {f:Value → Value → Sem Value} {C:Int → Int → Prop} {g:Int → Int → Int}
    (rule:∀ (i j:Int) (t u:Tok) (s:Shared) (Q:Value → Shared → Prop) (E:Value → Shared → Prop),C i j → Q (.int (g i j) s.toks) { s with toks:=s.toks + 1 } → wpAny (model X.prog X.w) X.A (f (.int i t) (.int j u)) Q E s) :
    OpR X f (rI C fun i j => .int (g i j)):=by
  intro pins s σ H x y v u Q I rx ry h
  obtain ⟨i,j,rfl,rfl,hc,q⟩:=h
  obtain ⟨t,rfl⟩:=rx
  obtain ⟨t',rfl⟩:=ry
  exact rule i j t t' s _ _ hc ⟨.int (g i j),H,I.tok _,⟨_,rfl⟩,q⟩
theorem opI0 {f:Value → Value → Sem Value} {g:Int → Int → Int}
    (rule:∀ (i j:Int) (t u:Tok) (s:Shared) (Q:Value → Shared → Prop) (E:Value → Shared → Prop),Q (.int (g i j) s.toks) { s with toks:=s.toks + 1 } → wpAny (model X.prog X.w) X.A (f (.int i t) (.int j u)) Q E s) :
    OpR X f (rI0 fun i j => .int (g i j)):=by
  intro pins s σ H x y v u Q I rx ry h
  obtain ⟨i,j,rfl,rfl,q⟩:=h
  obtain ⟨t,rfl⟩:=rx
  obtain ⟨t',rfl⟩:=ry
  exact rule i j t t' s _ _ ⟨.int (g i j),H,I.tok _,⟨_,rfl⟩,q⟩
theorem opB0 {f:Value → Value → Sem Value} {g:Int → Int → Bool}
    (rule:∀ (i j:Int) (t u:Tok) (s:Shared) (Q:Value → Shared → Prop) (E:Value → Shared → Prop),Q (.bool (g i j)) s → wpAny (model X.prog X.w) X.A (f (.int i t) (.int j u)) Q E s) :
    OpR X f (rI0 fun i j => .bl (g i j)):=by
  intro pins s σ H x y v u Q I rx ry h
  obtain ⟨i,j,rfl,rfl,q⟩:=h
  obtain ⟨t,rfl⟩:=rx
  obtain ⟨t',rfl⟩:=ry
  exact rule i j t t' s _ _ ⟨.bl (g i j),H,I,rfl,q⟩
noncomputable def CDiv (i j:Int):Prop:=0 < j ∧ j < 1073741824
noncomputable def CPow (i j:Int):Prop:=0 ≤ j ∧ j ≤ 1000000 ∧ i.natAbs < 2 ^ 64
noncomputable def CMul (i j:Int):Prop:=(-(2 ^ 64) < i ∧ i < 2 ^ 64) ∨ (-(2 ^ 64) < j ∧ j < 2 ^ 64)
theorem CMul.ok {i j:Int} (h:CMul i j):IntMulOk i j:=by
  rcases h with ⟨h1,h2⟩ | ⟨h1,h2⟩
  · exact .of_left (intBits_le_64 h1 h2)
  · exact .of_right (intBits_le_64 h1 h2)
theorem op_add:OpR X (binaryOp .Add) (rI0 fun i j => .int (i + j)):=opI0 fun _ _ _ _ _ _ _ q => add_int q
theorem op_sub:OpR X (binaryOp .Sub) (rI0 fun i j => .int (i - j)):=opI0 fun _ _ _ _ _ _ _ q => sub_int q
theorem op_mul:OpR X (binaryOp .Mult) (rI CMul fun i j => .int (i * j)):=opI fun _ _ _ _ _ _ _ hc q => mul_int q hc.ok
theorem op_fdiv:OpR X (binaryOp .FloorDiv) (rI CDiv fun i j => .int (i / j)):=opI fun i j _ _ _ _ _ hc q => by
  have h1:(0:Int) < j:=hc.1
  have h2:j < 1073741824:=hc.2
  exact floordiv_int (by omega) (by rw [Int.fdiv_eq_ediv_of_nonneg i (by omega)]; exact q) (.inl (PyProof.noPylong_small (by omega)))
theorem op_mod:OpR X (binaryOp .Mod) (rI (fun _ j => 0 < j) fun i j => .int (i % j)):=opI fun i j _ _ _ _ _ hc q => by
  have h1:(0:Int) < j:=hc
  exact mod_int' (by omega) (by rw [Int.fmod_eq_emod_of_nonneg i (by omega)]; exact q)
theorem op_pow:OpR X (binaryOp .Pow) (rI CPow fun i j => .int (i ^ j.toNat)):=opI fun _ _ _ _ _ _ _ hc q => pow_int_small hc.1 hc.2.1 hc.2.2 q
end
noncomputable def scal:V → V → Bool
  | .non,.non => true | .non,.int _ => true | .int _,.non => true | .non,.bl _ => true | .bl _,.non => true | .non,.str _ => true | .str _,.non => true
  | .int _,.int _ => true | .bl _,.bl _ => true | .str _,.str _ => true | .byt _,.byt _ => true
  | .int _,.str _ => true | .str _,.int _ => true | .bl _,.str _ => true | .str _,.bl _ => true
  | _,_ => false
noncomputable def rEq:R2:=fun x y H Q => scal x y = true ∧ Q (.bl (decide (x = y))) H
noncomputable def rNe:R2:=fun x y H Q => scal x y = true ∧ Q (.bl (!decide (x = y))) H
theorem dec_int {i j:Int}:decide (V.int i = V.int j) = (i == j):=by
  rw [Bool.eq_iff_iff]
  simp
theorem dec_bl {i j:Bool}:decide (V.bl i = V.bl j) = (i == j):=by
  rw [Bool.eq_iff_iff]
  simp
theorem dec_str {i j:Str}:decide (V.str i = V.str j) = (i == j):=by
  rw [Bool.eq_iff_iff]
  simp
theorem dec_byt {i j:Array UInt8}:decide (V.byt i = V.byt j) = (i.toList == j.toList):=by
  rw [Bool.eq_iff_iff]
  cases i
  cases j
  simp
section
variable {X:Cx} {a b c:Expr} {ta tb tc:TE} {pos:Pos}
theorem fin_bl {pins:List (Addr × Obj)} {σ:St} {H:Hp} {s:Shared} {Q:VK} {k k':Bool} (I:Inv X pins σ H s) (q:Q (.bl k) H) (e:k = k'):EP X pins σ Q (.bool k') s:=by
  subst e
  exact ⟨.bl k,H,I,rfl,q⟩
theorem op_eq:OpR X (compareOp .Eq) rEq:=by
  intro pins s σ H x y v u Q I rx ry h
  obtain ⟨hs,q⟩:=h
  cases x with
  | non =>
    cases rx
    cases y with
    | non => cases ry; exact PySem.EqNone.eq_none_none (fin_bl I q (by simp))
    | bl j => cases ry; exact PySem.EqNone.eq_none_bool (fin_bl I q (by simp))
    | int j => obtain ⟨t',rfl⟩:=ry; exact PySem.EqNone.eq_none_int (fin_bl I q (by simp))
    | str j => obtain ⟨t',rfl⟩:=ry; exact PySem.EqNone.eq_none_str (fin_bl I q (by simp))
    | _ => exact absurd (show false = true from hs) Bool.false_ne_true
  | bl i =>
    cases rx
    cases y with
    | non => cases ry; exact PySem.EqNone.eq_bool_none (fin_bl I q (by simp))
    | bl j => cases ry; exact eq_bool (fin_bl I q dec_bl)
    | str j => obtain ⟨t',rfl⟩:=ry; exact PySem.EqMixed.eq_bool_str (fin_bl I q (by simp))
    | _ => exact absurd (show false = true from hs) Bool.false_ne_true
  | int i =>
    obtain ⟨t,rfl⟩:=rx
    cases y with
    | non => cases ry; exact PySem.EqNone.eq_int_none (fin_bl I q (by simp))
    | int j => obtain ⟨t',rfl⟩:=ry; exact eq_int (fin_bl I q dec_int)
    | str j => obtain ⟨t',rfl⟩:=ry; exact PySem.EqMixed.eq_int_str (fin_bl I q (by simp))
    | _ => exact absurd (show false = true from hs) Bool.false_ne_true
  | str i =>
    obtain ⟨t,rfl⟩:=rx
    cases y with
    | non => cases ry; exact PySem.EqNone.eq_str_none (fin_bl I q (by simp))
    | bl j => cases ry; exact PySem.EqMixed.eq_str_bool (fin_bl I q (by simp))
    | int j => obtain ⟨t',rfl⟩:=ry; exact PySem.EqMixed.eq_str_int (fin_bl I q (by simp))
    | str j => obtain ⟨t',rfl⟩:=ry; exact eq_str (fin_bl I q dec_str)
    | _ => exact absurd (show false = true from hs) Bool.false_ne_true
  | byt i =>
    obtain ⟨t,rfl⟩:=rx
    cases y with
    | byt j => obtain ⟨t',rfl⟩:=ry; exact PySem.W.eq_bytes (fin_bl I q dec_byt)
    | _ => exact absurd (show false = true from hs) Bool.false_ne_true
  | _ => cases y <;> exact absurd (show false = true from hs) Bool.false_ne_true
theorem op_ne:OpR X (compareOp .NotEq) rNe:=by
  intro pins s σ H x y v u Q I rx ry h
  obtain ⟨hs,q⟩:=h
  cases x with
  | non =>
    cases rx
    cases y with
    | non => cases ry; exact PySem.EqNone.ne_none_none (fin_bl I q (by simp))
    | bl j => cases ry; exact PySem.EqNone.ne_none_bool (fin_bl I q (by simp))
    | int j => obtain ⟨t',rfl⟩:=ry; exact PySem.EqNone.ne_none_int (fin_bl I q (by simp))
    | str j => obtain ⟨t',rfl⟩:=ry; exact PySem.EqNone.ne_none_str (fin_bl I q (by simp))
    | _ => exact absurd (show false = true from hs) Bool.false_ne_true
  | bl i =>
    cases rx
    cases y with
    | non => cases ry; exact PySem.EqNone.ne_bool_none (fin_bl I q (by simp))
    | bl j => cases ry; exact ne_bool (fin_bl I q (congrArg not dec_bl))
    | str j => obtain ⟨t',rfl⟩:=ry; exact PySem.EqMixed.ne_bool_str (fin_bl I q (by simp))
    | _ => exact absurd (show false = true from hs) Bool.false_ne_true
  | int i =>
    obtain ⟨t,rfl⟩:=rx
    cases y with
    | non => cases ry; exact PySem.EqNone.ne_int_none (fin_bl I q (by simp))
    | int j => obtain ⟨t',rfl⟩:=ry; exact ne_int (fin_bl I q (congrArg not dec_int))
    | str j => obtain ⟨t',rfl⟩:=ry; exact PySem.EqMixed.ne_int_str (fin_bl I q (by simp))
    | _ => exact absurd (show false = true from hs) Bool.false_ne_true
  | str i =>
    obtain ⟨t,rfl⟩:=rx
    cases y with
    | non => cases ry; exact PySem.EqNone.ne_str_none (fin_bl I q (by simp))
    | bl j => cases ry; exact PySem.EqMixed.ne_str_bool (fin_bl I q (by simp))
    | int j => obtain ⟨t',rfl⟩:=ry; exact PySem.EqMixed.ne_str_int (fin_bl I q (by simp))
    | str j => obtain ⟨t',rfl⟩:=ry; exact ne_str (fin_bl I q (congrArg not dec_str))
    | _ => exact absurd (show false = true from hs) Bool.false_ne_true
  | byt i =>
    obtain ⟨t,rfl⟩:=rx
    cases y with
    | byt j => obtain ⟨t',rfl⟩:=ry; exact PySem.W.ne_bytes (fin_bl I q (congrArg not dec_byt))
    | _ => exact absurd (show false = true from hs) Bool.false_ne_true
  | _ => cases y <;> exact absurd (show false = true from hs) Bool.false_ne_true
theorem op_lt:OpR X (compareOp .Lt) (rI0 fun i j => .bl (decide (i < j))):=opB0 fun _ _ _ _ _ _ _ q => lt_int q
theorem op_le:OpR X (compareOp .LtE) (rI0 fun i j => .bl (decide (i ≤ j))):=opB0 fun _ _ _ _ _ _ _ q => le_int q
theorem op_gt:OpR X (compareOp .Gt) (rI0 fun i j => .bl (decide (j < i))):=opB0 fun _ _ _ _ _ _ _ q => gt_int q
theorem op_in_str:OpR X (compareOp .In) (fun x y H Q => ∃ i j,x = .str i ∧ y = .str j ∧ Q (.bl (!(Builtin.Str.occurrences j i 0 j.length 1).isEmpty)) H):=by
  intro pins s σ H x y v u Q I rx ry h
  obtain ⟨i,j,rfl,rfl,q⟩:=h
  obtain ⟨t,rfl⟩:=rx
  obtain ⟨t',rfl⟩:=ry
  exact in_str (fin_bl I q rfl)
theorem op_isN:OpR X (compareOp .Is) (fun x y H Q => y = .non ∧ Q (.bl (decide (x = .non))) H):=by
  intro pins s σ H x y v u Q I rx ry h
  obtain ⟨rfl,q⟩:=h
  cases ry
  refine is_none_gen (fin_bl I q ?_)
  cases x <;> first
    | (cases rx; rfl)
    | (obtain ⟨t,rfl⟩:=rx; rfl)
theorem op_notN:OpR X (compareOp .IsNot) (fun x y H Q => y = .non ∧ Q (.bl (!decide (x = .non))) H):=by
  intro pins s σ H x y v u Q I rx ry h
  obtain ⟨rfl,q⟩:=h
  cases ry
  refine isnot_none_gen (fin_bl I q ?_)
  cases x <;> first
    | (cases rx; rfl)
    | (obtain ⟨t,rfl⟩:=rx; rfl)
theorem nomark (b:Expr) {op:CmpOp} (h:op ≠ .In:=by decide) (h2:op ≠ .NotIn:=by decide):behindInMarks op b = false:=by
  have e1:(op == CmpOp.In) = false:=by cases op <;> first | rfl | exact absurd rfl h
  have e2:(op == CmpOp.NotIn) = false:=by cases op <;> first | rfl | exact absurd rfl h2
  cases b <;> simp [behindInMarks,e1,e2]
theorem pe_cmpR {op:CmpOp} {r:R2} (ho:OpR X (compareOp op) r) (ha:PE X a ta) (hb:PE X b tb) (hm:behindInMarks op b = false):PE X (.Compare a [op] [b] pos) (tOp r ta tb):=by
  intro pins s σ H Q I h
  exact wpAny_Compare1 (binT ha hb I h fun v u s2 x y H2 I2 rx ry q => ho pins s2 σ H2 x y v u Q I2 rx ry q) hm
noncomputable def tTest (t:TE):TT:=fun σ H Q => t σ H fun x H' => ∃ k,x = .bl k ∧ Q k H'
theorem pt_cmpR {op:CmpOp} {r:R2} (ho:OpR X (compareOp op) r) (ha:PE X a ta) (hb:PE X b tb) (hm:behindInMarks op b = false):PT X (.Compare a [op] [b] pos) (tTest (tOp r ta tb)):=by
  intro pins s σ H Q I h
  refine wpAny_isTrue_Compare1 (thn (ha pins s σ H _ I h) fun v s1 ⟨x,H1,I1,r1,q1⟩ => thn (hb pins s1 σ H1 _ I1 q1) fun u s2 ⟨y,H2,I2,r2,q2⟩ =>
    thn (ho pins s2 σ H2 x y v u _ I2 r1 r2 q2) fun c s3 ⟨z,H3,I3,r3,k,e,q3⟩ => ?_) hm
  subst e
  cases r3
  exact wpAny_truthy_bool ⟨H3,I3,q3⟩
noncomputable def tChain (r r':R2) (ta tb tc:TE):TE:=fun σ H Q => ta σ H fun x H1 => tb σ H1 fun y H2 => r x y H2 fun z H3 => ∃ k,z = .bl k ∧
  (if k = true then tc σ H3 fun w' H4 => r' y w' H4 Q else Q (.bl false) H3)
theorem pe_chain {op op':CmpOp} {r r':R2} (ho:OpR X (compareOp op) r) (ho':OpR X (compareOp op') r') (ha:PE X a ta) (hb:PE X b tb) (hc:PE X c tc)
    (hm:lastMarks [op,op'] [b,c] = false:=by with_unfolding_all rfl):PE X (.Compare a [op,op'] [b,c] pos) (tChain r r' ta tb tc):=by
  intro pins s σ H Q I h
  refine Compare_chain (thn (ha pins s σ H _ I h) fun v s1 ⟨x,H1,I1,r1,q1⟩ => chain_link (thn (hb pins s1 σ H1 _ I1 q1) fun u s2 ⟨y,H2,I2,r2,q2⟩ =>
    thn (ho pins s2 σ H2 x y v u _ I2 r1 r2 q2) fun d s3 ⟨z,H3,I3,r3,k,e,q3⟩ => ?_)) hm
  subst e
  cases r3
  refine wpAny_truthy_bool ?_
  cases k with
  | false => exact ite_ff ⟨.bl false,H3,I3,rfl,q3⟩
  | true => exact ite_tt (chain_last (thn (hc pins s3 σ H3 _ I3 q3) fun w' s4 ⟨z',H4,I4,r4,q4⟩ => ho' pins s4 σ H4 y z' u w' Q I4 r2 r4 q4))
theorem pt_chain {op op':CmpOp} {r r':R2} (ho:OpR X (compareOp op) r) (ho':OpR X (compareOp op') r') (ha:PE X a ta) (hb:PE X b tb) (hc:PE X c tc)
    (hm:lastMarks [op,op'] [b,c] = false:=by with_unfolding_all rfl):PT X (.Compare a [op,op'] [b,c] pos) (tTest (tChain r r' ta tb tc)):=by
  intro pins s σ H Q I h
  refine isTrue_chain (thn (ha pins s σ H _ I h) fun v s1 ⟨x,H1,I1,r1,q1⟩ => test_link (thn (hb pins s1 σ H1 _ I1 q1) fun u s2 ⟨y,H2,I2,r2,q2⟩ =>
    thn (ho pins s2 σ H2 x y v u _ I2 r1 r2 q2) fun d s3 ⟨z,H3,I3,r3,k,e,q3⟩ => ?_)) hm
  subst e
  cases r3
  refine wpAny_truthy_bool ?_
  cases k with
  | false =>
    obtain ⟨k',e',q'⟩:=q3
    cases e'
    exact ite_ff ⟨H3,I3,q'⟩
  | true =>
    refine ite_tt (test_last (thn (hc pins s3 σ H3 _ I3 q3) fun w' s4 ⟨z',H4,I4,r4,q4⟩ => thn (ho' pins s4 σ H4 y z' u w' _ I4 r2 r4 q4) fun d' s5 ⟨z2,H5,I5,r5,k2,e2,q5⟩ => ?_))
    subst e2
    cases r5
    exact wpAny_truthy_bool ⟨H5,I5,q5⟩
theorem line63:(sizeLine:Nat) < 2 ^ 63:=by rw [sizeLine_eq]; decide
theorem op_add_str:OpR X (binaryOp .Add) (fun x y H Q => ∃ i j,x = .str i ∧ y = .str j ∧ i.length + j.length ≤ sizeLine ∧ Q (.str (i ++ j)) H):=by
  intro pins s σ H x y v u Q I rx ry h
  obtain ⟨i,j,rfl,rfl,hz,q⟩:=h
  obtain ⟨t,rfl⟩:=rx
  obtain ⟨t',rfl⟩:=ry
  exact add_str (fun t' tk => ⟨.str (i ++ j),H,I.tok _,⟨_,rfl⟩,q⟩) hz
theorem vals1 {x:V} {us:List Value} (r:Vals [x] us):∃ u,us = [u] ∧ RelV x u:=by
  cases r with
  | cons r1 r2 => cases r2; exact ⟨_,rfl,r1⟩
theorem call_int1:CallR X (.type "int") (fun xs H Q => (∃ i,xs = [.int i] ∧ Q (.int i) H) ∨ ∃ k,xs = [.bl k] ∧ Q (.int (if k then 1 else 0)) H):=by
  intro pins s σ H xs us Q I r h
  rcases h with ⟨i,rfl,q⟩ | ⟨k,rfl,q⟩
  · obtain ⟨u,rfl,t,rfl⟩:=vals1 r
    exact call_int_int ⟨.int i,H,I,⟨_,rfl⟩,q⟩
  · obtain ⟨u,rfl,r1⟩:=vals1 r
    cases r1
    exact call_int_bool ⟨.int (if k then 1 else 0),H,I.tok _,⟨_,rfl⟩,q⟩
theorem call_str_int:CallR X (.type "str") (fun xs H Q => ∃ i,xs = [.int i] ∧ i.natAbs.log2 < 1920 ∧ Q (.str (toString i)) H):=by
  intro pins s σ H xs us Q I r h
  obtain ⟨i,rfl,hz,q⟩:=h
  obtain ⟨u,rfl,t,rfl⟩:=vals1 r
  exact PySem.P.str_of_int hz ⟨.str _,H,I.tok _,⟨_,rfl⟩,q⟩
end
end L2
namespace L2
open PySem PySem.Spec PyProof.Rows
structure ObjM (h:Heap) (x dx C:Addr) (mA:Str → Option Value):Prop where
  obj:h.get? x = some (PySem.W.instObj C dx)
  ns:h.Ns1 dx mA
  ne:dx ≠ x
theorem lookIn_ns {h:Heap} {dx:Addr} {mA:Str → Option Value} (n:h.Ns1 dx mA):∃ od,h.get? dx = some od ∧ ∀ name,PySem.W.lookIn name od = some (mA name):=by
  obtain ⟨o,es,ep,ho,hd,hk,_,hm⟩:=n
  refine ⟨o,ho,fun name => ?_⟩
  have e:=hm name
  unfold nsFind findBy at e
  rw [← Array.find?_toList] at e
  unfold PySem.W.lookIn
  rw [hd]
  dsimp only
  split
  · rename_i y q
    rw [q] at e
    exact congrArg some e
  · rename_i q
    rw [q] at e
    have a:es.toList.any (·.refKey) = false:=by
      rw [List.any_eq_false]
      intro y hy
      obtain ⟨z,t,hkey⟩:=hk y (Array.mem_toList_iff.mp hy)
      simp [DictEntry.refKey,hkey]
    have a':¬ es.toList.any (·.refKey) = true:=by rw [a]; exact Bool.false_ne_true
    rw [if_neg a']
    exact congrArg some e
theorem ObjM.look {h:Heap} {x dx C:Addr} {mA:Str → Option Value} (I:ObjM h x dx C mA):∃ od,PySem.W.InstAt h x (PySem.W.instObj C dx) C (some od) ∧ ∀ name,PySem.W.lookIn name od = some (mA name) :=
  let ⟨od,ho,hl⟩:=lookIn_ns I.ns
  ⟨od,⟨I.obj,rfl,rfl,ho⟩,hl⟩
section
variable {prog:Program} {w:World} {A:Around} {E:Value → Shared → Prop} {s:Shared} {K:PySem.W.Frag} {x dx C f:Addr} {mA:Str → Option Value} {name:Str} {v:Value}
end
theorem RelO.some_of {v:V} {o:Option Value} (r:RelO (some v) o):∃ u,o = some u ∧ RelV v u:=by
  cases o with
  | none => exact (show False from r).elim
  | some u => exact ⟨u,rfl,r⟩
section
variable {P:Program} {w:World} {H H':Hp} {h h':Heap} {a C dx:Addr} {fs fs':List (Str × V)}
theorem ins_get (hok:HOk P w H h) (e:H a = some (.ins C dx fs)):∃ mA,ObjM h a dx C mA ∧ (∀ f,RelO (fs.lookup f) (mA f)) ∧ PySem.Within mA (fs.map (·.1)) ∧ fs.length ≤ 1000 ∧ H dx = some (.own a):=by
  obtain ⟨d,z,ne,ob,mA,n,r,q⟩:=(show ObjOk P w H h a (.ins C dx fs) from hok a _ e)
  exact ⟨mA,⟨ob,n,ne⟩,r,q,z,d⟩
end
structure Cls (K:PySem.W.Frag) (C:Addr):Prop where
  pg:PySem.W.plainGet K C Str.empty = true
  hd:PySem.W.hasDictIn K C = true
  po:PySem.W.plainOver K C = true
  sa:PySem.W.findIn K (.ref C) "__setattr__" = some (some (.builtin "object.__setattr__"))
theorem Cls.get {K:PySem.W.Frag} {C:Addr} (c:Cls K C) (f:Str):PySem.W.plainGet K C f = true:=c.pg
structure Con (K:PySem.W.Frag) (C:Addr) (f:Str) (v:V) (u:Value):Prop where
  at_:PySem.W.findIn K (.ref C) f = some (some u)
  rel:RelV v u
  get:PySem.W.specialIn K u "__get__" = some none
  cp:PySem.W.copiedNames.contains f = false
structure Meth (K:PySem.W.Frag) (C:Addr) (m:Str) (f:Addr):Prop where
  at_:PySem.W.findIn K (.ref C) m = some (some (.ref f))
  fn:PySem.W.isFn K (.ref f) = true
  kp:PySem.W.keepIn K (.ref f) = true
section
variable {X:Cx} {pins:List (Addr × Obj)} {σ:St} {H:Hp} {s:Shared} {a C dx:Addr} {fs:List (Str × V)} {f:Str} {v:V} {A:Around} {E:Value → Shared → Prop}
end
section
variable {X:Cx} {o e value:Expr} {f:Str} {pos pos' tpos:Pos} {ta tv:TE}
end
section
variable {X:Cx} {pins:List (Addr × Obj)} {σ:St} {H:Hp} {s:Shared} {A:Around} {E:Value → Shared → Prop} {Q:Value → Shared → Prop} {c:Value} {b:Bool}
inductive TyOf (K:PySem.W.Frag) (H:Hp):V → Value → Prop where
  | non:TyOf K H .non (.type "NoneType")
  | bl (x:Bool):TyOf K H (.bl x) (.type "bool")
  | int (i:Int):TyOf K H (.int i) (.type "int")
  | str (x:Str):TyOf K H (.str x) (.type "str")
  | flt (x:UInt64):TyOf K H (.flt x) (.type "float")
  | lst {a:Addr} {xs:List V} (e:H a = some (.lst xs)):TyOf K H (.ref a) (.type "list")
  | frz {a:Addr} {o:Obj} {xs:List V} (e:H a = some (.frz o (.lst xs))):TyOf K H (.ref a) (.type "list")
  | tup {a:Addr} {xs:List V} (e:H a = some (.tup xs)):TyOf K H (.ref a) (.type "tuple")
  | dK {a:Addr} {kvs:List (Key × V)} (e:H a = some (.dK kvs)):TyOf K H (.ref a) (.type "dict")
  | dT {a:Addr} {kvs:List (List Key × V)} (e:H a = some (.dT kvs)):TyOf K H (.ref a) (.type "dict")
  | ins {a C dx:Addr} {fs:List (Str × V)} (e:H a = some (.ins C dx fs)) (cl:Cls K C) (ha:PySem.W.findIn K (.ref C) "__class__" = some (some (.builtin "object.__class__")))
      (hn:PySem.W.specialIn K (.builtin "object.__class__") "__get__" = some (some (.builtin "getset_descriptor.__get__"))) (htk:PySem.W.takesIn K (.builtin "object.__class__") = some true)
      (hm:PySem.W.mroIn K C (.type "object") = some true):TyOf K H (.ref a) (.ref C)
theorem isinst_ok {x:V} {u t:Value} (I:Inv X pins σ H s) (rx:RelV x u) (ty:TyOf X.K H x t) (e:PySem.W.kitOne X.K t c = some b) (h:∀ tk,Q (.bool b) { s with toks:=tk }) :
    wpAny (model X.prog X.w) A (call (.builtin "isinstance") [u,c]) Q E s:=by
  cases ty with
  | non => cases (show u = Value.none from rx); exact PySem.W.kia_one PySem.W.kitx_none I.kIn True.intro e (fun z => nomatch z) h
  | bl y => cases (show u = Value.bool y from rx); exact PySem.W.kia_one PySem.W.kitx_bool I.kIn True.intro e (fun z => nomatch z) h
  | int i => obtain ⟨t,q⟩:=(show ∃ t,u = Value.int i t from rx); cases q; exact PySem.W.kia_one PySem.W.kitx_int I.kIn True.intro e (fun z => nomatch z) h
  | str y => obtain ⟨t,q⟩:=(show ∃ t,u = Value.str y t from rx); cases q; exact PySem.W.kia_one PySem.W.kitx_str I.kIn True.intro e (fun z => nomatch z) h
  | flt y => obtain ⟨t,q⟩:=(show ∃ t,u = Value.float y t from rx); cases q; exact PySem.W.kia_one PySem.W.kitx_float I.kIn True.intro e (fun z => nomatch z) h
  | @lst a xs ea =>
    cases (show u = Value.ref a from rx)
    obtain ⟨_,_,n,_,h1⟩:=(show ObjOk X.prog X.w H s.heap a (.lst xs) from I.hok a _ ea)
    exact PySem.W.kia_one PySem.W.kitx_list I.kIn ⟨_,h1,rfl⟩ e (fun z => nomatch z) h
  | @frz a ob xs ea =>
    cases (show u = Value.ref a from rx)
    obtain ⟨_,_,_,n,_,h1⟩:=(show ObjOk X.prog X.w H s.heap a (.frz ob (.lst xs)) from I.hok a _ ea)
    exact PySem.W.kia_one PySem.W.kitx_list I.kIn ⟨_,h1,rfl⟩ e (fun z => nomatch z) h
  | @tup a xs ea =>
    cases (show u = Value.ref a from rx)
    obtain ⟨_,_,_,p⟩:=(show ObjOk X.prog X.w H s.heap a (.tup xs) from I.hok a _ ea)
    obtain ⟨o,h1,h2,_⟩:=p
    exact PySem.W.kia_one PySem.W.kitx_tuple I.kIn ⟨o,h1,h2⟩ e (fun z => nomatch z) h
  | @dK a kvs ea =>
    cases (show u = Value.ref a from rx)
    obtain ⟨_,_,vs,_,p⟩:=(show ObjOk X.prog X.w H s.heap a (.dK kvs) from I.hok a _ ea)
    obtain ⟨o,es,ep,h1,h2,_⟩:=p
    exact PySem.W.kia_one PySem.W.kitx_dict I.kIn ⟨o,h1,h2.1⟩ e (fun z => nomatch z) h
  | @dT a kvs ea =>
    cases (show u = Value.ref a from rx)
    obtain ⟨_,_,xs,_,o,es,ep,h1,h2,_⟩:=(show ObjOk X.prog X.w H s.heap a (.dT kvs) from I.hok a _ ea)
    exact PySem.W.kia_one PySem.W.kitx_dict I.kIn ⟨o,h1,h2.1⟩ e (fun z => nomatch z) h
  | @ins a C dx fs ea cl ha hn htk hm =>
    cases (show u = Value.ref a from rx)
    obtain ⟨mA,O,_⟩:=ins_get I.hok ea
    obtain ⟨od,J,_⟩:=O.look
    exact PySem.W.kia_one (PySem.W.kitx_own (cl.get _) cl.hd ha hn htk hm) I.kIn J e (fun z => nomatch z) h
end
end L2
namespace L2
open PySem PySem.Spec PyProof.Rows
structure Room (k:Nat) (A:Around):Prop where
  hd:A.handled = none
  dp:A.depth + 3 * k + 5 < recursionLimit
  un:A.units + 16 * k + 200 < cLine
  gd:A.guards = some []
theorem Room.mono {j k:Nat} {A:Around} (r:Room k A) (h:j ≤ k):Room j A:=⟨r.hd,by have:=r.dp; omega,by have:=r.un; omega,r.gd⟩
theorem Room.deeper {k:Nat} {A:Around} (r:Room (k + 1) A) (env:Env):Room k (A.deeper env) :=
  ⟨r.hd,by have:=r.dp; show A.depth + 1 + 3 * k + 5 < _; omega,by have:=r.un; show A.units + 3 + 16 * k + 200 < _; omega,r.gd⟩
theorem Room.depth {k:Nat} {A:Around} (r:Room k A):A.depth < recursionLimit:=by have:=r.dp; omega
theorem Room.units {k:Nat} {A:Around} (r:Room k A):A.units + 64 < cLine:=by have:=r.un; omega
noncomputable def tNil:TA:=fun _ H Q => Q [] H
noncomputable def tCons (ta:TE) (tr:TA):TA:=fun σ H Q => ta σ H fun x H1 => tr σ H1 fun xs H2 => Q (x :: xs) H2
section
variable {X:Cx} {e:Expr} {es:List Expr} {te:TE} {t:TA} {pos:Pos}
theorem pa_nil:PA X [] tNil:=fun _ _ _ _ H Q I h => Calls.spliced_nil ⟨[],H,I,.nil,h⟩
theorem pa_cons (ha:PE X e te) (hr:PA X es t) (hs:starEach (e :: es) X.env = (false,eval e X.env) :: starEach es X.env:=by rfl):PA X (e :: es) (tCons te t):=by
  intro pos pins s σ H Q I h
  rw [hs]
  show wpAny _ _ (spliced ((false,eval e X.env) :: backTo pos (starEach es X.env))) _ _ s
  refine Calls.spliced_cons (thn (ha pins s σ H _ I h) fun u s1 ⟨x,H1,I1,r1,q1⟩ => ?_)
  exact thn (hr pos pins s1 σ H1 _ I1 q1) fun us s2 ⟨xs,H2,I2,r2,q2⟩ => ⟨x :: xs,H2,I2,.cons r1 r2,q2⟩
noncomputable def tTup (t:TA):TE:=fun σ H Q => t σ H fun xs H1 => xs.length ≤ sizeLine ∧ ∀ p,H1 p = none → Q (.ref p) (upd H1 p (.tup xs))
noncomputable def tLst (t:TA):TE:=fun σ H Q => t σ H fun xs H1 => xs.length ≤ sizeLine ∧ ∀ p,H1 p = none → Q (.ref p) (upd H1 p (.lst xs))
theorem pe_tup {x1} (h:PA X es t):PE X (.Tuple es x1 pos) (tTup t):=by
  intro pins s σ H Q I hq
  refine wpAny_Tuple_spliced (thn (h pos pins s σ H _ I hq) fun us s1 ⟨xs,H1,I1,r,z,q⟩ => ⟨by rw [← r.length]; exact z,?_⟩)
  have hf:H1 s1.heap.objs.size = none:=I1.hok.fresh (Nat.le_refl _)
  refine ⟨.ref s1.heap.objs.size,upd H1 s1.heap.objs.size (.tup xs),I1.laid (t':=s1.toks) (fun b u e => Heap.get?_push_of_some _ e) (Nat.le_refl _) ?_,rfl,q _ hf⟩
  exact ⟨z,us,r,⟨_,Heap.get?_push_size _ rfl,rfl,_,rfl⟩⟩
theorem pe_lst (h:PA X es t):PE X (.List es pos) (tLst t):=by
  intro pins s σ H Q I hq
  refine wpAny_List_spliced (thn (h pos pins s σ H _ I hq) fun us s1 ⟨xs,H1,I1,r,z,q⟩ => ⟨by rw [← r.length]; exact z,?_⟩)
  have hf:H1 s1.heap.objs.size = none:=I1.hok.fresh (Nat.le_refl _)
  refine ⟨.ref s1.heap.objs.size,upd H1 s1.heap.objs.size (.lst xs),I1.laid (t':=s1.toks) (fun b u e => Heap.get?_push_of_some _ e) (Nat.le_refl _) ?_,rfl,q _ hf⟩
  exact ⟨z,us,0,r,Heap.get?_push_size _ rfl⟩
end
noncomputable abbrev Sp:=List V → Hp → VK → XK → Prop
noncomputable abbrev CXT:=List Env → Hp → Shared → XK → Value → Shared → Prop
structure Env0 (P:Program) (w:World) (K:PySem.W.Frag) (mg:Str → Option Value) (base:Heap) (A:Around) (outer:List Env) (s:Shared) (H:Hp):Prop where
  frames:A.frames = some outer
  mod:Mod K mg base
  bs:∀ b o,base.get? b = some o → s.heap.get? b = some o ∧ H b = none
  bsz:base.objs.size ≤ s.heap.objs.size
  funs:s.heap.FunFrames base outer
  frf:∀ b ∈ frs outer,H b = none
  hok:HOk P w H s.heap
  bare:AllBare s.gens
noncomputable def CE (outer:List Env) (P:Program) (w:World) (H:Hp) (s:Shared) (Q:VK) (u:Value) (s':Shared):Prop :=
  ∃ v H',s'.os = s.os ∧ AllBare s'.gens ∧ Un (frs outer) [] H H' s.heap s'.heap ∧ HOk P w H' s'.heap ∧ RelV v u ∧ Q v H'
noncomputable def CR (CX:CXT) (outer:List Env) (P:Program) (w:World) (H:Hp) (s:Shared) (Q:VK) (E:XK) (r:Result) (s':Shared):Prop :=
  match r with
  | .ok (.ret u) => CE outer P w H s Q u s'
  | .ok _ => False
  | .error e => CX outer H s E e s'
structure FnOk (P:Program) (w:World) (K:PySem.W.Frag) (mg:Str → Option Value) (base:Heap) (CX:CXT) (k:Nat) (f:Addr) (fd:FuncData) (ps:List Str) (sp:Sp):Prop where
  len:∀ vs H Q E,sp vs H Q E → vs.length = ps.length
  run:∀ (A:Around) (outer:List Env) (s:Shared) (H:Hp) (args:Args) (us:List Value) (vs:List V) (Q:VK) (E:XK),Room k A → Env0 P w K mg base A outer s H → BindsTo s fd args (ps.zip us) → Vals vs us → sp vs H Q E →
    codeAny (model P w) A (.call (.ref f) args) (CR CX outer P w H s Q E) s
section
variable {X:Cx} {pins:List (Addr × Obj)} {σ:St} {H:Hp} {s s':Shared}
theorem Inv.env0 (I:Inv X pins σ H s):Env0 X.prog X.w X.K X.mg X.base X.A X.stack s H :=
  ⟨I.ok.frames,I.ok.mod,I.bs,Nat.le_trans I.ok.bsz I.sz,I.stack,I.stkFree,I.hok,I.bare⟩
theorem Inv.after {Q:VK} {u:Value} (I:Inv X pins σ H s) (h:CE X.stack X.prog X.w H s Q u s'):EP X pins σ Q u s':=by
  obtain ⟨v,H',os,bare,un,hok,r,q⟩:=h
  obtain ⟨hh,g,d,t,os'⟩:=s'
  obtain rfl:os' = s.os:=os
  exact ⟨v,H',I.call (h':=hh) (g':=g) (d':=d) (t':=t) (ch:=[]) un hok bare (fun b z => absurd z (by simp)),r,q⟩
end
noncomputable def tCall (sp:Sp) (dvs:List V) (E:XK) (t:TA):TE:=fun σ H Q => t σ H fun vs H1 => sp (vs ++ dvs) H1 Q E
noncomputable def Binds (K:PySem.W.Frag) (fd:FuncData) (ps:List Str) (ds:List Value):Prop :=
  ∀ (s:Shared) (us:List Value),K.In s.heap → (us ++ ds).length = ps.length → BindsTo s fd ⟨us,[]⟩ (ps.zip (us ++ ds))
theorem Binds.all {K:PySem.W.Frag} {fd:FuncData} {ps:List Str} (h:∀ us:List Value,us.length = ps.length → bindArgs fd ⟨us,[]⟩ = pure (ps.zip us)):Binds K fd ps []:=fun s us _ hl => by
  rw [List.append_nil] at hl ⊢
  exact .of_eq (h us hl)
noncomputable def Passes (CX:CXT) (X:Cx) (E:XK):Prop:=∀ (pins:List (Addr × Obj)) (σ:St) (H:Hp) (s:Shared) (e:Value) (s':Shared),Inv X pins σ H s → CX X.stack H s E e s' → X.xe e s'
section
variable {X:Cx} {CX:CXT} {k:Nat} {f C:Addr} {fd:FuncData} {ps:List Str} {sp:Sp} {dvs:List V} {ds:List Value} {E:XK} {x m:Str} {p pos apos:Pos} {e o:Expr} {es:List Expr} {ta:TE} {t:TA}
theorem run_fn {pins:List (Addr × Obj)} {σ:St} {H:Hp} {s:Shared} {Q:VK} {us:List Value} {vs:List V} (F:FnOk X.prog X.w X.K X.mg X.base CX k f fd ps sp) (hr:Room k X.A) (hb:Binds X.K fd ps ds) (hd:Vals dvs ds) (hx:Passes CX X E)
    (I:Inv X pins σ H s) (r:Vals vs us) (h:sp (vs ++ dvs) H Q E):wpAny (model X.prog X.w) X.A (call (.ref f) us) (EP X pins σ Q) X.xe s:=by
  have r2:Vals (vs ++ dvs) (us ++ ds):=r.append hd
  have hl:(us ++ ds).length = ps.length:=by rw [← r2.length]; exact F.len _ _ _ _ h
  refine wpAny_call (codeAny_mono (F.run X.A X.stack s H ⟨us,[]⟩ (us ++ ds) (vs ++ dvs) Q E hr I.env0 (hb s us I.kIn hl) r2 h) fun r s' hq => ?_)
  cases r with
  | error e => exact hx pins σ H s e s' I hq
  | ok fl =>
    cases fl with
    | ret u => exact I.after hq
    | next => exact False.elim hq
    | brk => exact False.elim hq
    | cont => exact False.elim hq
theorem pe_call (F:FnOk X.prog X.w X.K X.mg X.base CX k f fd ps sp) (hr:Room k X.A) (hg:Gl X x) (hm:X.mg x = some (.ref f)) (hk:PySem.W.keepIn X.K (.ref f) = true) (hb:Binds X.K fd ps ds) (hd:Vals dvs ds) (hx:Passes CX X E)
    (ha:PA X (e :: es) t) (hdb:(x == ("__debug__":Str)) = false:=by decide) (he:starEach (e :: es) X.env = (false,eval e X.env) :: starEach es X.env:=by rfl) (hpl:(backTo pos (starEach es X.env)).any (·.1) = false:=by rfl) :
    PE X (.Call (.Name x p) (e :: es) [] pos) (tCall sp dvs E t):=by
  intro pins s σ H Q I h
  refine wpAny_Call_Name_kw (ld_glob I hg hm ?_ hdb)
  refine PySem.W.callWith_K (h₀:=X.base) I.ok.mod.kin hk (thn (ha pos pins s σ H _ I h) fun us s1 ⟨vs,H1,I1,r,q⟩ => ⟨I1.kIn,?_⟩) he hpl
  exact run_fn F hr hb hd hx I1 r q
structure Mk (K:PySem.W.Frag) (C f:Addr):Prop where
  makes:PySem.W.makesIn K C = true
  init:PySem.W.findIn K (.ref C) "__init__" = some (some (.ref f))
  fn:PySem.W.isFn K (.ref f) = true
  kp:PySem.W.keepIn K (.ref C) = true
end
section
variable {X:Cx} {CX:CXT} {k:Nat} {f C:Addr} {fd:FuncData} {ps ks:List Str} {sp:Sp} {E:XK} {x m:Str} {p pos apos kpos:Pos} {e o:Expr} {es:List Expr} {kws:List Keyword} {te ta:TE} {t tk:TA} {nm:Option Str}
structure KBinds (K:PySem.W.Frag) (fd:FuncData) (ps ks:List Str) (g:List Value → List Value → List Value) (gV:List V → List V → List V):Prop where
  to:∀ (s:Shared) (us ws:List Value),K.In s.heap → (g us ws).length = ps.length → BindsTo s fd ⟨us,ks.zip ws⟩ (ps.zip (g us ws))
  rel:∀ {vs:List V} {us:List Value} {zs:List V} {ws:List Value},Vals vs us → Vals zs ws → Vals (gV vs zs) (g us ws)
variable {g:List Value → List Value → List Value} {gV:List V → List V → List V}
end
structure FnScope (N P:List Str) (sc:Scope):Prop where
  kind:sc.kind = .function
  co:sc.isCoroutine = false
  gen:sc.isGenerator = false
  nd:N.Nodup
  pre:N.take P.length = P
  par:∀ x ∈ P,sc.names.lookup x = some .local ∨ sc.names.lookup x = some .cell
  nofree:∀ y ∈ sc.names,y.2 ≠ .free
theorem bindL_out {kindOf:Str → Option NameKind} {x:Str}:∀ {binds:List (Str × Value)} {m:Str → Option Value},(∀ v,(x,v) ∉ binds) → bindL kindOf binds m x = m x
  | [],_,_ => rfl
  | (n,v) :: r,m,h => by
    unfold bindL
    rw [bindL_out fun w hw => h w (List.mem_cons_of_mem _ hw)]
    split
    · have:x ≠ n:=by rintro rfl; exact h v List.mem_cons_self
      simp [this]
    · rfl
theorem bindC_out {kindOf:Str → Option NameKind} {x:Str}:∀ {binds:List (Str × Value)} {m:Str → Option Value},(∀ v,(x,v) ∉ binds) → bindC kindOf binds m x = m x
  | [],_,_ => rfl
  | (n,v) :: r,m,h => by
    unfold bindC
    rw [bindC_out fun w hw => h w (List.mem_cons_of_mem _ hw)]
    split
    · rfl
    · have:x ≠ n:=by rintro rfl; exact h v List.mem_cons_self
      simp [this]
theorem bindL_get {kindOf:Str → Option NameKind} {x:Str} {v:Value}:∀ {P:List Str} {vs:List Value} {i:Nat} {m:Str → Option Value},P.Nodup → P[i]? = some x → vs[i]? = some v → kindOf x = some .local →
    bindL kindOf (P.zip vs) m x = some v
  | [],_,_,_,_,h,_,_ => by simp at h
  | _ :: _,[],_,_,_,_,h,_ => by simp at h
  | p :: P,w :: vs,0,m,nd,h1,h2,hk => by
    simp at h1 h2; subst h1; subst h2
    show bindL kindOf ((p,w) :: P.zip vs) m p = _
    unfold bindL
    rw [bindL_out fun v hv => (List.nodup_cons.mp nd).1 (List.of_mem_zip hv).1,if_pos hk]
    simp
  | p :: P,w :: vs,i + 1,m,nd,h1,h2,hk => by
    show bindL kindOf ((p,w) :: P.zip vs) m x = _
    unfold bindL
    exact bindL_get (i:=i) (List.nodup_cons.mp nd).2 (by simpa using h1) (by simpa using h2) hk
theorem bindC_get {kindOf:Str → Option NameKind} {x:Str} {v:Value}:∀ {P:List Str} {vs:List Value} {i:Nat} {m:Str → Option Value},P.Nodup → P[i]? = some x → vs[i]? = some v → kindOf x ≠ some .local →
    bindC kindOf (P.zip vs) m x = some v
  | [],_,_,_,_,h,_,_ => by simp at h
  | _ :: _,[],_,_,_,_,h,_ => by simp at h
  | p :: P,w :: vs,0,m,nd,h1,h2,hk => by
    simp at h1 h2; subst h1; subst h2
    show bindC kindOf ((p,w) :: P.zip vs) m p = _
    unfold bindC
    rw [bindC_out fun v hv => (List.nodup_cons.mp nd).1 (List.of_mem_zip hv).1,if_neg hk]
    simp
  | p :: P,w :: vs,i + 1,m,nd,h1,h2,hk => by
    show bindC kindOf ((p,w) :: P.zip vs) m x = _
    unfold bindC
    exact bindC_get (i:=i) (List.nodup_cons.mp nd).2 (by simpa using h1) (by simpa using h2) hk
noncomputable def start (N:List Str) (vs:List V):St:=vs.map some ++ List.replicate (N.length - vs.length) none
noncomputable def cxOf (CX:CXT) (P:Program) (w:World) (K:PySem.W.Frag) (mg:Str → Option Value) (base:Heap) (N:List Str) (qual:Str) (scope:Scope) (f:Addr) (cd:Value) (A:Around) (outer:List Env) (s:Shared) (H:Hp) (E:XK):Cx where
  prog:=P
  w:=w
  K:=K
  mg:=mg
  base:=base
  A:=A.deeper (envOfC qual scope s.heap.objs.size f cd)
  N:=N
  s₀:=s
  H₀:=H
  env:=envOfC qual scope s.heap.objs.size f cd
  outer:=outer
  stack:=envOfC qual scope s.heap.objs.size f cd :: outer
  ex:=[]
  calm:=true
  fn:=fun _ => true
  pn:=[]
  xe:=fun e s' => wpAny (model P w) (A.deeper (envOfC qual scope s.heap.objs.size f cd)) (leaving (envOfC qual scope s.heap.objs.size f cd) e) (fun _ s'' => CX outer H s E e s'') (fun e' s'' => CX outer H s E e' s'') s'
theorem cell_has {sc:Scope} {n:Nat} {x:Str} (h:sc.names.lookup x = some .cell):∃ c,(cellsFrom n sc.names []).lookup x = some c:=by
  have q:=PySem.W.cellsFrom_some sc.names n [] (.inl h)
  exact Option.isSome_iff_exists.mp q
theorem inv_start {CX:CXT} {P:Program} {w:World} {K:PySem.W.Frag} {mg:Str → Option Value} {base:Heap} {N ps:List Str} {qual:Str} {scope:Scope} {f:Addr} {cd:Value} {A:Around} {outer:List Env} {s s1:Shared} {H:Hp} {E:XK} {us:List Value} {vs:List V}
    (S:FnScope N ps scope) (hd:A.handled = none) (e0:Env0 P w K mg base A outer s H) (hl:vs.length = ps.length) (r:Vals vs us)
    (x:InCallC s s.heap.objs.size (bindL (envOfC qual scope s.heap.objs.size f cd).kindOf (ps.zip us) fun _ => none) (cellsFrom (s.heap.objs.size + 1) scope.names []) (bindC (envOfC qual scope s.heap.objs.size f cd).kindOf (ps.zip us) fun _ => none) s1) :
    Inv (cxOf CX P w K mg base N qual scope f cd A outer s H E) [] (start N vs) H s1:=by
  have hpl:ps.length ≤ N.length:=by have:=congrArg List.length S.pre; rw [List.length_take] at this; omega
  obtain ⟨h1,tk,rfl,hk⟩:=x.done
  have noA:∀ b:Addr,b ∉ (cxOf CX P w K mg base N qual scope f cd A outer s H E).ex:=fun b z => absurd (show b ∈ ([]:List Addr) from z) (by simp)
  refine ⟨⟨e0.mod,S.kind,rfl,rfl,Nat.le_refl _,fun y z c h1 h2 => ?_,fun y hy => ?_,fun y c _ h => ?_,fun _ => hd,Around.frames_deeper e0.frames,.inr ⟨rfl,rfl⟩,fun b z => absurd z (noA b),e0.bs,e0.bsz,fun b _ _ => noA b,fun b z => absurd z (noA b),e0.funs,e0.frf⟩,
    rfl,e0.bare,Un.kept hk,⟨_,x.toInCall.ns,fun i y v h1 h2 h3 => ?_⟩,fun y c h => ⟨_,x.cell y c h⟩,e0.hok.fresh (Nat.le_refl _),fun y c h => ?_,fun p hp => absurd (show p ∈ ([]:List (Addr × Obj)) from hp) (by simp),e0.hok.kept hk,?_⟩
  · exact name_of_addr x.apart (PySem.mem_of_lookup h1) (PySem.mem_of_lookup h2)
  · have hy:scope.names.lookup y = some .cell ∨ scope.names.lookup y = some .free:=hy
    rcases hy with hy | hy
    · exact cell_has hy
    · exact absurd rfl (S.nofree _ (PySem.mem_of_lookup hy))
  · exact Nat.le_of_lt (x.above y c (PySem.mem_of_lookup h))
  · have hi:i < vs.length:=by
      unfold start at h2
      by_cases hi:i < vs.length
      · exact hi
      · rw [List.getElem?_append_right (by simpa using hi)] at h2
        rw [List.getElem?_replicate] at h2
        split at h2 <;> cases h2
    have ha:vs[i]? = some v:=by
      unfold start at h2
      rw [List.getElem?_append_left (by simpa using hi),List.getElem?_map] at h2
      cases e:vs[i]? with
      | none => rw [e] at h2; cases h2
      | some a => rw [e] at h2; cases h2; rfl
    obtain ⟨u,hu,rv⟩:=r.get ha
    have hp:ps[i]? = some y:=by
      rw [← S.pre,List.getElem?_take_of_lt (by omega)]; exact h1
    have ndP:ps.Nodup:=by rw [← S.pre]; exact S.nd.sublist (List.take_sublist _ _)
    refine ⟨u,rv,?_⟩
    rcases S.par y (List.mem_of_getElem? hp) with k | k
    · exact .inl ⟨k,bindL_get ndP hp hu k⟩
    · obtain ⟨c,e⟩:=cell_has (n:=s.heap.objs.size + 1) k
      refine .inr ⟨.inl k,c,e,?_⟩
      have q:=x.cell y c e
      rw [bindC_get ndP hp hu (by show scope.names.lookup y ≠ _; rw [k]; decide)] at q
      exact q
  · exact e0.hok.fresh (Nat.le_of_lt (x.above y c (PySem.mem_of_lookup h)))
  · unfold start
    show _ = N.length
    rw [List.length_append,List.length_map,List.length_replicate]
    omega
theorem fn_of {CX:CXT} {P:Program} {w:World} {K:PySem.W.Frag} {mg:Str → Option Value} {base:Heap} {k:Nat} {f:Addr} {name qual:Str} {params:Arguments} {body:List Stmt} {scope:Scope} {dV kV doc pm cdv ct oc:Value} {an od:Option Addr}
    {osl:Array (Option Value)} {N ps:List Str} {sp:Sp} (lk:K.lookup f = some ⟨oc,od,.func (PySem.W.fnOf name qual params body scope dV kV doc pm an cdv ct),osl⟩) (hcd:PySem.W.codeIn K cdv qual = true) (S:FnScope N ps scope)
    (len:∀ vs H Q E,sp vs H Q E → vs.length = ps.length)
    (hbody:∀ (A:Around) (outer:List Env) (s:Shared) (H:Hp) (vs:List V) (Q:VK) (E:XK),Room k (A.deeper (envOfC qual scope s.heap.objs.size f cdv)) → sp vs H Q E →
      ∃ t,PSs (cxOf CX P w K mg base N qual scope f cdv A outer s H E) body t ∧ t { nx:=fun _ H' => Q .non H',rt:=Q } (start N vs) H) :
    FnOk P w K mg base CX (k + 1) f (PySem.W.fnOf name qual params body scope dV kV doc pm an cdv ct) ps sp:=by
  refine ⟨len,fun A outer s H args us vs Q E hr e0 hb r hsp => ?_⟩
  have hl:=len _ _ _ _ hsp
  have KX:K.In s.heap:=e0.mod.kin.keeps fun b o e => (e0.bs b o e).1
  have lim:s.heap.NoLimit:=e0.mod.nolimit.keeps fun b o e => (e0.bs b o e).1
  have hkind:∀ y ∈ ps.zip us,scope.names.lookup y.1 = some .local ∨ (scope.names.lookup y.1 = some .cell ∧ ((cellsFrom (s.heap.objs.size + 1) scope.names []).lookup y.1).isSome = true):=fun ⟨n,v⟩ hy => by
    rcases S.par n (List.of_mem_zip hy).1 with q | q
    · exact .inl q
    · exact .inr ⟨q,PySem.W.cellsFrom_some _ _ _ (.inl q)⟩
  refine codeAny_call_function hr.depth (KX _ _ lk) rfl S.co S.gen rfl (PySem.W.codeRec_of KX hcd) (hb _ _ _ _ ?_)
  refine wpAny_newFunctionEnv_cells S.kind hkind fun env he s1 x => ?_
  subst he
  refine ⟨lim.keeps x.toInCall.keep,codeAny_func ?_⟩
  obtain ⟨t,ht,hq⟩:=hbody A outer s H vs Q E (hr.deeper _) hsp
  have I:Inv (cxOf CX P w K mg base N qual scope f cdv A outer s H E) [] (start N vs) H s1:=inv_start S hr.hd e0 hl r x
  refine wpAny_mono (ht [] s1 (start N vs) H _ I hq) (fun fl s' hs => ?_) fun e s' hs => hs
  have fin:∀ {σ':St} {H':Hp} {v:V} {u:Value},Inv (cxOf CX P w K mg base N qual scope f cdv A outer s H E) [] σ' H' s' → RelV v u → Q v H' → CE outer P w H s Q u s' :=
    fun {σ' H' v u} J rv q => ⟨v,H',J.os,J.bare,J.base,J.hok,rv,q⟩
  cases fl with
  | ret u =>
    obtain ⟨v,σ',H',J,rv,q⟩:=hs
    exact fin J rv q
  | next =>
    obtain ⟨σ',H',J,q⟩:=hs
    exact fin (v:=V.non) (u:=Value.none) J rfl q
  | brk =>
    obtain ⟨_,_,_,q⟩:=hs
    exact False.elim q
  | cont =>
    obtain ⟨_,_,_,q⟩:=hs
    exact False.elim q
end L2
namespace L2
open PySem PySem.Spec PyProof.Rows
section
variable {X:Cx} {x:Str} {p pos:Pos} {e:Expr} {es:List Expr} {t:TA} {id T:String} {r:List V → Hp → VK → Prop}
noncomputable def tCB (r:List V → Hp → VK → Prop) (t:TA):TE:=fun σ H Q => t σ H fun vs H1 => r vs H1 Q
theorem pe_callB (hc:CallR X (.builtin id) r) (hg:Gl X x) (hm:X.mg x = none) (hv:bootBuiltins x = some (.builtin id)) (ha:PA X (e :: es) t) (hn:x ≠ "__name__":=by decide) (hdb:(x == ("__debug__":Str)) = false:=by decide)
    (he:starEach (e :: es) X.env = (false,eval e X.env) :: starEach es X.env:=by rfl) (hpl:(backTo pos (starEach es X.env)).any (·.1) = false:=by rfl):PE X (.Call (.Name x p) (e :: es) [] pos) (tCB r t):=by
  intro pins s σ H Q I h
  refine wpAny_Call_Name_kw (ld_blt I hg hm hv ?_ hn hdb)
  exact PyProof.Rows.callWith_builtin1 (thn (ha pos pins s σ H _ I h) fun us s1 ⟨vs,H1,I1,r1,q1⟩ => hc pins s1 σ H1 vs us Q I1 r1 q1) he hpl
theorem pe_callTy (hc:CallR X (.type T) r) (hg:Gl X x) (hm:X.mg x = none) (hv:bootBuiltins x = some (.type T)) (ha:PA X (e :: es) t) (hn:x ≠ "__name__":=by decide) (hdb:(x == ("__debug__":Str)) = false:=by decide)
    (he:starEach (e :: es) X.env = (false,eval e X.env) :: starEach es X.env:=by rfl) (hpl:(backTo pos (starEach es X.env)).any (·.1) = false:=by rfl):PE X (.Call (.Name x p) (e :: es) [] pos) (tCB r t):=by
  intro pins s σ H Q I h
  refine wpAny_Call_Name_kw (ld_blt I hg hm hv ?_ hn hdb)
  exact PyProof.Rows.callWith_type1 (thn (ha pos pins s σ H _ I h) fun us s1 ⟨vs,H1,I1,r1,q1⟩ => hc pins s1 σ H1 vs us Q I1 r1 q1) he hpl
end
end L2
namespace HT
open PySem PyProof.Rows
section
open PySem.SeqAt
open PySem.AutoSeq1 (wpAny_loadPart')
open PySem.MeetsSeq PySem.MeetsSeq2 PySem.MeetsSeq3
end
section
variable {prog:Program} {w:World} {A:Around} {E:Value → Shared → Prop} {s:Shared}
theorem cat_tup {t b:Addr} {vs ws:List Value} {Q:Value → Shared → Prop} (ht:IsTup s.heap t vs.toArray) (hb:IsTup s.heap b ws.toArray) (hv:vs ≠ [])
    (h1:ws = [] → Q (.ref t) s) (h2:ws ≠ [] → Q (.ref s.heap.objs.size) { s with heap:=s.heap.push { cls:=.type "tuple",data:=.seq (vs ++ ws).toArray } })
    (hsz:vs.length + ws.length ≤ sizeLine):wpAny (model prog w) A (binaryOp .Add (.ref t) (.ref b)) Q E s:=by
  obtain ⟨⟨cls,dd,data,sl⟩,ho,hc,n,hd⟩:=id ht
  obtain ⟨⟨cls2,dd2,data2,sl2⟩,ho2,hc2,n2,hd2⟩:=id hb
  simp only at hc hd hc2 hd2
  subst hc hd hc2 hd2
  have e:vs.toArray ++ ws.toArray = (vs ++ ws).toArray:=by simp
  by_cases hw:ws = []
  · exact concat_meets ⟨_,ho,rfl⟩ ⟨_,ho2,rfl⟩ noFill_tuple_add seq_tuple_add PySem.F.slot_tuple_add PySem.F.entry_tuple_add (PySem.F.args_tuple_add_2 _ _)
      (tuple_addW1 t b vs.toArray ws.toArray n n2 dd dd2 sl sl2 (by simpa using hv) (by simp [hw])) ⟨ho,ho2,h1 hw⟩
  · refine concat_meets ⟨_,ho,rfl⟩ ⟨_,ho2,rfl⟩ noFill_tuple_add seq_tuple_add PySem.F.slot_tuple_add PySem.F.entry_tuple_add (PySem.F.args_tuple_add_2 _ _)
      (tuple_addW2 t b vs.toArray ws.toArray n n2 dd dd2 sl sl2 (by simpa using hv) (by simpa using hw) (by rw [List.size_toArray,List.size_toArray]; exact hsz)) ⟨ho,ho2,?_⟩
    rw [e]
    exact h2 hw
noncomputable def sIx (n d:Nat):Option Int → Nat
  | none => d
  | some v => if v < 0 then (v + (n:Int)).toNat else min v.toNat n
theorem sIx_none (n d:Nat):sIx n d none = d:=rfl
theorem sIx_nat (n d k:Nat):sIx n d (some (k:Int)) = min k n:=by
  show (if (k:Int) < 0 then ((k:Int) + (n:Int)).toNat else min (k:Int).toNat n) = min k n
  rw [if_neg (by omega),Int.toNat_natCast]
theorem sIx_le (n d:Nat) (hd:d ≤ n) (o:Option Int):sIx n d o ≤ n:=by
  cases o with
  | none => exact hd
  | some v =>
    show (if v < 0 then (v + (n:Int)).toNat else min v.toNat n) ≤ n
    by_cases hv:v < 0
    · rw [if_pos hv]; omega
    · rw [if_neg hv]; exact Nat.min_le_right _ _
theorem clip_eq (v:Int) (n d:Nat):(if v < 0 then max (v + (n:Int)) 0 else min v (n:Int)) = ((sIx n d (some v):Nat):Int):=by
  show (if v < 0 then max (v + (n:Int)) 0 else min v (n:Int)) = (((if v < 0 then (v + (n:Int)).toNat else min v.toNat n):Nat):Int)
  by_cases hv:v < 0
  · simp only [if_pos hv]; omega
  · simp only [if_neg hv]; omega
theorem adjust_gen (lo hi:Option Int) (n:Nat):Builtin.Slice.sliceAdjust lo hi 1 (n:Int) = (((sIx n 0 lo:Nat):Int),((sIx n n hi:Nat):Int)):=by
  have h1:¬ ((1:Int) < 0):=by omega
  unfold Builtin.Slice.sliceAdjust
  simp only [h1,if_false]
  refine Prod.ext ?_ ?_
  · cases lo with
    | none => rfl
    | some v => exact clip_eq v n 0
  · cases hi with
    | none => rfl
    | some v => exact clip_eq v n n
theorem places_gen (i j:Nat):Builtin.Slice.slicePlaces (i:Int) (j:Int) 1 = j - i:=by
  unfold Builtin.Slice.slicePlaces
  have h1:(1:Int) > 0:=by omega
  simp only [h1,if_true,Int.ediv_one]
  split <;> omega
theorem slicePart_ {v:Value} {o:Option Int} {Q:Option Int → Shared → Prop} (p:IsPart v o) (h:Q o s):wpAny (model prog w) A (Builtin.Slice.slicePartIndex v) Q E s:=by
  cases p with
  | none => exact slicePart_none h
  | int i t => exact slicePart_int h
theorem sliceApplied_gen {sl:Addr} {vl vu:Value} {lo hi:Option Int} {n:Nat} {Q:Int × Int × Nat → Shared → Prop} (hs:s.heap.IsSliceOf sl vl vu .none) (pl:IsPart vl lo) (pu:IsPart vu hi)
    (h:Q (((sIx n 0 lo:Nat):Int),1,sIx n n hi - sIx n 0 lo) s):wpAny (model prog w) A (Builtin.Slice.sliceApplied (.ref sl) (pure (n:Int))) Q E s:=by
  obtain ⟨os,hos,hcs,hds⟩:=id hs
  unfold Builtin.Slice.sliceApplied Builtin.Slice.sliceFields
  refine wpAny_bind (wpAny_bind (wpAny_field hos hds (x:=vl) rfl (wpAny_bind (wpAny_field hos hds (x:=vu) rfl (wpAny_bind (wpAny_field hos hds (x:=.none) rfl (wpAny_pure ?_)))))))
  refine wpAny_bind (slicePart_none ?_)
  show wpAny _ _ (if ((1:Int) == 0) = true then _ else _) _ _ s
  rw [if_neg (by decide)]
  refine wpAny_bind (slicePart_ pl (wpAny_bind (slicePart_ pu (wpAny_bind (wpAny_pure ?_)))))
  show wpAny _ _ (match Builtin.Slice.sliceAdjust lo hi 1 (n:Int) with | (lo,hi) => pure (lo,(1:Int),Builtin.Slice.slicePlaces lo hi 1)) _ _ s
  rw [adjust_gen lo hi n]
  show wpAny _ _ (pure (((sIx n 0 lo:Nat):Int),(1:Int),Builtin.Slice.slicePlaces ((sIx n 0 lo:Nat):Int) ((sIx n n hi:Nat):Int) 1)) _ _ s
  rw [places_gen]
  exact wpAny_pure h
theorem pick_gen (xs:Array Value) (i k:Nat):((List.range k).filterMap fun (m:Nat) => xs[((i:Int) + (m:Int) * 1).toNat]?).toArray = ((xs.toList.drop i).take k).toArray:=by
  have e:(fun (m:Nat) => xs[((i:Int) + (m:Int) * 1).toNat]?) = fun m => xs[i + m]?:=by
    funext m
    have:((i:Int) + (m:Int) * 1).toNat = i + m:=by omega
    rw [this]
  rw [e]
  have:=pick_run xs i k
  rw [List.filterMap_map] at this
  have e2:((fun x => xs[x]?) ∘ fun x => i + x) = fun m => xs[i + m]?:=rfl
  rw [e2] at this
  rw [this]
theorem getItem_tuple_cut {t sl:Addr} {items:Array Value} {vl vu:Value} {lo hi:Option Int} {Q:Value → Shared → Prop} (ht:IsTup s.heap t items) (hs:s.heap.IsSliceOf sl vl vu .none) (pl:IsPart vl lo) (pu:IsPart vu hi)
    (hw:¬ (sIx items.size 0 lo = 0 ∧ sIx items.size items.size hi = items.size))
    (h:Q (.ref s.heap.objs.size) { s with heap:=s.heap.push { cls:=.type "tuple",data:=.seq ((items.toList.drop (sIx items.size 0 lo)).take (sIx items.size items.size hi - sIx items.size 0 lo)).toArray } })
    (hsz:items.size ≤ sizeLine):wpAny (model prog w) A (getItem (.ref t) (.ref sl)) Q E s:=by
  have htake:sizeOk (.seq ((items.toList.drop (sIx items.size 0 lo)).take (sIx items.size items.size hi - sIx items.size 0 lo)).toArray):=by
    show ((items.toList.drop (sIx items.size 0 lo)).take (sIx items.size items.size hi - sIx items.size 0 lo)).toArray.size ≤ sizeLine
    rw [List.size_toArray,List.length_take,List.length_drop,Array.length_toList]
    omega
  have hj:sIx items.size items.size hi ≤ items.size:=sIx_le _ _ (Nat.le_refl _) hi
  obtain ⟨os,hos,hcs,hds⟩:=id hs
  have hTs:s.TypeIs (.ref sl) "slice":=⟨os,hos,hcs⟩
  unfold getItem
  try with_reducible refine wpAny_holding ?_
  first | refine wpAny_bind (wpAny_pure ?_) | skip
  refine wpAny_bind (wpAny_sequenceKey ht.typeIs (by decide) ?_)
  refine wpAny_bind (wpAny_callSpecial?_slot (name:=Str.ofString "__getitem__") ht.typeIs PyProof.Rows.slot_tuple_getitem
    (wpAny_call_entry PyProof.Rows.slot_tuple_getitem ht.typeIs entry_tuple_getitem ?_ (args_tuple_getitem _ _)))
  show wpAny _ _ (Builtin.Tuple.tupleItemsOf (.ref t) >>= _) _ _ s
  refine wpAny_bind (tupleItemsOf_ ht ?_)
  refine wpAny_bind (wpAny_typeOf hTs ?_)
  rw [if_pos (by decide)]
  refine wpAny_bind (sliceApplied_gen hs pl pu ?_)
  have hno:¬ ((((sIx items.size 0 lo:Nat):Int) == 0 && (1:Int) == 1 && (sIx items.size items.size hi - sIx items.size 0 lo) == items.size) = true):=by
    intro q
    rw [Bool.and_eq_true,Bool.and_eq_true] at q
    have q1:((sIx items.size 0 lo:Nat):Int) = 0:=eq_of_beq q.1.1
    have q2:sIx items.size items.size hi - sIx items.size 0 lo = items.size:=eq_of_beq q.2
    exact hw ⟨by omega,by omega⟩
  show wpAny _ _ (if (((sIx items.size 0 lo:Nat):Int) == 0 && (1:Int) == 1 && (sIx items.size items.size hi - sIx items.size 0 lo) == items.size) = true then _ else _) _ _ s
  rw [if_neg hno,pick_gen]
  first
    | exact wpAny_bind (m:=Builtin.Tuple.tupleExact _) (wpAny_newObj_type (wpAny_pure ⟨_,rfl,wpAny_pure h⟩) htake)
    | exact wpAny_bind (m:=Builtin.Tuple.tupleExact _) (wpAny_newObj_type (wpAny_bind (wpAny_pure (wpAny_pure ⟨_,rfl,wpAny_pure h⟩))) htake)
    | exact wpAny_bind (wpAny_bind (m:=Builtin.Tuple.tupleExact _) (wpAny_newObj_type (wpAny_pure (wpAny_pure ⟨_,rfl,wpAny_pure h⟩)) htake))
    | exact wpAny_bind (wpAny_bind (m:=Builtin.Tuple.tupleExact _) (wpAny_newObj_type (wpAny_pure ⟨_,rfl,wpAny_pure h⟩) htake))
end
end HT
namespace L2
open PySem PySem.Spec PyProof.Rows
noncomputable abbrev TO:=St → Hp → (Option Int → Hp → Prop) → Prop
noncomputable def PO (X:Cx) (e:Option Expr) (t:TO):Prop :=
  ∀ (pins:List (Addr × Obj)) (s:Shared) (σ:St) (H:Hp) (Q:Option Int → Hp → Prop),Inv X pins σ H s → t σ H Q →
    wpAny (model X.prog X.w) X.A (evalPart e X.env) (fun u s' => ∃ o H',Inv X pins σ H' s' ∧ IsPart u o ∧ Q o H') X.xe s
noncomputable def tNoPart:TO:=fun _ H Q => Q none H
noncomputable def tPart (t:TE):TO:=fun σ H Q => t σ H fun x H1 => ∃ i,x = .int i ∧ Q (some i) H1
section
variable {X:Cx} {e:Expr} {te:TE} {lo hi:Option Expr} {tl th:TO} {pos p2:Pos}
theorem po_none:PO X none tNoPart:=by
  intro pins s σ H Q I h
  rw [evalPart_none]
  exact wpAny_pure ⟨none,H,I,.none,h⟩
theorem po_some (h:PE X e te):PO X (some e) (tPart te):=by
  intro pins s σ H Q I hw
  rw [evalPart_some]
  refine thn (h pins s σ H _ I hw) fun u s1 ⟨x,H1,I1,r1,q1⟩ => ?_
  obtain ⟨i,rfl,q⟩:=q1
  obtain ⟨t,rfl⟩:=r1
  exact ⟨some i,H1,I1,.int i t,q⟩
noncomputable def SlR (X:Cx) (r:V → Option Int → Option Int → Hp → VK → Prop):Prop :=
  ∀ (pins:List (Addr × Obj)) (s:Shared) (σ:St) (H:Hp) (x:V) (v vl vu:Value) (lo hi:Option Int) (sl:Addr) (Q:VK),Inv X pins σ H s → RelV x v → s.heap.IsSliceOf sl vl vu .none → IsPart vl lo → IsPart vu hi → r x lo hi H Q →
    ∃ T id,typeLookup (.type T) "__getitem__" = pure (some (.builtin id)) ∧ s.TypeIs v T ∧ wpAny (model X.prog X.w) X.A (getItem v (.ref sl)) (EP X pins σ Q) X.xe s
noncomputable def tSl (r:V → Option Int → Option Int → Hp → VK → Prop) (te:TE) (tl th:TO):TE:=fun σ H Q => te σ H fun x H1 => tl σ H1 fun l H2 => th σ H2 fun u H3 => r x l u H3 Q
theorem pe_slice {r:V → Option Int → Option Int → Hp → VK → Prop} (hr:SlR X r) (he:PE X e te) (hl:PO X lo tl) (hu:PO X hi th):PE X (.Subscript e (.Slice lo hi none p2) pos) (tSl r te tl th):=by
  intro pins s σ H Q I h
  refine Subscript_ (thn (he pins s σ H _ I h) fun v s1 ⟨x,H1,I1,r1,q1⟩ => ?_)
  refine wpAny_Slice (thn (hl pins s1 σ H1 _ I1 q1) fun vl s2 ⟨l,H2,I2,pl,q2⟩ => thn (hu pins s2 σ H2 _ I2 q2) fun vu s3 ⟨u,H3,I3,pu,q3⟩ => ?_)
  rw [evalPart_none]
  refine wpAny_pure ?_
  have I4:Inv X pins σ H3 { s3 with heap:=s3.heap.push { cls:=.type "slice",data:=.fields #[vl,vu,.none] } }:=I3.kept (t':=s3.toks) fun b ob q => Heap.get?_push_of_some _ q
  obtain ⟨T,id,hT,ht,hg⟩:=hr pins { s3 with heap:=s3.heap.push { cls:=.type "slice",data:=.fields #[vl,vu,.none] } } σ H3 x v vl vu l u s3.heap.objs.size Q I4 r1 (Heap.IsSliceOf.new ..) pl pu q3
  show wpAny (model X.prog X.w) X.A (subscriptTail e (.Slice lo hi none p2) v (.ref s3.heap.objs.size)) (EP X pins σ Q) X.xe { s3 with heap:=s3.heap.push { cls:=.type "slice",data:=.fields #[vl,vu,.none] } }
  exact tail_any (ops:=[.ref s3.heap.objs.size,v]) ht hT hg (by with_unfolding_all rfl)
noncomputable def cutV (xs:List V) (lo hi:Option Int):List V:=(xs.drop (HT.sIx xs.length 0 lo)).take (HT.sIx xs.length xs.length hi - HT.sIx xs.length 0 lo)
theorem cutV_length (xs:List V) (lo hi:Option Int):(cutV xs lo hi).length ≤ xs.length:=by
  unfold cutV
  rw [List.length_take,List.length_drop]
  omega
noncomputable def rSlT (K:PySem.W.Frag):V → Option Int → Option Int → Hp → VK → Prop:=fun x lo hi H Q => ∃ a xs,x = .ref a ∧ SqT K H a xs ∧
  ¬ (HT.sIx xs.length 0 lo = 0 ∧ HT.sIx xs.length xs.length hi = xs.length) ∧ ∀ p,H p = none → Q (.ref p) (upd H p (.tup (cutV xs lo hi)))
theorem sl_tup:SlR X (rSlT X.K):=by
  intro pins s σ H x v vl vu lo hi sl Q I rx hs pl pu h
  obtain ⟨a,xs,rfl,hx,hw,q⟩:=h
  cases rx
  obtain ⟨its,r,ht,hz⟩:=I.tuple hx
  have hlen:its.toArray.size = xs.length:=by rw [List.size_toArray]; exact r.length.symm
  refine ⟨"tuple",_,PyProof.Rows.slot_tuple_getitem.lookup,ht.typeIs,?_⟩
  refine HT.getItem_tuple_cut ht hs pl pu (by rw [hlen]; exact hw) ?_ (by rw [hlen]; exact hz)
  rw [hlen]
  refine ⟨.ref s.heap.objs.size,_,I.laid (t':=s.toks) (o:=.tup (cutV xs lo hi)) (fun b ob q => Heap.get?_push_of_some _ q) (Nat.le_refl _) ?_,rfl,q _ (I.hok.fresh (Nat.le_refl _))⟩
  exact ⟨Nat.le_trans (cutV_length xs lo hi) hz,_,(r.drop (HT.sIx xs.length 0 lo)).take (HT.sIx xs.length xs.length hi - HT.sIx xs.length 0 lo),IsTup.new _ _⟩
noncomputable def rCatT (K:PySem.W.Frag):R2:=fun x y H Q => ∃ a b xs ys,x = .ref a ∧ y = .ref b ∧ SqT K H a xs ∧ SqT K H b ys ∧ xs ≠ [] ∧ xs.length + ys.length ≤ sizeLine ∧
  (ys = [] → Q (.ref a) H) ∧ (ys ≠ [] → ∀ p,H p = none → Q (.ref p) (upd H p (.tup (xs ++ ys))))
theorem Vals.nil_iff {xs:List V} {us:List Value} (r:Vals xs us):us = [] ↔ xs = []:=by
  cases r with
  | nil => simp
  | cons _ _ => simp
theorem op_catT:OpR X (binaryOp .Add) (rCatT X.K):=by
  intro pins s σ H x y v u Q I rx ry h
  obtain ⟨a,b,xs,ys,rfl,rfl,ha,hb,hx,hz,q1,q2⟩:=h
  cases rx
  cases ry
  obtain ⟨its,r1,p1,_⟩:=I.tuple ha
  obtain ⟨its2,r2,p2,_⟩:=I.tuple hb
  refine HT.cat_tup p1 p2 (fun z => hx (r1.nil_iff.mp z)) (fun z => ⟨.ref a,H,I,rfl,q1 (r2.nil_iff.mp z)⟩) (fun z => ?_) (by rw [← r1.length,← r2.length]; exact hz)
  refine ⟨.ref s.heap.objs.size,_,I.laid (t':=s.toks) (o:=.tup (xs ++ ys)) (fun b ob q => Heap.get?_push_of_some _ q) (Nat.le_refl _) ?_,rfl,q2 (fun w => z (r2.nil_iff.mpr w)) _ (I.hok.fresh (Nat.le_refl _))⟩
  exact ⟨by rw [List.length_append]; exact hz,_,r1.append r2,IsTup.new _ _⟩
end
end L2
namespace L2
open PySem PySem.Spec PyProof.Rows
noncomputable def ixN (n:Nat) (i:Int):Option Nat:=if 0 ≤ i then (if i < n then some i.toNat else none) else if -(n:Int) ≤ i then some (i + n).toNat else none
noncomputable def atI {α:Type} (xs:List α) (i:Int):Option α:=(ixN xs.length i).bind fun j => xs[j]?
theorem ixN_seq {n:Nat} {i:Int} {j:Nat} (h:ixN n i = some j):seqIndex? i n = some j ∧ j < n ∧ -(n:Int) ≤ i ∧ i < n:=by
  unfold ixN at h
  by_cases h0:0 ≤ i
  · rw [if_pos h0] at h
    by_cases h1:i < n
    · rw [if_pos h1] at h
      have e:i.toNat = j:=Option.some.inj h
      exact ⟨by rw [seqIndex_of h0 h1,e],by omega,by omega,h1⟩
    · rw [if_neg h1] at h; cases h
  · rw [if_neg h0] at h
    by_cases h1:-(n:Int) ≤ i
    · rw [if_pos h1] at h
      have e:(i + n).toNat = j:=Option.some.inj h
      exact ⟨by rw [seqIndex_neg (by omega) h1,e],by omega,h1,by omega⟩
    · rw [if_neg h1] at h; cases h
theorem atI_get {α:Type} {xs:List α} {i:Int} {v:α} (h:atI xs i = some v):∃ j,seqIndex? i xs.length = some j ∧ xs[j]? = some v ∧ j < xs.length ∧ -(xs.length:Int) ≤ i ∧ i < xs.length:=by
  unfold atI at h
  cases e:ixN xs.length i with
  | none => rw [e] at h; cases h
  | some j =>
    rw [e] at h
    obtain ⟨h1,h2,h3,h4⟩:=ixN_seq e
    exact ⟨j,h1,h,h2,h3,h4⟩
theorem atI_nat {α:Type} {xs:List α} {j:Nat} {v:α} (h:xs[j]? = some v):atI xs (j:Int) = some v:=by
  have hj:j < xs.length:=(List.getElem?_eq_some_iff.mp h).1
  have e:ixN xs.length (j:Int) = some j:=by
    unfold ixN
    rw [if_pos (by omega),if_pos (by omega)]; simp
  unfold atI; rw [e]; exact h
noncomputable def PlainIx (b:Expr):Prop:=∀ o i,subscripted b false o i = operate [o,i] (getItem o i)
noncomputable def IxR (X:Cx) (r:R2):Prop :=
  ∀ (value slice:Expr) (pins:List (Addr × Obj)) (s:Shared) (σ:St) (H:Hp) (x y:V) (v u:Value) (Q:VK),Inv X pins σ H s → RelV x v → RelV y u → r x y H Q →
    subscripted slice false v u = operate [v,u] (getItem v u) → wpAny (model X.prog X.w) X.A (subscriptTail value slice v u) (EP X pins σ Q) X.xe s
noncomputable def MtR (X:Cx) (id:String) (r:V → List V → Hp → VK → Prop):Prop :=
  ∀ (pins:List (Addr × Obj)) (s:Shared) (σ:St) (H:Hp) (x:V) (xs:List V) (v:Value) (us:List Value) (Q:VK),Inv X pins σ H s → RelV x v → Vals xs us → r x xs H Q →
    wpAny (model X.prog X.w) X.A (call (.builtin id) (v :: us)) (EP X pins σ Q) X.xe s
section
variable {X:Cx} {a b:Expr} {ta tb:TE} {pos:Pos}
theorem pe_ix {r:R2} (hr:IxR X r) (ha:PE X a ta) (hb:PE X b tb) (hs:PlainIx b):PE X (.Subscript a b pos) (tOp r ta tb):=by
  intro pins s σ H Q I h
  exact Subscript_ (binT ha hb I h fun v u s2 x y H2 I2 rx ry q => hr a b pins s2 σ H2 x y v u Q I2 rx ry q (hs _ _))
noncomputable def rIxL (K:PySem.W.Frag):R2:=fun x y H Q => ∃ p xs i v,x = .ref p ∧ y = .int i ∧ SqL K H p xs ∧ atI xs i = some v ∧ Q v H
noncomputable def rIxT (K:PySem.W.Frag):R2:=fun x y H Q => ∃ p xs i v,x = .ref p ∧ y = .int i ∧ SqT K H p xs ∧ atI xs i = some v ∧ Q v H
noncomputable def rIxS:R2:=fun x y H Q => ∃ z i c,x = .str z ∧ y = .int i ∧ z.length ≤ sizeLine ∧ atI z.cps.toList i = some c ∧ Q (.str ⟨#[c]⟩) H
theorem ix_list:IxR X (rIxL X.K):=by
  intro value slice pins s σ H x y v u Q I rx ry h hs
  obtain ⟨p,xs,i,z,rfl,rfl,hq,he,q⟩:=h
  cases rx
  obtain ⟨t,rfl⟩:=ry
  obtain ⟨its,r,pl,hz⟩:=I.list hq
  obtain ⟨j,h1,h2,h3,h4,h5⟩:=atI_get he
  obtain ⟨w,ew,rw'⟩:=r.get h2
  have hl:=r.length
  have hn:=line63
  have fin:EP X pins σ Q w s:=⟨z,H,I,rw',q⟩
  by_cases h0:0 ≤ i
  · have hj:i.toNat = j:=by
      rw [seqIndex_of h0 h5] at h1
      exact Option.some.inj h1
    exact item_listR pl.isList h0 (by omega) (by rw [hj]; simpa using ew) fin hs
  · have hj:(i + (its.toArray.size:Int)).toNat = j:=by
      rw [seqIndex_neg (by omega) h4] at h1
      rw [List.size_toArray,← hl]
      exact Option.some.inj h1
    exact subscriptTail_builtinR (x:=w) pl.isList.typeIs slot_list_getitem.lookup
      (wpAny_getItem_list_neg (Q:=fun r s' => r = w ∧ EP X pins σ Q r s') pl.isList (by omega) (by rw [List.size_toArray] <;> omega) (by omega) (by rw [hj]; simpa using ew) ⟨rfl,fin⟩) hs
theorem ix_tup:IxR X (rIxT X.K):=by
  intro value slice pins s σ H x y v u Q I rx ry h hs
  obtain ⟨p,xs,i,z,rfl,rfl,hq,he,q⟩:=h
  cases rx
  obtain ⟨t,rfl⟩:=ry
  obtain ⟨its,r,pl,hz⟩:=I.tuple hq
  obtain ⟨j,h1,h2,h3,h4,h5⟩:=atI_get he
  obtain ⟨w,ew,rw'⟩:=r.get h2
  have hl:=r.length
  have hn:=line63
  have fin:EP X pins σ Q w s:=⟨z,H,I,rw',q⟩
  exact subscriptTail_builtinR (x:=w) pl.typeIs slot_tuple_getitem.lookup
    (getItem_tuple (j:=j) (Q:=fun r s' => r = w ∧ EP X pins σ Q r s') pl (by omega) (by omega) (by rw [List.size_toArray,← hl]; exact h1) (by simpa using ew) ⟨rfl,fin⟩) hs
theorem ix_str:IxR X rIxS:=by
  intro value slice pins s σ H x y v u Q I rx ry h hs
  obtain ⟨z,i,c,rfl,rfl,hz,he,q⟩:=h
  obtain ⟨t,rfl⟩:=rx
  obtain ⟨t',rfl⟩:=ry
  obtain ⟨j,h1,h2,h3,h4,h5⟩:=atI_get he
  have hl:z.cps.toList.length = z.length:=by simp [Str.length]
  rw [hl] at h1 h4 h5
  have hn:=line63
  exact tail_any (typeIs_str s z t) slot_str_getitem.lookup (getItem_str (c:=c) (by
    have e1:decide (i < -(2 ^ 63:Int)) = false:=decide_eq_false (by omega)
    have e2:decide (i ≥ 2 ^ 63) = false:=decide_eq_false (by omega)
    rw [e1,e2,Bool.or_false]) (by rw [h1]; simpa using h2) ⟨.str ⟨#[c]⟩,H,I.tok _,⟨_,rfl⟩,q⟩) hs
theorem slice_bounds (lo hi:Option Int) (n:Nat):(sliceBounds lo hi none n).1 = ((HT.sIx n 0 lo:Nat):Int) ∧ (sliceBounds lo hi none n).2.1 = ((HT.sIx n n hi:Nat):Int) ∧ (sliceBounds lo hi none n).2.2 = 1:=by
  refine ⟨?_,?_,rfl⟩
  · cases lo with
    | none => simp [sliceBounds,HT.sIx]
    | some i =>
      simp only [sliceBounds,HT.sIx,Option.getD_none,show (1:Int) > 0 by decide,if_true]
      by_cases h:i < 0
      · simp only [h,if_true] <;> omega
      · simp only [h,if_false] <;> omega
  · cases hi with
    | none => simp [sliceBounds,HT.sIx]
    | some i =>
      simp only [sliceBounds,HT.sIx,Option.getD_none,show (1:Int) > 0 by decide,if_true]
      by_cases h:i < 0
      · simp only [h,if_true] <;> omega
      · simp only [h,if_false] <;> omega
theorem slicePick_cut (its:List Value) (lo hi:Option Int):slicePick its.toArray lo hi none = ((its.drop (HT.sIx its.length 0 lo)).take (HT.sIx its.length its.length hi - HT.sIx its.length 0 lo)).toArray:=by
  obtain ⟨h1,h2,h3⟩:=slice_bounds lo hi its.toArray.size
  unfold slicePick
  rw [h1,h2,h3]
  simp only [sliceRange_one,pick_run,List.size_toArray] <;> rfl
noncomputable def rSlL (K:PySem.W.Frag):V → Option Int → Option Int → Hp → VK → Prop:=fun x lo hi H Q => ∃ a xs,x = .ref a ∧ SqL K H a xs ∧ ∀ p,H p = none → Q (.ref p) (upd H p (.lst (cutV xs lo hi)))
theorem sl_list:SlR X (rSlL X.K):=by
  intro pins s σ H x v vl vu lo hi sl Q I rx hs pl pu h
  obtain ⟨a,xs,rfl,hx,q⟩:=h
  cases rx
  obtain ⟨its,r,ht,hz⟩:=I.list hx
  have hlen:=r.length
  refine ⟨"list",_,slot_list_getitem.lookup,ht.isList.typeIs,?_⟩
  refine wpAny_getItem_list_slice ht.isList hs pl pu .none (by simp) ?_ (by rw [List.size_toArray] <;> omega)
  rw [slicePick_cut,← hlen]
  refine ⟨.ref s.heap.objs.size,_,I.laid (t':=s.toks) (o:=.lst (cutV xs lo hi)) (fun b ob q => Heap.get?_push_of_some _ q) (Nat.le_refl _) ?_,rfl,q _ (I.hok.fresh (Nat.le_refl _))⟩
  exact ⟨Nat.le_trans (cutV_length xs lo hi) hz,_,0,(r.drop (HT.sIx xs.length 0 lo)).take (HT.sIx xs.length xs.length hi - HT.sIx xs.length 0 lo),Heap.get?_push_size _ rfl⟩
noncomputable def flatV:V → Bool
  | .non => true
  | .bl _ => true
  | .int _ => true
  | .str _ => true
  | _ => false
noncomputable def eqV:V → V → Bool
  | .non,.non => true
  | .bl a,.bl b => a == b
  | .bl a,.int b => (if a then 1 else 0) == b
  | .int a,.bl b => a == (if b then 1 else 0)
  | .int a,.int b => a == b
  | .str a,.str b => a == b
  | _,_ => false
theorem eqAt_V {A:Around} {s:Shared} {y x:V} {u v:Value} (ry:RelV y u) (rx:RelV x v) (fy:flatV y = true) (fx:flatV x = true):SeqAt.EqAt A s u v (eqV y x):=by
  cases y with
  | non =>
    cases ry
    cases x with
    | non => cases rx; exact SeqAt.EqAt.same _
    | bl b => cases rx; exact SeqAt.EqAt.none_bool b
    | int b => obtain ⟨t,rfl⟩:=rx; exact SeqAt.EqAt.none_int b t
    | str b => obtain ⟨t,rfl⟩:=rx; exact SeqAt.EqAt.none_str b t
    | _ => exact absurd (show false = true from fx) Bool.false_ne_true
  | bl a =>
    cases ry
    cases x with
    | non => cases rx; exact SeqAt.EqAt.bool_none a
    | bl b => cases rx; exact SeqAt.EqAt.bool_bool a b
    | int b => obtain ⟨t,rfl⟩:=rx; exact SeqAt.EqAt.bool_int a b t
    | str b => obtain ⟨t,rfl⟩:=rx; exact SeqAt.EqAt.bool_str a b t
    | _ => exact absurd (show false = true from fx) Bool.false_ne_true
  | int a =>
    obtain ⟨t',rfl⟩:=ry
    cases x with
    | non => cases rx; exact SeqAt.EqAt.int_none a t'
    | bl b => cases rx; exact SeqAt.EqAt.int_bool a t' b
    | int b => obtain ⟨t,rfl⟩:=rx; exact SeqAt.EqAt.int_int a t' b t
    | str b => obtain ⟨t,rfl⟩:=rx; exact SeqAt.EqAt.int_str a t' b t
    | _ => exact absurd (show false = true from fx) Bool.false_ne_true
  | str a =>
    obtain ⟨t',rfl⟩:=ry
    cases x with
    | non => cases rx; exact SeqAt.EqAt.str_none a t'
    | bl b => cases rx; exact SeqAt.EqAt.str_bool a t' b
    | int b => obtain ⟨t,rfl⟩:=rx; exact SeqAt.EqAt.str_int a t' b t
    | str b => obtain ⟨t,rfl⟩:=rx; exact SeqAt.EqAt.str_str a t' b t
    | _ => exact absurd (show false = true from fx) Bool.false_ne_true
  | _ => exact absurd (show false = true from fy) Bool.false_ne_true
noncomputable def eqU (x:V) (u:Value):Bool:=match u with
  | .none => eqV .non x
  | .bool b => eqV (.bl b) x
  | .int i _ => eqV (.int i) x
  | .str z _ => eqV (.str z) x
  | _ => false
theorem eqU_of {x y:V} {u:Value} (r:RelV y u) (f:flatV y = true):eqU x u = eqV y x:=by
  cases y with
  | non => cases r; rfl
  | bl b => cases r; rfl
  | int i => obtain ⟨t,rfl⟩:=r; rfl
  | str z => obtain ⟨t,rfl⟩:=r; rfl
  | _ => exact absurd (show false = true from f) Bool.false_ne_true
theorem any_eqU {x:V}:∀ {xs:List V} {us:List Value},Vals xs us → xs.all flatV = true → us.any (eqU x) = xs.any fun y => eqV y x
  | _,_,.nil,_ => rfl
  | y :: xs,u :: us,.cons r t,f => by
    rw [List.all_cons,Bool.and_eq_true] at f
    rw [List.any_cons,List.any_cons,eqU_of r f.1,any_eqU t f.2]
theorem mem_eqAt {A:Around} {s:Shared} {x:V} {v:Value} (rx:RelV x v) (fx:flatV x = true):∀ {xs:List V} {us:List Value},Vals xs us → xs.all flatV = true → ∀ u ∈ us,SeqAt.EqAt A s u v (eqU x u)
  | _,_,.nil,_ => fun u hu => by cases hu
  | y :: xs,u :: us,.cons r t,f => fun u' hu => by
    rw [List.all_cons,Bool.and_eq_true] at f
    rcases List.mem_cons.mp hu with rfl | hu
    · rw [eqU_of r f.1]; exact eqAt_V r rx f.1 fx
    · exact mem_eqAt rx fx t f.2 u' hu
noncomputable def inV (x:V) (xs:List V):Bool:=xs.any fun y => eqV y x
noncomputable def rIn (K:PySem.W.Frag) (neg:Bool):R2:=fun x y H Q => ∃ p xs,y = .ref p ∧ (SqL K H p xs ∨ SqT K H p xs) ∧ flatV x = true ∧ xs.all flatV = true ∧ Q (.bl (if neg then !inV x xs else inV x xs)) H
theorem op_in_seq:OpR X (compareOp .In) (rIn X.K false):=by
  intro pins s σ H x y v u Q I rx ry h
  obtain ⟨p,xs,rfl,hq,fx,fs,q⟩:=h
  cases ry
  rcases hq with hq | hq
  · obtain ⟨its,r,pl,hz⟩:=I.list hq
    refine SeqAt.in_listAt (eqU x) pl.isList (fun w hw => mem_eqAt rx fx r fs w (by simpa using hw)) ⟨.bl _,H,I,rfl,?_⟩
    rw [show its.toArray.any (eqU x) = its.any (eqU x) by simp,any_eqU r fs]
    exact q
  · obtain ⟨its,r,pl,hz⟩:=I.tuple hq
    refine SeqAt.in_tupleAt (eqU x) pl (fun w hw => mem_eqAt rx fx r fs w (by simpa using hw)) ⟨.bl _,H,I,rfl,?_⟩
    rw [show its.toArray.any (eqU x) = its.any (eqU x) by simp,any_eqU r fs]
    exact q
theorem op_notIn_seq:OpR X (compareOp .NotIn) (rIn X.K true):=by
  intro pins s σ H x y v u Q I rx ry h
  obtain ⟨p,xs,rfl,hq,fx,fs,q⟩:=h
  cases ry
  rcases hq with hq | hq
  · obtain ⟨its,r,pl,hz⟩:=I.list hq
    refine SeqAt.notIn_listAt (eqU x) pl.isList (fun w hw => mem_eqAt rx fx r fs w (by simpa using hw)) ⟨.bl _,H,I,rfl,?_⟩
    rw [show its.toArray.any (eqU x) = its.any (eqU x) by simp,any_eqU r fs]
    exact q
  · obtain ⟨its,r,pl,hz⟩:=I.tuple hq
    refine SeqAt.notIn_tupleAt (eqU x) pl (fun w hw => mem_eqAt rx fx r fs w (by simpa using hw)) ⟨.bl _,H,I,rfl,?_⟩
    rw [show its.toArray.any (eqU x) = its.any (eqU x) by simp,any_eqU r fs]
    exact q
theorem op_notIn_str:OpR X (compareOp .NotIn) (fun x y H Q => ∃ i j,x = .str i ∧ y = .str j ∧ Q (.bl (!(!(Builtin.Str.occurrences j i 0 j.length 1).isEmpty))) H):=by
  intro pins s σ H x y v u Q I rx ry h
  obtain ⟨i,j,rfl,rfl,q⟩:=h
  obtain ⟨t,rfl⟩:=rx
  obtain ⟨t',rfl⟩:=ry
  exact notIn_str ⟨.bl _,H,I,rfl,q⟩
theorem call_len_seq:CallR X (.builtin "len") (fun xs H Q => ∃ p ys,xs = [.ref p] ∧ (SqL X.K H p ys ∨ SqT X.K H p ys) ∧ Q (.int ys.length) H):=by
  intro pins s σ H xs us Q I r h
  obtain ⟨p,ys,rfl,hq,q⟩:=h
  obtain ⟨u,rfl,rx⟩:=vals1 r
  cases rx
  have hn:=line63
  rcases hq with hq | hq
  · obtain ⟨its,r',pl,hz⟩:=I.list hq
    have hlen:=r'.length
    exact Calls.call_len_list pl.isList (by simp only [List.size_toArray] <;> omega) ⟨.int ys.length,H,I.tok _,⟨s.toks + 1,by rw [List.size_toArray,hlen]⟩,q⟩
  · obtain ⟨its,r',pl,hz⟩:=I.tuple hq
    have hlen:=r'.length
    exact len_tuple pl (by simp only [List.size_toArray] <;> omega) ⟨.int ys.length,H,I.tok _,⟨s.toks + 1,by rw [List.size_toArray,hlen]⟩,q⟩
theorem call_len_str:CallR X (.builtin "len") (fun xs H Q => ∃ z,xs = [.str z] ∧ z.length ≤ sizeLine ∧ Q (.int z.length) H):=by
  intro pins s σ H xs us Q I r h
  obtain ⟨z,rfl,hz,q⟩:=h
  obtain ⟨u,rfl,t,rfl⟩:=vals1 r
  have hn:=line63
  exact len_str (by omega) ⟨.int z.length,H,I.tok _,⟨_,rfl⟩,q⟩
theorem call_list_of:CallR X (.type "list") (fun xs H Q => ∃ p ys,xs = [.ref p] ∧ (SqL X.K H p ys ∨ SqT X.K H p ys) ∧ ∀ l,H l = none → Q (.ref l) (upd H l (.lst ys))):=by
  intro pins s σ H xs us Q I r h
  obtain ⟨p,ys,rfl,hq,q⟩:=h
  obtain ⟨u,rfl,rx⟩:=vals1 r
  cases rx
  have fin:∀ (its:List Value),Vals ys its → ys.length ≤ sizeLine → ∀ (h':Heap) (c':Nat),(∀ b o',s.heap.get? b = some o' → h'.get? b = some o') →
      h'.get? s.heap.objs.size = some { cls:=.type "list",dict:=none,data:=.seq its.toArray c',slots:=#[] } → EP X pins σ Q (.ref s.heap.objs.size) { s with heap:=h' }:=fun its r' hz h' c' kp e =>
    ⟨.ref s.heap.objs.size,_,I.laid (t':=s.toks) kp (Nat.le_refl _) (show ObjOk X.prog X.w _ h' _ (.lst ys) from ⟨hz,its,c',r',e⟩),rfl,q _ (I.hok.fresh (Nat.le_refl _))⟩
  rcases hq with hq | hq
  · obtain ⟨its,r',pl,hz⟩:=I.list hq
    have hlen:=r'.length
    obtain ⟨o,ho,hc,n,hd⟩:=pl.isList
    exact call_list_seq p (.inl rfl) ho hc hd (fun h' c' kp e => fin its r' hz h' c' kp e) (by simp only [List.size_toArray] <;> omega)
  · obtain ⟨its,r',pl,hz⟩:=I.tuple hq
    have hlen:=r'.length
    obtain ⟨o,ho,hc,n,hd⟩:=pl
    exact call_list_seq p (.inr rfl) ho hc hd (fun h' c' kp e => fin its r' hz h' c' kp e) (by simp only [List.size_toArray] <;> omega)
theorem call_tuple_of:CallR X (.type "tuple") (fun xs H Q => ∃ p ys,xs = [.ref p] ∧ ((SqL X.K H p ys ∧ ∀ l,H l = none → Q (.ref l) (upd H l (.tup ys))) ∨ (SqT X.K H p ys ∧ Q (.ref p) H))):=by
  intro pins s σ H xs us Q I r h
  obtain ⟨p,ys,rfl,h⟩:=h
  obtain ⟨u,rfl,rx⟩:=vals1 r
  cases rx
  rcases h with ⟨hq,q⟩ | ⟨hq,q⟩
  · obtain ⟨its,r',pl,hz⟩:=I.list hq
    have hlen:=r'.length
    refine call_tuple_list pl.isList (fun h' kp => ?_) (by simp only [List.size_toArray] <;> omega)
    have I1:Inv X pins σ H { s with heap:=h' }:=I.kept (t':=s.toks) kp
    have I2:Inv X pins σ (upd H h'.objs.size (.tup ys)) { s with heap:=h'.push { cls:=.type "tuple",data:=.seq its.toArray } } :=
      I1.laid (t':=s.toks) (fun b o e => Heap.get?_push_of_some _ e) (Nat.le_refl _) (show ObjOk X.prog X.w _ _ _ (.tup ys) from ⟨hz,its,r',IsTup.new _ _⟩)
    exact ⟨.ref h'.objs.size,_,I2,rfl,q _ (I1.hok.fresh (Nat.le_refl _))⟩
  · obtain ⟨its,r',pl,hz⟩:=I.tuple hq
    exact call_tuple_same pl ⟨.ref p,H,I,rfl,q⟩
noncomputable def tyV (K:PySem.W.Frag) (T:String) (x:V) (H:Hp):Prop:=match x with
  | .str _ => T = "str"
  | .int _ => T = "int"
  | .ref p => (T = "list" ∧ ∃ xs,SqL K H p xs) ∨ (T = "tuple" ∧ ∃ o,K.lookup p = some o ∧ o.cls = .type "tuple" ∧ o.dict = none) ∨
      (T = "dict" ∧ ((∃ kvs,H p = some (.dK kvs)) ∨ ∃ kvs,H p = some (.dT kvs))) ∨ (T = "set" ∧ ∃ S n,H p = some (.set S n))
  | _ => False
theorem tyV_is {pins:List (Addr × Obj)} {σ:St} {H:Hp} {s:Shared} {T:String} {x:V} {v:Value} (I:Inv X pins σ H s) (r:RelV x v) (ty:tyV X.K T x H) :
    s.TypeIs v T ∧ ∀ a,v = .ref a → ∃ ob,s.heap.get? a = some ob ∧ ob.dict = none:=by
  cases x with
  | str z =>
    obtain ⟨t,rfl⟩:=r
    cases (show T = "str" from ty)
    exact ⟨typeIs_str s z t,fun _ e => nomatch e⟩
  | int i =>
    obtain ⟨t,rfl⟩:=r
    cases (show T = "int" from ty)
    exact ⟨typeIs_int s i t,fun _ e => nomatch e⟩
  | ref p =>
    cases r
    rcases ty with ⟨rfl,xs,hq⟩ | ⟨rfl,o,hk,hc,hd⟩ | ⟨rfl,hk⟩ | ⟨rfl,S,n,hk⟩
    · obtain ⟨its,_,pl,_⟩:=I.list hq
      refine ⟨pl.isList.typeIs,fun a e => ?_⟩
      cases e
      obtain ⟨o,n,e,c,hd,_⟩:=pl
      exact ⟨o,e,hd⟩
    · refine ⟨⟨o,I.kIn p o hk,hc⟩,fun a e => ?_⟩
      cases e
      exact ⟨o,I.kIn _ o hk,hd⟩
    · have z:∃ o,s.heap.get? p = some o ∧ o.ExactDict:=by
        rcases hk with ⟨kvs,hk⟩ | ⟨kvs,hk⟩
        · obtain ⟨_,_,_,_,o,_,_,e,ex,_⟩:=I.hok p _ hk
          exact ⟨o,e,ex⟩
        · obtain ⟨_,_,_,_,o,_,_,e,ex,_⟩:=I.hok p _ hk
          exact ⟨o,e,ex⟩
      obtain ⟨o,e,ex⟩:=z
      refine ⟨⟨o,e,ex.1⟩,fun a e2 => ?_⟩
      cases e2
      exact ⟨o,e,ex.2.1⟩
    · obtain ⟨o,_,_,_,e,ex,_⟩:=I.hok p _ hk
      refine ⟨⟨o,e,ex.1⟩,fun a e2 => ?_⟩
      cases e2
      exact ⟨o,e,ex.2.1⟩
  | _ => exact False.elim ty
noncomputable def tBM0 (K:PySem.W.Frag) (T:String) (r:V → List V → Hp → VK → Prop) (to:TE):TE:=fun σ H Q => to σ H fun x H1 => tyV K T x H1 ∧ r x [] H1 Q
noncomputable def tBM (K:PySem.W.Frag) (T:String) (r:V → List V → Hp → VK → Prop) (to:TE) (t:TA):TE:=fun σ H Q => to σ H fun x H1 => tyV K T x H1 ∧ t σ H1 fun xs H2 => r x xs H2 Q
variable {o e:Expr} {es:List Expr} {to:TE} {t:TA} {name:Str} {apos cpos:Pos} {T id:String} {r:V → List V → Hp → VK → Prop}
theorem pe_bm0 (pa:PlainAttrs T) (slot:Slot T name id) (hty:typeOf (.builtin id) = pure (.type "method_descriptor")) (hm:MtR X id r) (ho:PE X o to)
    (hbase:attributeBase o name X.env (eval o X.env) = eval o X.env:=by rfl) (hline:(apos.endLine == cpos.line) = true:=by rfl):PE X (.Call (.Attribute o name apos) [] [] cpos) (tBM0 X.K T r to):=by
  intro pins s σ H Q I h
  refine wpAny_Call_method0_late hbase hline (thn (ho pins s σ H _ I h) fun v s1 ⟨x,H1,I1,r1,ty,q1⟩ => ?_)
  obtain ⟨h1,h2⟩:=tyV_is I1 r1 ty
  exact ⟨T,id,pa,slot,hty,h1,h2,Calls.callWith_builtin rfl (PySem.evalArgs_none (hm pins s1 σ H1 x [] v [] Q I1 r1 .nil q1))⟩
theorem pe_bm (pa:PlainAttrs T) (slot:Slot T name id) (hty:typeOf (.builtin id) = pure (.type "method_descriptor")) (hm:MtR X id r) (ho:PE X o to) (ha:PA X (e :: es) t)
    (hbase:attributeBase o name X.env (eval o X.env) = eval o X.env:=by rfl)
    (hfew:((backTo cpos (starEach (e :: es) X.env)).all (fun x => !x.1) && (backToKw cpos (keywordEach [] X.env)).all (fun x => x.1.isSome)
      && decide ((e :: es).length + ([]:List Keyword).length + (if ([]:List Keyword).isEmpty then 0 else 1) < 30)) = true:=by rfl)
    (hline:(apos.endLine == cpos.line) = true:=by rfl) (hs:starEach (e :: es) X.env = (false,eval e X.env) :: starEach es X.env:=by rfl) (hplain:(backTo cpos (starEach es X.env)).any (·.1) = false:=by rfl) :
    PE X (.Call (.Attribute o name apos) (e :: es) [] cpos) (tBM X.K T r to t):=by
  intro pins s σ H Q I h
  refine wpAny_Call_method_late hbase hfew hline rfl (thn (ho pins s σ H _ I h) fun v s1 ⟨x,H1,I1,r1,ty,q1⟩ => ?_)
  obtain ⟨h1,h2⟩:=tyV_is I1 r1 ty
  refine ⟨T,id,pa,slot,hty,h1,h2,?_⟩
  have hA:=ha cpos pins s1 σ H1 _ I1 q1
  rw [hs] at hA ⊢
  refine Calls.callWith_builtin (by show (false || (backTo cpos (starEach es X.env)).any (·.1)) = false; rw [hplain] <;> rfl) (Calls.evalArgs_plain ?_)
  exact thn hA fun us s2 ⟨vs,H2,I2,r2,q2⟩ => hm pins s2 σ H2 x vs v us Q I2 r1 r2 q2
/- xs.append(e),list.index on a module's tuple .. are MtR facts of 06m -/
end
end L2
namespace L2
open PySem PySem.Spec PyProof.Rows
noncomputable def MtM (X:Cx) (id:String) (r:V → List V → Hp → VK → Prop):Prop :=
  ∀ (pins:List (Addr × Obj)) (s:Shared) (σ:St) (H:Hp) (x:V) (xs:List V) (v:Value) (us:List Value) (Q:VK),Inv X pins σ H s → RelV x v → Vals xs us → r x xs H Q →
    wpAny (model X.prog X.w) X.A (call (.builtin id) (v :: us)) (EP X pins σ Q) X.xe s
theorem Vals.one:∀ {x:V} {us:List Value},Vals [x] us → ∃ u,us = [u] ∧ RelV x u
  | _,_,.cons r .nil => ⟨_,rfl,r⟩
theorem Vals.two:∀ {x y:V} {us:List Value},Vals [x,y] us → ∃ u v,us = [u,v] ∧ RelV x u ∧ RelV y v
  | _,_,_,.cons r (.cons q .nil) => ⟨_,_,rfl,r,q⟩
theorem Vals.zero:∀ {us:List Value},Vals [] us → us = []
  | _,.nil => rfl
theorem Vals.dropLast {xs:List V} {us:List Value} (h:Vals xs us):Vals xs.dropLast us.dropLast:=by
  induction h with
  | nil => exact .nil
  | cons r t ih =>
    cases t with
    | nil => exact .nil
    | cons q t' => exact .cons r ih
theorem Vals.rep {xs:List V} {us:List Value} (h:Vals xs us):∀ k:Nat,Vals (List.replicate k xs).flatten (List.replicate k us).flatten
  | 0 => .nil
  | k + 1 => by
    rw [List.replicate_succ,List.replicate_succ,List.flatten_cons,List.flatten_cons]
    exact Vals.append h (Vals.rep h k)
theorem erase_last {α:Type} (l:List α):l.eraseIdx (l.length - 1) = l.dropLast:=by
  induction l with
  | nil => rfl
  | cons a r ih =>
    cases r with
    | nil => rfl
    | cons b r =>
      have e:(a :: b :: r).length - 1 = ((b :: r).length - 1) + 1:=by
        have h1:(a :: b :: r).length = r.length + 2:=rfl
        have h2:(b :: r).length = r.length + 1:=rfl
        omega
      rw [e,List.eraseIdx_cons_succ,ih]
      all_goals rfl
theorem foldl_rep (its:List Value):∀ (k:Nat) (acc:List Value),
    List.foldl (fun x1 x2 => x1 ++ x2) acc.toArray (List.replicate k its.toArray) = (acc ++ (List.replicate k its).flatten).toArray
  | 0,acc => by simp
  | k + 1,acc => by
    have e:acc.toArray ++ its.toArray = (acc ++ its).toArray:=by simp
    have e2:(acc ++ its) ++ (List.replicate k its).flatten = acc ++ (List.replicate (k + 1) its).flatten:=by
      rw [List.replicate_succ,List.flatten_cons,List.append_assoc]
    rw [← e2,← foldl_rep its k (acc ++ its),← e,List.replicate_succ,List.foldl_cons]
section
variable {X:Cx} {pins:List (Addr × Obj)} {σ:St} {H:Hp} {s:Shared} {l b:Addr} {xs ys zs:List V}
theorem Inv.lset {its its':List Value} {n:Nat} {f:Array Value → Array Value} {t':Nat} (I:Inv X pins σ H s) (hH:H l = some (.lst xs))
    (e:s.heap.get? l = some { cls:=.type "list",data:=.seq its.toArray n }) (hf:f its.toArray = its'.toArray) (hv:Vals ys its') (hz:ys.length ≤ sizeLine) :
    Inv X pins σ (upd H l (.lst ys)) { s with heap:=s.heap.update l (Obj.mapSeq f),toks:=t' }:=by
  have q:=PySem.IsL.update e f
  rw [hf] at q
  refine I.write (x:=l) (e:=l) (by rw [hH]; exact trivial) (.inl rfl) (fun b' u hb hu => (Heap.get?_update_other s.heap (Obj.mapSeq f) (Ne.symm hb)).trans hu) ⟨_,q⟩ ?_
  exact ⟨hz,its',_,hv,q⟩
theorem Inv.lnew {its:List Value} {t':Nat} (I:Inv X pins σ H s) (hv:Vals ys its) (hz:ys.length ≤ sizeLine) :
    Inv X pins σ (upd H s.heap.objs.size (.lst ys)) { s with heap:=s.heap.push { cls:=.type "list",data:=.seq its.toArray },toks:=t' } :=
  I.laid (fun _ _ q => Heap.get?_push_of_some _ q) (Nat.le_refl _) ⟨hz,its,0,hv,Heap.get?_push_size _ rfl⟩
theorem Inv.fresh (I:Inv X pins σ H s):H s.heap.objs.size = none:=I.hok.fresh (Nat.le_refl _)
theorem Inv.lstM (I:Inv X pins σ H s) (hH:H l = some (.lst xs)):xs.length ≤ sizeLine ∧ ∃ (its:List Value) (n:Nat),Vals xs its ∧ xs.length = its.length ∧ s.heap.get? l = some { cls:=.type "list",data:=.seq its.toArray n }:=by
  obtain ⟨z,its,n,r,e⟩:=I.hok l _ hH
  exact ⟨z,its,n,r,r.length,e⟩
theorem notLongL {n:Nat} (h:n ≤ sizeLine):Builtin.List.listTooLong n = false:=by
  unfold Builtin.List.listTooLong
  exact decide_eq_false (by omega)
end
section
variable {X:Cx}
noncomputable def rAppend:V → List V → Hp → VK → Prop:=fun x vs H Q => ∃ l xs y,x = .ref l ∧ vs = [y] ∧ H l = some (.lst xs) ∧ xs.length < sizeLine ∧ Q .non (upd H l (.lst (xs ++ [y])))
theorem mt_append:MtM X "list.append" rAppend:=by
  intro pins s σ H x vs v us Q I rx rv h
  obtain ⟨l,xs,y,rfl,rfl,hH,hz,q⟩:=h
  cases rx
  obtain ⟨u,rfl,ru⟩:=rv.one
  obtain ⟨z,its,n,r,hl,e⟩:=I.lstM hH
  refine call_meets F.slot_list_append ⟨_,e,rfl⟩ F.entry_list_append (F.args_list_append_2 _ _) (PySem.list_append l its.toArray n u (by rw [List.size_toArray]; omega)) ⟨e,?_⟩
  refine ⟨.non,_,I.lset (its':=its ++ [u]) hH e (by simp) (r.append (.cons ru .nil)) ?_,rfl,q⟩
  rw [List.length_append,List.length_singleton]
  omega
noncomputable def rExtend:V → List V → Hp → VK → Prop:=fun x vs H Q => ∃ l b xs zs,x = .ref l ∧ vs = [.ref b] ∧ H l = some (.lst xs) ∧ H b = some (.lst zs) ∧ xs.length + zs.length ≤ sizeLine ∧ Q .non (upd H l (.lst (xs ++ zs)))
theorem mt_extend:MtM X "list.extend" rExtend:=by
  intro pins s σ H x vs v us Q I rx rv h
  obtain ⟨l,b,xs,zs,rfl,rfl,hH,hB,hz,q⟩:=h
  cases rx
  obtain ⟨u,rfl,ru⟩:=rv.one
  cases ru
  obtain ⟨z,its,n,r,hl,e⟩:=I.lstM hH
  obtain ⟨z2,its2,n2,r2,hl2,e2⟩:=I.lstM hB
  have hsz:its.toArray.size + its2.toArray.size ≤ sizeLine:=by rw [List.size_toArray,List.size_toArray]; omega
  have hlong:¬ (!its.toArray.isEmpty && Builtin.List.listTooLong (its.toArray.size + its2.toArray.size)) = true:=by
    rw [notLongL hsz,Bool.and_false]
    exact Bool.false_ne_true
  refine call_meets F.slot_list_extend ⟨_,e,rfl⟩ F.entry_list_extend (F.args_list_extend_2 _ _)
    (AutoSeq1.list_extend_list_list_0 l its.toArray n b its2.toArray n2 hlong (by rw [List.size_toArray]; omega) (by omega)) ⟨e,e2,?_⟩
  refine ⟨.non,_,I.lset (its':=its ++ its2) hH e (by simp) (r.append r2) ?_,rfl,q⟩
  rw [List.length_append]
  omega
noncomputable def rPop:V → List V → Hp → VK → Prop:=fun x vs H Q => ∃ l xs y,x = .ref l ∧ vs = [] ∧ H l = some (.lst xs) ∧ xs[xs.length - 1]? = some y ∧ Q y (upd H l (.lst xs.dropLast))
theorem mt_pop:MtM X "list.pop" rPop:=by
  intro pins s σ H x vs v us Q I rx rv h
  obtain ⟨l,xs,y,rfl,rfl,hH,hy,q⟩:=h
  cases rx
  have hus:=rv.zero
  subst hus
  obtain ⟨z,its,n,r,hl,e⟩:=I.lstM hH
  obtain ⟨u,hu,ru⟩:=r.get hy
  have hy':its.toArray[its.toArray.size - 1]? = some u:=by
    show its.toArray[its.length - 1]? = some u
    rw [← Array.getElem?_toList,← hl]
    exact hu
  refine call_meets F.slot_list_pop ⟨_,e,rfl⟩ F.entry_list_pop (F.args_list_pop_1 _) (MeetsSeq.list_pop_last l its.toArray n u hy' (by rw [List.size_toArray]; omega)) ⟨e,?_⟩
  refine ⟨y,_,I.lset (its':=its.dropLast) hH e ?_ r.dropLast ?_,ru,q⟩
  · show its.toArray.eraseIdxIfInBounds (its.toArray.size - 1) = its.dropLast.toArray
    rw [List.size_toArray,List.eraseIdxIfInBounds_toArray,erase_last]
  · rw [List.length_dropLast]
    omega
noncomputable def rRep:R2:=fun x y H Q => ∃ l k xs,x = .ref l ∧ y = .int k ∧ H l = some (.lst xs) ∧ -(2 ^ 63) ≤ k ∧ k < 2 ^ 63 ∧ xs.length * k.toNat ≤ sizeLine ∧
  ∀ p,H p = none → Q (.ref p) (upd H p (.lst (List.replicate k.toNat xs).flatten))
theorem len_rep {α:Type} (xs:List α) (k:Nat):(List.replicate k xs).flatten.length = k * xs.length:=by
  induction k with
  | zero => simp
  | succ k ih => rw [List.replicate_succ,List.flatten_cons,List.length_append,ih,Nat.succ_mul,Nat.add_comm]
theorem op_rep:OpR X (binaryOp .Mult) rRep:=by
  intro pins s σ H x y v u Q I rx ry h
  obtain ⟨l,k,xs,rfl,rfl,hH,h1,h2,hz,q⟩:=h
  cases rx
  obtain ⟨t,rfl⟩:=ry
  obtain ⟨z,its,n,r,hl,e⟩:=I.lstM hH
  have hlen:its.toArray.size * k.toNat ≤ sizeLine:=by rw [List.size_toArray,← hl]; exact hz
  have hcap:¬ its.toArray.size * k.toNat > (2 ^ 63 - 1) / 8:=by
    have:(sizeLine:Nat) ≤ (2 ^ 63 - 1) / 8:=by decide
    omega
  have hfit:¬ (!Builtin.List.listFitsIndex k) = true:=by
    rw [fitsIndex_both h1 h2]
    exact Bool.false_ne_true
  have hlong:¬ Builtin.List.listTooLong (its.toArray.size * k.toNat) = true:=by
    rw [notLongL hlen]
    exact Bool.false_ne_true
  have hnew:List.foldl (fun x1 x2 => x1 ++ x2) #[] (List.replicate (if its.toArray.isEmpty = true then 0 else k.toNat) its.toArray) = (List.replicate k.toNat its).flatten.toArray:=by
    have f0:∀ m:Nat,List.foldl (fun x1 x2 => x1 ++ x2) #[] (List.replicate m its.toArray) = (List.replicate m its).flatten.toArray:=fun m => by
      have:=foldl_rep its m []
      rw [List.nil_append] at this
      exact this
    rw [f0]
    cases its with
    | nil => simp
    | cons a r' => rw [if_neg (by simp)]
  refine wpAny_binaryOp_repeat_ref (T:="list") (U:="int") (by decide) ⟨_,e,rfl⟩ (fun s' => typeIs_int s' k t) noFill_list_mul F.fills_int_mul F.slot_int_rmul repeat_list F.slot_int_index.lookup
    (call_meets F.slot_int_rmul (typeIs_int s k t) F.entry_int_rmul (F.args_int_rmul_2 _ _) (int___rmul___int_list k t l its.toArray n)
      ⟨e,rfl,⟨_,e,rfl⟩,call_meets F.slot_list_mul ⟨_,e,rfl⟩ F.entry_list_mul (F.args_list_mul_2 _ _) (AutoListH.list___mul___list_int_3 l its.toArray n k t hfit hcap hlong) ⟨e,?_⟩⟩)
  rw [hnew]
  exact ⟨.ref _,_,I.lnew (t':=s.toks) (r.rep k.toNat) (by rw [len_rep,Nat.mul_comm]; exact hz),rfl,q _ I.fresh⟩
end
section
variable {prog:Program} {w:World} {A:Around} {E:Value → Shared → Prop} {s:Shared}
end
section
variable {X:Cx}
end
end L2
namespace L2
open PySem PySem.Spec PyProof.Rows
section
variable {κ:Type} [DecidableEq κ]
noncomputable def valV (kvs:List (κ × V)) (k:κ):Option V:=(kvs.find? fun kv => decide (kv.1 = k)).map (·.2)
theorem valV_pos {p:κ × V} {r:List (κ × V)} {k:κ} (e:p.1 = k):valV (p :: r) k = some p.2:=by simp [valV,List.find?_cons,e]
theorem valV_neg {p:κ × V} {r:List (κ × V)} {k:κ} (e:¬ p.1 = k):valV (p :: r) k = valV r k:=by simp [valV,List.find?_cons,e]
theorem RelO.isSome_eq {o:Option V} {u:Option Value} (r:RelO o u):o.isSome = u.isSome:=by
  cases o with
  | none => cases u with
    | none => rfl
    | some _ => exact (show False from r).elim
  | some _ => cases u with
    | none => exact (show False from r).elim
    | some _ => rfl
theorem KV.val {kvs:List (κ × V)} {vs:List (κ × Value)} (r:KV kvs vs) (k:κ):RelO (valV kvs k) (valueAt vs k):=by
  unfold KV at r
  induction r with
  | nil => exact True.intro
  | @cons p q ps qs h t ih =>
    obtain ⟨h1,h2⟩:=h
    by_cases e:p.1 = k
    · have e':q.1 = k:=h1.symm.trans e
      have b:valueAt (q :: qs) k = some q.2:=by simp [valueAt,List.find?_cons,e']
      rw [valV_pos e,b]; exact h2
    · have e':¬ q.1 = k:=fun z => e (h1.trans z)
      have b:valueAt (q :: qs) k = valueAt qs k:=by simp [valueAt,List.find?_cons,e']
      rw [valV_neg e,b]; exact ih
end
theorem kV_is {P:Program} {w:World} {k:Key} {u:Value} (r:RelV (kV k) u):(mixKind P w).is k u = true:=by
  cases k with
  | inl i => obtain ⟨t,e⟩:=(show ∃ t,u = Value.int i t from r); subst e; exact mixKind_int P w i t
  | inr x => obtain ⟨t,e⟩:=(show ∃ t,u = Value.str x t from r); subst e; exact mixKind_str P w x t
section
variable {P:Program} {w:World} {H:Hp} {h:Heap} {a:Addr}
end
section
variable {X:Cx} {pins:List (Addr × Obj)} {σ:St} {H:Hp} {s:Shared} {a:Addr} {y v:V} {u r:Value} {o:Option V} {A:Around} {E:Value → Shared → Prop}
end
section
variable {X:Cx} {pins:List (Addr × Obj)} {σ:St} {H:Hp} {s:Shared} {a:Addr} {kvs:List (Key × V)} {k:Key} {u:Value} {A:Around} {E:Value → Shared → Prop}
end
noncomputable def NoSl (i:Expr):Prop:=∀ ov iv,subscripted i false ov iv = operate [ov,iv] (getItem ov iv)
theorem subD_of {prog:Program} {w:World} {A:Around} {E:Value → Shared → Prop} {s:Shared} {env:Env} {value slice:Expr} {pos:Pos} {T id:String} {Q:Value → Shared → Prop}
    (hl:typeLookup (.type T) "__getitem__" = pure (some (.builtin id))) (hs:NoSl slice)
    (h:wpAny (model prog w) A (eval value env) (fun o s₁ => wpAny (model prog w) A (eval slice env) (fun i s₂ => s₂.TypeIs o T ∧ wpAny (model prog w) A (getItem o i) Q E s₂) E s₁) E s) :
    wpAny (model prog w) A (eval (.Subscript value slice pos) env) Q E s:=by
  refine Subscript_ (wpAny_mono h (fun o s₁ h₁ => wpAny_mono h₁ (fun i s₂ h₂ => ?_) fun _ _ x => x) fun _ _ x => x)
  obtain ⟨hT,h₂⟩:=h₂
  unfold subscriptTail
  refine wpAny_bind ?_
  rw [getitemInPython_of_ne hT.not_modules]
  refine wpAny_bind (wpAny_specialOf hT hl ?_)
  have fin:wpAny (model prog w) A (subscripted slice false o i) (fun r s₃ => wpAny (model prog w) A (letTemporaryGo value o r >>= fun _ => pure r) Q E s₃) E s₂:=by
    rw [hs o i]
    exact wpAny_operating (wpAny_mono h₂ (fun r s₃ h₃ => wpAny_bind (wpAny_letTemporaryGo (wpAny_pure h₃))) fun _ _ x => x)
  first
    | exact wpAny_pure (wpAny_bind fin)
    | exact wpAny_bind (wpAny_pure (wpAny_bind fin))
    | exact wpAny_bind fin
section
variable {X:Cx} {o i e value:Expr} {pos pos' tpos:Pos} {td ty tv:TE}
end
section
variable {X:Cx} {pos:Pos}
end
structure M1 (X:Cx) (o:Expr) (m:Str) (apos:Pos) (e:Expr) (cpos:Pos):Prop where
  base:attributeBase o m X.env (eval o X.env) = eval o X.env
  few:((backTo cpos (starEach [e] X.env)).all (fun x => !x.1) && (backToKw cpos (keywordEach [] X.env)).all (fun x => x.1.isSome)
    && decide (([e]:List Expr).length + ([]:List Keyword).length + (if ([]:List Keyword).isEmpty then 0 else 1) < 30)) = true
  line:(apos.endLine == cpos.line) = true
  trees:backTo cpos (starEach [e] X.env) = [(false,eval e X.env)]
structure M2 (X:Cx) (o:Expr) (m:Str) (apos:Pos) (e f:Expr) (cpos:Pos):Prop where
  base:attributeBase o m X.env (eval o X.env) = eval o X.env
  few:((backTo cpos (starEach [e,f] X.env)).all (fun x => !x.1) && (backToKw cpos (keywordEach [] X.env)).all (fun x => x.1.isSome)
    && decide (([e,f]:List Expr).length + ([]:List Keyword).length + (if ([]:List Keyword).isEmpty then 0 else 1) < 30)) = true
  line:(apos.endLine == cpos.line) = true
  trees:backTo cpos (starEach [e,f] X.env) = [(false,eval e X.env),(false,eval f X.env)]
section
variable {X:Cx} {pins:List (Addr × Obj)} {σ:St} {H:Hp} {s:Shared} {a:Addr} {y d:V} {u r:Value} {o:Option V} {A:Around} {E:Value → Shared → Prop}
end
section
variable {X:Cx} {o e f:Expr} {apos cpos:Pos} {td ty tx:TE}
end
section
variable {X:Cx} {pins:List (Addr × Obj)} {σ:St} {H:Hp} {s:Shared} {a:Addr} {kvs:List (Key × V)} {A:Around} {E:Value → Shared → Prop}
end
section
variable {X:Cx} {pins:List (Addr × Obj)} {σ:St} {H:Hp} {s:Shared} {a:Addr} {y:V} {u:Value} {A:Around} {E:Value → Shared → Prop}
end
end L2
namespace Att
open PySem PySem.W PySem.Calls PyProof.Rows
theorem ints_of_wellAll {P:Params} {h:Heap}:∀ (ns:List Int) (vs:List Value),WellAll P h vs (ns.map WData.int) → IntsAre vs ns:=by
  intro ns
  induction ns with
  | nil =>
    intro vs w
    rw [List.map_nil] at w
    cases w
    exact .nil
  | cons n ns ih =>
    intro vs w
    rw [List.map_cons] at w
    cases w with
    | cons a b =>
      cases a
      exact .cons _ _ (ih _ b)
theorem script_of {l:OpenLaw} {n:Nat} (hn:l.most = some n) {P:Params} {h:Heap} {args:List WData} {vals:List Value}
    (hpre:l.row.toRowW.claim.pre args = true) (hwl:WellAll P h vals args) :
    ∃ a vs ns,vals = [Value.ref a] ∧ args = [WData.list (ns.map WData.int)] ∧ h.get? a = some { cls:=.type "list",data:=.seq vs.toArray } ∧ IntsAre vs ns ∧ ns.length ≤ n:=by
  have hsh:WShape.hasAll [] args [.list .int] = true:=(pre_splitW hpre).1
  have hc:l.pre.holds [] { args:=args } = true:=(pre_splitW hpre).2
  obtain ⟨d,r,rfl,h1,h2⟩:=hasAllW_cons hsh
  obtain rfl:=hasAllW_nil h2
  obtain ⟨xs,rfl,h3⟩:=hasW_list h1
  obtain ⟨ns,rfl⟩:=items_int h3
  have hlen:ns.length ≤ n:=by
    unfold OpenLaw.pre at hc
    have h4:(WTm.not (.lt (.lit (.int (n:Int))) (.len (.arg 0)))).holds [] { args:=[.list (ns.map .int)] } = true:=by
      have h4:=(holds_andW hc).1
      rw [hn] at h4
      exact h4
    have h5:=condW_of h4 (w_not (w_lt w_lit (w_len_list (w_arg rfl))))
    rw [List.length_map] at h5
    refine Nat.le_of_not_lt fun q => ?_
    have q':(n:Int) < ((ns.length:Nat):Int):=by omega
    first
      | (rw [decide_eq_true q'] at h5; exact absurd h5 (by decide))
      | (simp at h5; omega)
  cases hwl with
  | cons w1 w2 =>
    cases w2
    cases w1 with
    | list ho hall => exact ⟨_,_,ns,rfl,rfl,ho,ints_of_wellAll ns _ hall,hlen⟩
theorem post_true (l:OpenLaw) (args:List WData):l.row.toRowW.claim.post args (.bool true) args = true :=
  postW_of (r:=l.row.toRowW) (X:=(true == true))
    (show WShape.has [] (.bool true) .bool = true by first | rfl | decide | simp [WShape.has,WShape.arms,WShape.armsAll])
    (show (WTm.eq .res (.lit (.bool true))).value [] { args:=args,res:=some (.bool true),after:=args } = some (.bool (true == true)) from w_eq_bool (w_res rfl) w_lit) rfl
theorem attach_call {l:OpenLaw} {n:Nat} {q:Program} {loose:List Str} {XP:(Str → Option Value) → Heap → Prop} {YP:World → Heap → Prop} {d:DefRec}
    (hn:l.most = some n) (hdf:d.params.defaults = [])
    (call:∀ (w:World) (s₀ s₁:Shared) (mg mb:Str → Option Value) (fa:Addr) (o:Obj) (pm cd doc:Value) (a:Addr) (vs:List Value) (ns:List Int),
      Ground q loose [] XP w s₀ mg mb s₁.heap → YP w s₁.heap →
      s₁.heap.get? fa = some o → o.data = .func (docDef d.name d.params d.body d.scope pm cd doc) → s₁.heap.CodeRec cd d.name → mg d.name = some (.ref fa) →
      s₁.heap.get? a = some { cls:=.type "list",data:=.seq vs.toArray } → IntsAre vs ns → ns.length ≤ n → s₁.gens = #[] →
      codeAny (model l.prog w) callerA (.call (.ref fa) ⟨[.ref a],[]⟩) (fun r s' => r = .ok (.ret (.bool true)) ∧ OldK s₁.heap s'.heap ∧ s'.os = s₁.os ∧ AllBare s'.gens) s₁) :
    WalkO q loose XP YP l.row.toRowW d [] (fun f vs => PySem.call f vs):=by
  intro w s₀ s₁ mg mb G Y fa o pm cd doc dV kV ho hd hcd hD hmg hg args vals as hpre hlay hrd hwl hlo
  obtain rfl:dV = .none:=Dflts.none hD hdf
  obtain rfl:kV = .none:=Dflts.noKw hD
  obtain ⟨a,vs,ns,rfl,rfl,hobj,hints,hlen⟩:=script_of hn hpre hwl
  refine enter_call (codeAny_mono (call w s₀ s₁ mg mb fa o pm cd doc a vs ns G Y ho (fd_plain hd) hcd hmg hobj hints hlen hg) fun r s' hq => ?_)
  obtain ⟨rfl,h2,h3,h4⟩:=hq
  exact ⟨.inl ⟨.bool true,.bool true,[],rfl,fun _ => rfl,.bool true,post_true l _,fun _ => ⟨List.Pairwise.nil,fun _ hm => (nomatch hm)⟩⟩,h2,h3,h4⟩
section
variable {prog:Program} {w:World} {A:Around} {E:Value → Shared → Prop} {s:Shared} {K:Frag}
noncomputable def ledger (h:Heap) (L d:Addr):List (Addr × Obj):=(List.range h.objs.size).filterMap fun a => if a = L ∨ a = d then none else (h.get? a).map fun o => (a,o)
end
end Att
namespace L2
open PySem PySem.Spec PyProof.Rows
theorem vals_ints:∀ {vs:List Value} {ns:List Int},IntsAre vs ns → Vals (ns.map V.int) vs
  | _,_,.nil => .nil
  | _,_,.cons n t h => .cons ⟨t,rfl⟩ (vals_ints h)
noncomputable def Only (H:Hp):Prop:=∀ b,H b = none ∨ ∃ o xs,H b = some (.frz o (.lst xs))
theorem law_call {P:Program} {w:World} {K:PySem.W.Frag} {mg mb:Str → Option Value} {CX:CXT} {k:Nat} {fa a:Addr} {fd:FuncData} {x:Str} {sp:Sp} {s₁:Shared} {vs:List Value} {ns:List Int}
    (KX:K.In s₁.heap) (hns:s₁.heap.Ns mainGlobals mg) (hb:s₁.heap.Ns builtinsNs mb) (hbb:∀ x:Str,x ≠ "__name__" → mb x = bootBuiltins x) (hlim:s₁.heap.NoLimit) (hg:s₁.gens = #[])
    (ha:s₁.heap.get? a = some { cls:=.type "list",data:=.seq vs.toArray }) (hi:IntsAre vs ns) (hl:ns.length ≤ sizeLine) (hr:Room k callerA)
    (F:∀ base:Heap,K.In base → base.Ns mainGlobals mg → FnOk P w K mg base CX k fa fd [x] sp) (hbind:∀ (s:Shared) (u:Value),BindsTo s fd ⟨[u],[]⟩ [(x,u)])
    (hsp:∀ H:Hp,Only H → SqL K H a (ns.map V.int) → sp [.ref a] H (fun v _ => v = .bl true) fun _ _ _ => False)
    (hCX:∀ H e s',CX [] H s₁ (fun _ _ _ => False) e s' → False) :
    codeAny (model P w) callerA (.call (.ref fa) ⟨[.ref a],[]⟩) (fun r s' => r = .ok (.ret (.bool true)) ∧ OldK s₁.heap s'.heap ∧ s'.os = s₁.os ∧ AllBare s'.gens) s₁:=by
  have rv:=vals_ints hi
  have lenV:=hi.length
  have core:∀ H:Hp,Only H → SqL K H a (ns.map V.int) → HOk P w H s₁.heap → (∀ b,H b ≠ none → b = a) → (H a ≠ none → K.lookup a = none) →
      codeAny (model P w) callerA (.call (.ref fa) ⟨[.ref a],[]⟩) (fun r s' => r = .ok (.ret (.bool true)) ∧ OldK s₁.heap s'.heap ∧ s'.os = s₁.os ∧ AllBare s'.gens) s₁:=by
    intro H hO hS hok hA hK
    have base_of:∀ {b:Addr} {o:Obj},s₁.heap.get? b = some o → H b = none → (hidT s₁.heap H).get? b = some o:=fun e n => hidT_get e n
    have noA:∀ {b:Addr} {o:Obj} {es:Array DictEntry} {ep:Nat},s₁.heap.get? b = some o → o.data = .dict es ep → H b = none:=fun {b o es ep} e d => by
      cases q:H b with
      | none => rfl
      | some u =>
        have e':b = a:=hA b (by rw [q]; simp)
        subst e'
        rw [ha] at e; cases e
        have d':Data.seq vs.toArray _ = Data.dict es ep:=d
        cases d'
    have nsK:∀ {b:Addr} {m:Str → Option Value},s₁.heap.Ns b m → (hidT s₁.heap H).Ns b m:=fun {b m} ⟨o,es,ep,e,d,r⟩ => ⟨o,es,ep,base_of e (noA e d),d,r⟩
    have hKb:K.In (hidT s₁.heap H):=fun b o e => base_of (KX b o e) (by
      cases q:H b with
      | none => rfl
      | some u =>
        have e':b = a:=hA b (by rw [q]; simp)
        subst e'
        rw [hK (by rw [q]; simp)] at e; cases e)
    have hM:Mod K mg (hidT s₁.heap H):=⟨hKb,nsK hns,⟨mb,nsK hb,hbb⟩,let ⟨mc,h1,h2⟩:=hlim; ⟨mc,nsK h1,h2⟩⟩
    have e0:Env0 P w K mg (hidT s₁.heap H) callerA [] s₁ H:=⟨rfl,hM,fun b o e => of_hidT e,Nat.le_of_eq (hidT_size _ _),trivial,fun b hb => absurd (show b ∈ ([]:List Addr) from hb) (by simp),hok,.of_eq hg⟩
    refine codeAny_mono ((F _ hKb (nsK hns)).run callerA [] s₁ H ⟨[.ref a],[]⟩ [.ref a] [.ref a] _ _ hr e0 (hbind s₁ (.ref a)) (.cons rfl .nil) (hsp H hO hS)) fun r s' h => ?_
    cases r with
    | error e => exact (hCX H e s' h).elim
    | ok fl =>
      cases fl with
      | next => exact False.elim h
      | brk => exact False.elim h
      | cont => exact False.elim h
      | ret u =>
        obtain ⟨v,H',os,bare,un,hok',r',q⟩:=h
        have q':v = .bl true:=q
        subst q'
        obtain rfl:u = Value.bool true:=r'
        refine ⟨rfl,OldK.of_keep fun b o e => ?_,os,bare⟩
        cases q:H b with
        | none => exact un.keep b o e q (by intro z; exact absurd (show b ∈ ([]:List Addr) from z) (by simp)) (by simp)
        | some u =>
          rcases hO b with z | ⟨ob,xs,z⟩
          · rw [q] at z; cases z
          · have z2:=un.frzs b ob _ z
            obtain ⟨e1,_⟩:=hok b _ z
            obtain ⟨e2,_⟩:=hok' b _ z2
            rw [e] at e1; cases e1
            exact e2
  cases hk:K.lookup a with
  | some o =>
    have e:=KX a o hk
    rw [ha] at e
    cases e
    refine core (fun _ => none) (fun _ => .inl rfl) (.inr ⟨_,vs.toArray,_,hk,rfl,rfl,rfl,by rw [List.size_toArray,lenV]; exact hl,by simpa using rv⟩) (fun b u z => by have z':(none:Option HO) = some u:=z; cases z') (fun b z => absurd rfl z) fun z => absurd rfl z
  | none =>
    refine core (fun b => if b = a then some (.frz { cls:=.type "list",data:=.seq vs.toArray } (.lst (ns.map V.int))) else none) (fun b => ?_) (.inl (.inr ⟨{ cls:=.type "list",data:=.seq vs.toArray },if_pos rfl⟩)) (fun b u z => ?_) (fun b z => ?_) fun _ => hk
    · by_cases hb:b = a
      · exact .inr ⟨_,_,if_pos hb⟩
      · exact .inl (if_neg hb)
    · by_cases hb:b = a
      · have z':=(if_pos hb).symm.trans z
        cases z'
        subst hb
        exact ⟨ha,by rw [List.length_map]; exact hl,vs,_,rv,ha⟩
      · have z':=(if_neg hb).symm.trans z
        cases z'
    · by_cases hb:b = a
      · exact hb
      · exact absurd (if_neg hb) z
end L2
namespace L2
open PySem PySem.Spec PyProof.Rows
noncomputable abbrev KOf {K:PySem.W.Frag} {h:Heap} (_:K.In h):PySem.W.Frag:=K
theorem walk_of {l:PySem.W.OpenLaw} {n k:Nat} {q:Program} {loose:List Str} {XP:(Str → Option Value) → Heap → Prop} {YP:World → Heap → Prop} {d:DefRec} {K:Params → PySem.W.Frag} {CX:World → CXT} {sp:World → Sp} {x:Str}
    (hn:l.most = some n) (hn2:n ≤ sizeLine) (hdf:d.params.defaults = []) (hr:Room k callerA)
    (hY:∀ (w:World) (h:Heap),YP w h → (K w.params).In h)
    (F:∀ (w:World) (mg:Str → Option Value) (fa:Addr) (h:Heap),(K w.params).In h → h.Ns mainGlobals mg → mg d.name = some (.ref fa) →
      ∃ fd:FuncData,(∀ (s:Shared) (u:Value),BindsTo s fd ⟨[u],[]⟩ [(x,u)]) ∧
        ∀ base:Heap,(K w.params).In base → base.Ns mainGlobals mg → FnOk l.prog w (K w.params) mg base (CX w) k fa fd [x] (sp w))
    (hsp:∀ (w:World) (H:Hp) (a:Addr) (ns:List Int),ns.length ≤ n → Only H → SqL (K w.params) H a (ns.map V.int) → sp w [.ref a] H (fun v _ => v = .bl true) fun _ _ _ => False)
    (hCX:∀ (w:World) (H:Hp) (s:Shared) (e:Value) (s':Shared),CX w [] H s (fun _ _ _ => False) e s' → False) :
    PySem.W.WalkO q loose XP YP l.row.toRowW d [] (fun f vs => PySem.call f vs):=by
  refine Att.attach_call hn hdf fun w s₀ s₁ mg mb fa o pm cd doc a vs ns G Y ho hd hcd hmg hobj hints hlen hg => ?_
  have KX:=hY w _ Y
  obtain ⟨fd,hb,hF⟩:=F w mg fa _ KX G.T.g hmg
  exact law_call KX G.T.g G.T.b G.T.builtins G.T.nolimit hg hobj hints (Nat.le_trans hlen hn2) hr hF hb (fun H hO hS => hsp w H a ns hlen hO hS) fun H e s' => hCX w H s₁ e s'
end L2
/- THE LAST THEOREM (shape; LID,My.* are yours):
   My.Adr: a structure of the addresses that your layer names (classes,functions); My.Txt K t: a structure (Prop) of the equations over K;
   My.txt_mk:{K} {implicit addresses ..} (e1:nsIn K mainGlobals "law" = some (some (.ref f))) (e2:K.lookup f = some ⟨oc,od,.func (fnOf "law" "law" params body scope dV kV doc pm an cdv ct),sl⟩) (e3:codeIn K cdv "law" = true) ..:∃ t,My.Txt K t
set_option maxRecDepth 100000 in
set_option maxHeartbeats 0 in
theorem PySem.Challenge.cw_LID_holds : PySem.Challenge.rw_LID.Holds := by
  w_on; o_law; k_head; (case hw => w_witness2)
  k_fill
  refine L2.walk_of (l:=PySem.Challenge.rw_LID) (n:=63) (k:=40) (x:="script") (CX:=fun w => ..) (sp:=fun _ => My.sp_law) rfl (by decide) rfl ⟨rfl,by decide,by decide⟩ (fun w h Y => PySem.W.kIn_of Y) ?F ?S ?C
  case F =>
    intro w mg fa h KX G hmg
    have T:∃ t,My.Txt (L2.KOf KX) t:=by
      dsimp only [L2.KOf]                          -- K must stand as «<heap const> w.params» for k_is
      refine' My.txt_mk ?e1 ?e2 ?e3 ..
      (case e1 => PySem.W.k_is)                    -- in the order: a name -> its address -> its object -> its parts
      (case e2 => PySem.W.k_is)
      ..
    obtain ⟨t,T⟩:=T
    have e0:=hmg.symm.trans (PySem.W.mg_of KX G T.law)
    cases e0                                       -- fa is the law's own address
    exact ⟨_,fun s u => .of_eq rfl,fun base kb nb => My.law_fn T kb nb⟩     -- if «.of_eq rfl» comes too early: refine' ⟨_,?b,fun base kb nb => My.law_fn T kb nb⟩; exact fun s u => .of_eq rfl
  case S => exact fun w H a ns hl hO hS => ..
  case C => exact ..
(the tactic k_is has no namespace: write k_is) -/
namespace L2
open PySem PySem.Spec PyProof.Rows
noncomputable def defArgs (s:Stmt):Arguments:=match s with
  | .FunctionDef _ a _ _ _ _ _ _ _ _ => a
  | _ => { posonlyargs:=[],args:=[],vararg:=none,kwonlyargs:=[],kw_defaults:=[],kwarg:=none,defaults:=[] }
noncomputable def defBody (s:Stmt):List Stmt:=match s with
  | .FunctionDef _ _ b _ _ _ _ _ _ _ => b
  | _ => []
noncomputable def defScope (s:Stmt):Scope:=match s with
  | .FunctionDef _ _ _ _ _ _ sc _ _ _ => sc
  | _ => { kind:=.function,names:=[],isGenerator:=false,isCoroutine:=false }
noncomputable abbrev CX0:CXT:=fun _ _ _ _ _ _ => False
noncomputable abbrev E0:XK:=fun _ _ _ => False
theorem pass0 {X:Cx}:Passes CX0 X E0:=fun _ _ _ _ _ _ _ h => h.elim
structure Fun (K:PySem.W.Frag) (x qual:Str) (st:Stmt) (f:Addr) (fd:FuncData):Prop where
  ex:∃ (oc:Value) (od:Option Addr) (kV doc pm:Value) (an:Option Addr) (cdv ct:Value) (osl:Array (Option Value)),
    fd = PySem.W.fnOf x qual (defArgs st) (defBody st) (defScope st) .none kV doc pm an cdv ct ∧ K.lookup f = some ⟨oc,od,.func fd,osl⟩ ∧ PySem.W.codeIn K cdv qual = true
  kp:PySem.W.keepIn K (.ref f) = true
section
variable {P:Program} {w:World} {K:PySem.W.Frag} {mg:Str → Option Value} {base:Heap}
theorem Fun.ok {x qual:Str} {st:Stmt} {f:Addr} {fd:FuncData} {N ps:List Str} {k:Nat} {sp:Sp} (F:Fun K x qual st f fd) (S:FnScope N ps (defScope st)) (len:∀ vs H Q E,sp vs H Q E → vs.length = ps.length)
    (hbody:∀ (cdv:Value) (A:Around) (outer:List Env) (s:Shared) (H:Hp) (vs:List V) (Q:VK) (E:XK),Room k (A.deeper (envOfC qual (defScope st) s.heap.objs.size f cdv)) → sp vs H Q E →
      ∃ t,PSs (cxOf CX0 P w K mg base N qual (defScope st) f cdv A outer s H E).nox (defBody st) t ∧ t { nx:=fun _ H' => Q .non H',rt:=Q } (start N vs) H):FnOk P w K mg base CX0 (k + 1) f fd ps sp:=by
  obtain ⟨oc,od,kV,doc,pm,an,cdv,ct,osl,rfl,lk,hcd⟩:=F.ex
  refine fn_of lk hcd S len fun A outer s H vs Q E hr hsp => ?_
  obtain ⟨t,h,q⟩:=hbody cdv A outer s H vs Q E hr hsp
  exact ⟨t,h.nox,q⟩
theorem Fun.binds {x qual:Str} {st:Stmt} {f:Addr} {fd:FuncData} {ps:List Str} (F:Fun K x qual st f fd)
    (h:∀ (kV doc pm:Value) (an:Option Addr) (cdv ct:Value) (us:List Value),us.length = ps.length → bindArgs (PySem.W.fnOf x qual (defArgs st) (defBody st) (defScope st) .none kV doc pm an cdv ct) ⟨us,[]⟩ = pure (ps.zip us)):Binds K fd ps []:=by
  obtain ⟨oc,od,kV,doc,pm,an,cdv,ct,osl,rfl,lk,hcd⟩:=F.ex
  exact .all (h kV doc pm an cdv ct)
theorem fun_mk {x qual:Str} {st:Stmt} {f:Addr} {oc:Value} {od an:Option Addr} {osl:Array (Option Value)} {kV doc pm cdv ct:Value} (l:K.lookup f = some ⟨oc,od,.func (PySem.W.fnOf x qual (defArgs st) (defBody st) (defScope st) .none kV doc pm an cdv ct),osl⟩)
    (c:PySem.W.codeIn K cdv qual = true) (k:PySem.W.keepIn K (.ref f) = true):Fun K x qual st f (PySem.W.fnOf x qual (defArgs st) (defBody st) (defScope st) .none kV doc pm an cdv ct):=⟨⟨oc,od,kV,doc,pm,an,cdv,ct,osl,rfl,l,c⟩,k⟩
end
theorem small1000 {n:Nat} (h:n ≤ 1000):n < sizeLine:=Nat.lt_of_le_of_lt h (by decide)
section
variable {X:Cx}
theorem pv (i:Nat) {x:Str} {pos:Pos} (hN:X.N[i]? = some x:=by rfl) (hv:Vis X.env.scope x:=by first | exact Or.inl rfl | exact Or.inr (Or.inl rfl) | exact Or.inr (Or.inr rfl)) (hd:(x == ("__debug__":Str)) = false:=by decide)
    (hcd:(x == ("__classdict__":Str)) = false:=by decide):PE X (.Name x pos) (tVar i):=pe_var hN hv hd hcd
end
theorem iteF {A B:Prop} (h:B):if false = true then A else B:=by
  rw [if_neg Bool.false_ne_true]
  exact h
theorem iteT {A B:Prop} (h:A):if true = true then A else B:=by
  rw [if_pos rfl]
  exact h
theorem ite2 {c A B:Prop} [Decidable c] (h1:c → A) (h2:¬ c → B):if c then A else B:=by
  by_cases h:c
  · rw [if_pos h]
    exact h1 h
  · rw [if_neg h]
    exact h2 h
noncomputable def Same (H H':Hp):Prop:=∀ b o,H b = some o → H' b = some o
theorem Same.refl (H:Hp):Same H H:=fun _ _ h => h
theorem Same.trans {H H1 H2:Hp} (a:Same H H1) (b:Same H1 H2):Same H H2:=fun c o h => b c o (a c o h)
theorem Same.seq {K:PySem.W.Frag} {H H':Hp} {a:Addr} {xs:List V} (e:Same H H') (h:SqL K H a xs):SqL K H' a xs:=by
  rcases h with (h | ⟨o,h⟩) | h
  · exact .inl (.inl (e _ _ h))
  · exact .inl (.inr ⟨o,e _ _ h⟩)
  · exact .inr h
end L2
namespace L2
open PySem PySem.Spec PyProof.Rows
section
variable {X:Cx}
end
end L2
namespace L2
open PySem PySem.Spec PyProof.Rows
section
variable {κ:Type} [DecidableEq κ]
end
end L2
namespace L2
open PySem PySem.Spec PyProof.Rows
noncomputable def Its (z:Str):It:=⟨fun i _ => i < z.cps.size,fun i H x H' => H' = H ∧ ∃ c,z.cps[i]? = some c ∧ x = .str ⟨#[c]⟩,fun i _ => z.cps.size ≤ i⟩
theorem turn_sign {P:Program} {w:World} {K:PySem.W.Frag} {tg:Expr} (it:Addr) (z:Str) (t:Tok) (wide:Bool) :
    Turn P w K tg (Its z) [it] it (fun i h => h.IsStrIter it (if wide then "str_iterator" else "str_ascii_iterator") z t i) where
  mem:=List.mem_singleton.mpr rfl
  obj:=fun i h st b hb => by
    obtain rfl:b = it:=List.mem_singleton.mp hb
    obtain ⟨o,e,_,d⟩:=st
    exact ⟨o,e,fun v q => by rw [d] at q; cases q⟩
  keep:=fun i h h' st k => by
    obtain ⟨o,e,r⟩:=st
    exact ⟨o,k it (List.mem_singleton.mpr rfl) o e,r⟩
  item:=by
    intro X hP hw hK hc i pins s σ H E I hf st hg
    subst hP hw hK
    obtain ⟨f0,f1,_,f3,f4,f5⟩:=hf it (List.mem_singleton.mpr rfl)
    have hi:i < z.cps.size:=hg
    have hz:z.cps[i]? = some z.cps[i]:=by simp [hi]
    have fin:∀ h',h'.IsStrIter it (if wide then "str_iterator" else "str_ascii_iterator") z t (i + 1) → Heap.SameBut it s.heap h' →
        ∃ u,(some (Value.str ⟨#[z.cps[i]]⟩ s.toks)) = some u ∧ wpAny (model X.prog X.w) X.A (letOwnedTupleGo tg (.ref it) u)
          (fun _ s2 => ∃ x H',Inv X pins σ H' s2 ∧ RelV x u ∧ (Its z).yld i H x H' ∧ s2.heap.IsStrIter it (if wide then "str_iterator" else "str_ascii_iterator") z t (i + 1) ∧ ∀ b ∈ [it],H' b = none) E { s with heap:=h',toks:=s.toks + 1 }:=by
      intro h' st' sb
      have I1:Inv X pins σ H { s with heap:=h',toks:=s.toks + 1 }:=I.turned (fun b o hb e => (sb.2 b hb).trans e) f0 f1 f3 f4 f5
      obtain ⟨o,e,c,d⟩:=id st'
      refine ⟨_,rfl,go_of (s:={ s with heap:=h',toks:=s.toks + 1 }) e c d (by cases wide <;> decide) ⟨.str ⟨#[z.cps[i]]⟩,H,I1,⟨_,rfl⟩,⟨rfl,_,hz,rfl⟩,st',fun b hb => (hf b hb).1⟩⟩
    cases wide with
    | true => exact wpAny_pyNext_wide_item st hz fun h' st' sb => fin h' st' sb
    | false => exact wpAny_pyNext_ascii_item st hz fun h' st' sb => fin h' st' sb
  done:=by
    intro X hP hw hK hc i pins s σ H E I hf st hg
    subst hP hw hK
    obtain ⟨f0,f1,_,f3,f4,f5⟩:=hf it (List.mem_singleton.mpr rfl)
    have hi:z.cps.size ≤ i:=hg
    have hz:z.cps[i]? = none:=by simp [hi]
    cases wide with
    | true => exact wpAny_pyNext_wide_end (I.ok.hd hc) st hz fun h' eb => ⟨rfl,I.turned (t':=s.toks) (fun b o hb e => eb b o hb e) f0 f1 f3 f4 f5⟩
    | false => exact wpAny_pyNext_ascii_end (I.ok.hd hc) st hz fun h' eb => ⟨rfl,I.turned (t':=s.toks) (fun b o hb e => eb b o hb e) f0 f1 f3 f4 f5⟩
  self:=fun _ _ _ _ _ st h => by
    cases wide with
    | true => exact wpAny_pyIter_striter_wide st h
    | false => exact wpAny_pyIter_striter_ascii st h
section
variable {X:Cx} {tg:Expr}
noncomputable def iStr (tl:TE):TI:=fun σ H R => tl σ H fun x H1 => ∃ z,x = .str z ∧ R (Its z) H1
theorem pi_str {l:Expr} {tl:TE} (hl:PE X l tl):PI X tg l (iStr tl):=by
  intro pins s σ H R I h
  refine thn (hl pins s σ H _ I h) fun v s1 ⟨x,H1,I1,r1,q1⟩ => ?_
  obtain ⟨z,e,q⟩:=q1
  subst e
  obtain ⟨t,rfl⟩:=r1
  have fin:∀ (wide:Bool),PIE X pins σ tg R (.ref s1.heap.objs.size) { s1 with heap:=s1.heap.push { cls:=.type (if wide then "str_iterator" else "str_ascii_iterator"),data:=.fields #[.str z t,.int 0 0] } }:=by
    intro wide
    refine ⟨s1.heap.objs.size,[s1.heap.objs.size],_,_,H1,rfl,I1.kept (t':=s1.toks) fun b o e => Heap.get?_push_of_some _ e,turn_sign _ z t wide,⟨_,Heap.get?_push_size _ rfl,rfl,rfl⟩,fun b hb => ?_,q⟩
    obtain rfl:b = s1.heap.objs.size:=List.mem_singleton.mp hb
    exact I1.fpOk (Nat.le_refl _) (I1.hok.fresh (Nat.le_refl _))
  cases ha:z.cps.all (· < 128) with
  | false => exact wpAny_pyIter_wide ha (fin true)
  | true => exact wpAny_pyIter_ascii ha (fin false)
end
noncomputable abbrev blk (X:Cx) (N':List Str) (sc:Scope) (cl:List (Str × Addr)) (s₀:Shared) (H₀:Hp) (C:Addr) (ex:List Addr):Cx :=
  { X with N:=N',s₀:=s₀,H₀:=H₀,env:=compEnvC sc cl C X.env,outer:=X.stack,ex:=ex,fn:=fun _ => false,xe:=fun _ _ => False }
structure BlkSc (X:Cx) (caps:List Str) (sc:Scope) (cl:List (Str × Addr)):Prop where
  kind:sc.kind = .function
  nocell:∀ y ∈ sc.names,y.2 ≠ .cell
  names:∀ y ∈ sc.names,y.2 = .local → sc.names.lookup y.1 = some .local
  clos:closureFor sc X.env = pure cl
  has:(sc.names.all fun y => y.2 != .free || (cl.lookup y.1).isSome) = true
  sub:∀ y ∈ cl,X.env.cells.lookup y.1 = some y.2
  caps:∀ x ∈ caps,(X.env.kindOf x = some .cell ∨ X.env.kindOf x = some .free) ∧ (cl.lookup x).isSome = true ∧ ((relabel sc X.env).names.lookup x = some .cell ∨ (relabel sc X.env).names.lookup x = some .free)
theorem relabel_inv {env:Env}:∀ {names:List (Str × NameKind)} {x:Str} {k:NameKind},(names.map fun (n,k) => if (k == NameKind.free && env.scope.kind == .function && env.kindOf n == some .cell) then (n,NameKind.cell) else (n,k)).lookup x = some k →
    ∃ k',(x,k') ∈ names ∧ (k' = k ∨ k' = .free)
  | [],_,_,h => by simp at h
  | (n,k0) :: r,x,k,h => by
    have h':List.lookup x ((if (k0 == NameKind.free && env.scope.kind == .function && env.kindOf n == some .cell) = true then (n,NameKind.cell) else (n,k0)) :: (r.map fun (n,k) => if (k == NameKind.free && env.scope.kind == .function && env.kindOf n == some .cell) then (n,NameKind.cell) else (n,k))) = some k:=h
    by_cases hx:x = n
    · subst hx
      refine ⟨k0,List.mem_cons_self,?_⟩
      by_cases hc:(k0 == NameKind.free && env.scope.kind == .function && env.kindOf x == some .cell) = true
      · have hf:(k0 == NameKind.free) = true:=by
          rw [Bool.and_eq_true,Bool.and_eq_true] at hc
          exact hc.1.1
        exact .inr (by cases k0 <;> first | rfl | exact absurd hf (by decide))
      · rw [if_neg hc,List.lookup_cons_self] at h'
        exact .inl (Option.some.inj h')
    · have hb:(x == n) = false:=beq_eq_false_iff_ne.mpr hx
      have h2:(r.map fun (n,k) => if (k == NameKind.free && env.scope.kind == .function && env.kindOf n == some .cell) then (n,NameKind.cell) else (n,k)).lookup x = some k:=by
        split at h' <;> simpa [List.lookup_cons,hb] using h'
      obtain ⟨k',hm,hk⟩:=relabel_inv h2
      exact ⟨k',List.mem_cons_of_mem _ hm,hk⟩
theorem BlkSc.hasc {X:Cx} {caps:List Str} {sc:Scope} {cl:List (Str × Addr)} (S:BlkSc X caps sc cl) {x:Str} (h:(relabel sc X.env).names.lookup x = some .cell ∨ (relabel sc X.env).names.lookup x = some .free):∃ c,cl.lookup x = some c:=by
  have key:(x,NameKind.free) ∈ sc.names:=by
    rcases h with h | h
    · obtain ⟨k',hm,hk⟩:=relabel_inv h
      rcases hk with rfl | rfl
      · exact absurd rfl (S.nocell _ hm)
      · exact hm
    · obtain ⟨k',hm,hk⟩:=relabel_inv h
      rcases hk with rfl | rfl <;> exact hm
  have q:=List.all_eq_true.mp S.has _ key
  have q2:(cl.lookup x).isSome = true:=by simpa using q
  exact Option.isSome_iff_exists.mp q2
theorem BlkSc.subc {X:Cx} {caps:List Str} {sc:Scope} {cl:List (Str × Addr)} (S:BlkSc X caps sc cl) {x:Str} {c:Addr} (h:cl.lookup x = some c):X.env.cells.lookup x = some c:=S.sub _ (PySem.mem_of_lookup h)
noncomputable def blkSt (n:Nat) (κ:List Nat) (σ:St):St:=List.replicate n none ++ κ.map fun k => (σ[k]?).join
noncomputable def CompRun (n:Nat) (κ:List Nat) (g:TG) (tc:TT) (te:TE) (σ:St) (J:It) (H1:Hp) (Q:VK):Prop :=
  ∃ W:Nat → Nat → List V → Hp → Prop,(∃ m,W 0 m [] H1) ∧ ∀ i m ys H2,W i m ys H2 →
    (J.stop i H2 ∧ ∀ D,H2 D = none → Q (.ref D) (upd H2 D (.lst ys))) ∨
    (J.go i H2 ∧ ys.length < sizeLine ∧ ∀ x H3,J.yld i H2 x H3 → g x (blkSt n κ σ) H3 fun σ4 H4 => σ4.drop n = (blkSt n κ σ).drop n ∧
      tc σ4 H4 fun b H5 => if b = true then te σ4 H5 fun v H6 => ∃ m',m' < m ∧ W (i + 1) m' (ys ++ [v]) H6 else ∃ m',m' < m ∧ W (i + 1) m' ys H5)
noncomputable def tComp (n:Nat) (κ:List Nat) (wi:TI) (g:TG) (tc:TT) (te:TE):TE:=fun σ H Q => wi σ H fun J H1 => CompRun n κ g tc te σ J H1 Q
noncomputable def tYes:TT:=fun _ H Q => Q true H
theorem tYes_go {σ:St} {H:Hp} {A B:Hp → Prop} (h:A H):tYes σ H fun b H5 => if b = true then A H5 else B H5:=by
  show (if true = true then A H else B H)
  rw [if_pos rfl]
  exact h
section
variable {X:Cx} {pins:List (Addr × Obj)} {σ:St} {H:Hp} {s:Shared}
theorem Inv.block {caps:List Str} {own:List Str} {κ:List Nat} {sc:Scope} {cl:List (Str × Addr)} {fp:List Addr} {h₁:Heap} {tk:Nat} (S:BlkSc X caps sc cl) (hκ:κ.map (fun k => X.N[k]?) = caps.map some) (I:Inv X pins σ H s)
    (f2:∀ b ∈ fp,FpOk X pins H b) (hfp:∀ b ∈ fp,b < s.heap.objs.size)
    {hp:Heap} {ol:Obj} (ehp:hp = s.heap.push ol) (hns:h₁.Ns hp.objs.size fun _ => none) (old:∀ b o,hp.get? b = some o → h₁.get? b = some o) :
    Inv (blk X (own ++ caps) sc cl { s with heap:=hp } H hp.objs.size (s.heap.objs.size :: fp)) pins (blkSt own.length κ σ) H { s with heap:=h₁,toks:=tk }:=by
  have hsz:hp.objs.size = s.heap.objs.size + 1:=by rw [ehp,Heap.size_push]
  have up:∀ b o,s.heap.get? b = some o → hp.get? b = some o:=fun b o e => by rw [ehp]; exact Heap.get?_push_of_some _ e
  have I3:Inv X pins σ H { s with heap:=hp }:=I.kept (t':=s.toks) up
  have stk:∀ b,b ≠ X.env.locals → b ∉ X.fs → b ∉ frs X.stack:=fun b h1 h2 z => (List.mem_cons.mp (I.stkSub b z)).elim h1 h2
  have dD:s.heap.objs.size ≠ X.env.locals:=Nat.ne_of_gt I.lt
  have cellLt:∀ x c,X.env.cells.lookup x = some c → c < s.heap.objs.size:=fun x c e => by
    obtain ⟨v,q⟩:=I.cell x c e
    exact q.lt
  have ltC:∀ b,b < s.heap.objs.size → b ≠ hp.objs.size:=fun b hb => by rw [hsz]; exact Nat.ne_of_lt (Nat.lt_succ_of_lt hb)
  have cellK:∀ c v,s.heap.IsCell c v → h₁.IsCell c v:=fun c v ⟨o,ho,hd⟩ => ⟨o,old _ _ (up _ _ ho),hd⟩
  refine ⟨⟨I.ok.mod,?_,I.ok.glob,I.ok.blt,Nat.le_refl _,fun x y c h1 h2 => I.ok.inj x y c (S.subc h1) (S.subc h2),fun x h => S.hasc h,fun _ _ z => absurd z Bool.false_ne_true,I.ok.hd,I.ok.frames,.inl rfl,fun b hb => ?_,fun b o e => ⟨up _ _ (I.bs b o e).1,(I.bs b o e).2⟩,
      Nat.le_trans (Nat.le_trans I.ok.bsz I.sz) (by show s.heap.objs.size ≤ hp.objs.size; rw [hsz]; exact Nat.le_succ _),fun b o e hb => ?_,fun b hb => ?_,I3.stack,I.stkFree⟩,
    rfl,I.bare,Un.kept old,⟨_,hns,fun i x v e1 e2 e3 => ?_⟩,fun x c h => ?_,I.hok.fresh (by rw [hsz]; exact Nat.le_succ _),fun x c h => I.freeC x c (S.subc h),fun p hp' => ?_,I.hok.kept fun b u e => old _ _ (up _ _ e),?_⟩
  · show (relabel sc X.env).kind = .function
    exact S.kind
  · show b ≠ hp.objs.size ∧ ∀ x c,cl.lookup x = some c → c ≠ b
    rcases List.mem_cons.mp hb with rfl | hb
    · exact ⟨by rw [hsz]; exact Nat.ne_of_lt (Nat.lt_succ_self _),fun x c h => Nat.ne_of_lt (cellLt x c (S.subc h))⟩
    · exact ⟨ltC b (hfp b hb),fun x c h => (f2 b hb).2.2.2.2.1 x c (S.subc h)⟩
  · have hlt:b < X.s₀.heap.objs.size:=Nat.lt_of_lt_of_le (Heap.lt_size e) I.ok.bsz
    rcases List.mem_cons.mp hb with rfl | hb
    · exact absurd (Nat.lt_of_lt_of_le hlt I.sz) (Nat.lt_irrefl _)
    · rcases (f2 b hb).2.2.2.1 with z | z
      · exact I.ok.noex b o e z
      · exact absurd (Nat.lt_of_lt_of_le hlt z) (Nat.lt_irrefl _)
  · rcases List.mem_cons.mp hb with rfl | hb
    · exact stk _ dD (I.nofs (Nat.le_refl _))
    · exact stk _ (f2 b hb).2.1 (f2 b hb).2.2.1
  · have e1':(own ++ caps)[i]? = some x:=e1
    have hlen:(List.replicate own.length (none:Option V)).length = own.length:=List.length_replicate
    have hge:own.length ≤ i:=by
      refine Nat.le_of_not_lt fun hlt => ?_
      unfold blkSt at e2
      rw [List.getElem?_append_left (by rw [hlen]; exact hlt),List.getElem?_replicate,if_pos hlt] at e2
      cases e2
    unfold blkSt at e2
    rw [List.getElem?_append_right (by rw [hlen]; exact hge),hlen,List.getElem?_map] at e2
    rw [List.getElem?_append_right hge] at e1'
    cases ek:κ[i - own.length]? with
    | none => rw [ek] at e2; cases e2
    | some k =>
      rw [ek] at e2
      have e2':(σ[k]?).join = some v:=Option.some.inj e2
      have e4:σ[k]? = some (some v):=by
        cases eσ:σ[k]? with
        | none => rw [eσ] at e2'; cases e2'
        | some w => rw [eσ] at e2'; exact congrArg some e2'
      have e5:X.N[k]? = some x:=by
        have z:=congrArg (fun l => l[i - own.length]?) hκ
        simp only [List.getElem?_map,ek,e1',Option.map_some] at z
        exact Option.some.inj z
      obtain ⟨c1,c2,c3⟩:=S.caps x (List.mem_of_getElem? e1')
      obtain ⟨m,hn,hl⟩:=I.loc
      obtain ⟨u,r,l⟩:=hl k x v e5 e4 (c1.elim (fun z => .inr (.inl z)) fun z => .inr (.inr z))
      refine ⟨u,r,?_⟩
      rcases l with ⟨hk,_⟩ | ⟨_,c,hc,hcell⟩
      · rcases c1 with z | z <;> (rw [hk] at z; cases z)
      · obtain ⟨c',hc'⟩:=Option.isSome_iff_exists.mp c2
        have ecc:c' = c:=Option.some.inj ((S.subc hc').symm.trans hc)
        subst ecc
        exact .inr ⟨c3,c',hc',cellK _ _ hcell⟩
  · obtain ⟨v,q⟩:=I.cell x c (S.subc h)
    exact ⟨v,cellK c v q⟩
  · obtain ⟨e,n,ne,nf,d⟩:=I.pin p hp'
    exact ⟨old _ _ (up _ _ e),n,ltC _ (Heap.lt_size e),stk _ ne nf,d⟩
  · show (blkSt own.length κ σ).length = (own ++ caps).length
    have z:=congrArg List.length hκ
    rw [List.length_map,List.length_map] at z
    unfold blkSt
    rw [List.length_append,List.length_append,List.length_replicate,List.length_map,z]
theorem Inv.unblock {own caps:List Str} {sc:Scope} {cl:List (Str × Addr)} {fp:List Addr} {H':Hp} {s4:Shared} {σ':St} {pins':List (Addr × Obj)} {hp h':Heap} {ol:Obj} {ys:List V} {its:List Value} {cap:Nat} (I:Inv X pins σ H s)
    (f2:∀ b ∈ fp,FpOk X pins H b) (ehp:hp = s.heap.push ol)
    (J:Inv (blk X (own ++ caps) sc cl { s with heap:=hp } H hp.objs.size (s.heap.objs.size :: fp)) pins' σ' H' s4)
    (hD:s4.heap.get? s.heap.objs.size = some { cls:=.type "list",data:=.seq its.toArray cap }) (nD:H' s.heap.objs.size = none) (r:Vals ys its) (hz:ys.length ≤ sizeLine) (sb:Heap.SameBut hp.objs.size s4.heap h') :
    Inv X pins σ (upd H' s.heap.objs.size (.lst ys)) { s4 with heap:=h' }:=by
  have hsz:hp.objs.size = s.heap.objs.size + 1:=by rw [ehp,Heap.size_push]
  have up:∀ b o,s.heap.get? b = some o → hp.get? b = some o:=fun b o e => by rw [ehp]; exact Heap.get?_push_of_some _ e
  have nDs:H s.heap.objs.size = none:=I.hok.fresh (Nat.le_refl _)
  have neD:∀ b o,s.heap.get? b = some o → b ≠ s.heap.objs.size:=fun b o e => Nat.ne_of_lt (Heap.lt_size e)
  have neC:∀ b o,s.heap.get? b = some o → b ≠ hp.objs.size:=fun b o e => by rw [hsz]; exact Nat.ne_of_lt (Nat.lt_succ_of_lt (Heap.lt_size e))
  have nex:∀ b o,s.heap.get? b = some o → b ∉ fp → b ∉ s.heap.objs.size :: fp:=fun b o e hb z => (List.mem_cons.mp z).elim (neD b o e) hb
  have u:=J.base
  have hDC:s.heap.objs.size ≠ hp.objs.size:=by rw [hsz]; exact Nat.ne_of_lt (Nat.lt_succ_self _)
  have eD:h'.get? s.heap.objs.size = some { cls:=.type "list",data:=.seq its.toArray cap }:=(sb.2 _ hDC).trans hD
  refine I.call' (ch:=fp) J.os ⟨fun b o e n hb hx => ?_,fun b o e n hb hx => ?_,fun b o e n hx => ?_,fun b o e hx => ?_,fun b xs e => ?_,fun b o x e => ?_,fun b ps e => ?_⟩ (fun b o e => ?_) J.bare fun b hb => ?_
  · exact (sb.2 b (neC b o e)).trans (u.keep b o (up _ _ e) n hb (nex b o e hx))
  · obtain ⟨sl,q⟩:=u.slot b o (up _ _ e) n hb (nex b o e hx)
    exact ⟨sl,(sb.2 b (neC b o e)).trans q⟩
  · rw [upd_ne (neD b o e)]
    exact u.free b o (up _ _ e) n (nex b o e hx)
  · obtain ⟨o',q⟩:=u.there b o (up _ _ e) (nex b o e hx)
    exact ⟨o',(sb.2 b (neC b o e)).trans q⟩
  · rw [upd_ne (ne_of_none e nDs)]
    exact u.tups b xs e
  · rw [upd_ne (ne_of_none e nDs)]
    exact u.frzs b o x e
  · rw [upd_ne (ne_of_none e nDs)]
    exact u.tbls b ps e
  · by_cases hb:b = s.heap.objs.size
    · subst hb
      rw [upd_same] at e
      cases e
      exact ⟨hz,its,cap,r,eD⟩
    · rw [upd_ne hb] at e
      have nC:∀ c w,H' c = some w → c ≠ hp.objs.size:=fun c w q => ne_of_none q J.free
      refine (J.hok b o e).stay (fun c v hc q => (sb.2 c ?_).trans q) (fun c q => by rw [upd_ne (ne_of_none q nD)]; exact q) fun c xs q => by rw [upd_ne (ne_of_none q nD)]; exact q
      rcases hc with rfl | hc
      · exact nC c o e
      · exact nC c _ hc
  · obtain ⟨_,f1,_,f3,f4,f5⟩:=f2 b hb
    exact ⟨f3,f1,f4,f5⟩
end
section
variable {X:Cx}
theorem pe_compG {tg elt iter:Expr} {ifs:List Expr} {own caps:List Str} {κ:List Nat} {sc:Scope} {cl:List (Str × Addr)} {pos:Pos} {wi:TI} {g:TG} {tc:TT} {te:TE} (hcalm:X.calm = true) (S:BlkSc X caps sc cl) (hκ:κ.map (fun k => X.N[k]?) = caps.map some)
    (hi:PI X tg iter wi) (hg:∀ s₀ H₀ C ex,PG (blk X (own ++ caps) sc cl s₀ H₀ C ex) tg g)
    (hc:∀ s₀ H₀ C ex (pins:List (Addr × Obj)) (s:Shared) (σ:St) (H:Hp) (Q:Bool → Hp → Prop),Inv (blk X (own ++ caps) sc cl s₀ H₀ C ex) pins σ H s → tc σ H Q →
      wpAny (model X.prog X.w) X.A (forIn ifs true fun c r => if r = true then do let ok ← isTrue c (compEnvC sc cl C X.env) (eval c (compEnvC sc cl C X.env)); pure (ForInStep.yield ok) else pure (ForInStep.yield r)) (TP (blk X (own ++ caps) sc cl s₀ H₀ C ex) pins σ Q) (fun _ _ => False) s)
    (he:∀ s₀ H₀ C ex,PE (blk X (own ++ caps) sc cl s₀ H₀ C ex) elt te)
    (hs:∀ x,foldedSetIterable iter X.env x = pure x:=by intro _; rfl):PE X (.ListComp elt [⟨tg,iter,ifs,0⟩] sc pos) (tComp own.length κ wi g tc te):=by
  intro pins s σ H Q I h
  rw [eval_ListComp]
  refine wpAny_comprehension_free (use:=none) rfl hs S.clos S.kind S.names (thn (hi pins s σ H _ I h) fun v s1 h1 => thn h1 fun itv s2 h2 => ?_)
  obtain ⟨it,fp,tn,J,H2,e,I2,T,st2,f2,W,⟨m0,w0⟩,turn⟩:=h2
  subst e
  have hfp:∀ b ∈ fp,b < s2.heap.objs.size:=fun b hb => by
    obtain ⟨o,e,_⟩:=T.obj _ _ st2 b hb
    exact Heap.lt_size e
  refine wpAny_newObj_type (wpAny_newFunctionEnv S.nocell (fun y hy => nomatch hy) (fun h₁ hns hsb => ?_) S.kind)
  generalize ehp:s2.heap.push { cls:=.type "list",dict:=none,data:=.seq ([]:List Value).toArray } = hp at hns hsb ⊢
  have hsz:hp.objs.size = s2.heap.objs.size + 1:=by rw [← ehp,Heap.size_push]
  have hDC:s2.heap.objs.size ≠ hp.objs.size:=by rw [hsz]; exact Nat.ne_of_lt (Nat.lt_succ_self _)
  have old:∀ b o,hp.get? b = some o → h₁.get? b = some o:=fun b o e => (hsb.2 b (Nat.ne_of_lt (Heap.lt_size e))).trans (Heap.get?_push_of_some _ e)
  have eD:h₁.get? s2.heap.objs.size = some { cls:=.type "list",data:=.seq ([]:List Value).toArray }:=old _ _ (by rw [← ehp]; exact Heap.get?_push_size _ rfl)
  have I0:=Inv.block (own:=own) (h₁:=h₁) (tk:=s2.toks + ([]:List (Str × Value)).length) S hκ I2 f2 hfp ehp.symm hns old
  have stkD:s2.heap.objs.size ∉ frs X.stack:=fun z => (List.mem_cons.mp (I2.stkSub _ z)).elim (Nat.ne_of_gt I2.lt) (I2.nofs (Nat.le_refl _))
  have cellD:∀ x c,cl.lookup x = some c → c ≠ s2.heap.objs.size:=fun x c q => by
    obtain ⟨v,z⟩:=I2.cell x c (S.subc q)
    exact Nat.ne_of_lt z.lt
  have pinD:∀ p ∈ X.pn ++ pins,p.1 ≠ s2.heap.objs.size:=fun p hp => Nat.ne_of_lt (Heap.lt_size (I2.pin p hp).1)
  have stkF:∀ b ∈ fp,b ∉ frs X.stack:=fun b hb z => (List.mem_cons.mp (I2.stkSub _ z)).elim (f2 b hb).2.1 (f2 b hb).2.2.1
  have loop:codeAny (model X.prog X.w) X.A (.compLoop (.ListComp elt [⟨tg,iter,ifs,0⟩] sc pos) 0 (.ref it) (.ref s2.heap.objs.size) (compEnvC sc cl hp.objs.size X.env))
      (compPost (model X.prog X.w) X.A X.xe none (EP X pins σ Q) (.ref s2.heap.objs.size) hp.objs.size) { s2 with heap:=h₁,toks:=s2.toks + ([]:List (Str × Value)).length }:=by
    refine codeAny_loop rfl (fun n s' => ∃ (i:Nat) (ys:List V) (its:List Value) (cap:Nat) (H':Hp),Inv (blk X (own ++ caps) sc cl { s2 with heap:=hp } H2 hp.objs.size (s2.heap.objs.size :: fp)) pins (blkSt own.length κ σ) H' s' ∧ tn i s'.heap ∧ (∀ b ∈ fp,H' b = none) ∧
      s'.heap.get? s2.heap.objs.size = some { cls:=.type "list",data:=.seq its.toArray cap } ∧ H' s2.heap.objs.size = none ∧ Vals ys its ∧ ys.length ≤ sizeLine ∧ W i n ys H') (fun n s3 hI => ?_) m0
      ⟨0,[],[],0,H2,I0,T.keep _ _ _ st2 fun b hb o e => old _ _ (by rw [← ehp]; exact Heap.get?_push_of_some _ e),fun b hb => (f2 b hb).1,eD,I2.hok.fresh (Nat.le_refl _),.nil,Nat.zero_le _,w0⟩
    obtain ⟨i,ys,its,cap,H3,I3,st3,fr3,eD3,nD3,rv,hz,w3⟩:=hI
    show wpAny _ X.A ((compTurn (.ListComp elt [⟨tg,iter,ifs,0⟩] sc pos) 0 (.ref it) (.ref s2.heap.objs.size) (compEnvC sc cl hp.objs.size X.env)).onRaise fun x => do noteFrame x (compEnvC sc cl hp.objs.size X.env); theTreesLotGoes x) _ _ s3
    refine wpAny_noted ?_
    rw [compTurn_list]
    have I3':Inv (blk X (own ++ caps) sc cl { s2 with heap:=hp } H2 hp.objs.size (s2.heap.objs.size :: fp)) (pins ++ [(s2.heap.objs.size,{ cls:=.type "list",data:=.seq its.toArray cap })]) (blkSt own.length κ σ) H3 s3:=by
      refine I3.pins_of fun p hp => (List.mem_append.mp hp).elim (fun z => I3.pin p (List.mem_append_right _ z)) fun z => ?_
      obtain rfl:=List.mem_singleton.mp z
      exact ⟨eD3,nD3,hDC,stkD,fun v q => by cases q⟩
    have fpk:∀ {H':Hp},(∀ b ∈ fp,H' b = none) → ∀ b ∈ fp,FpOk (blk X (own ++ caps) sc cl { s2 with heap:=hp } H2 hp.objs.size (s2.heap.objs.size :: fp)) (pins ++ [(s2.heap.objs.size,{ cls:=.type "list",data:=.seq its.toArray cap })]) H' b:=fun {H'} hn b hb =>
      ⟨hn b hb,by show b ≠ hp.objs.size; rw [hsz]; exact Nat.ne_of_lt (Nat.lt_succ_of_lt (hfp b hb)),stkF b hb,.inl (List.mem_cons_of_mem _ hb),fun x c q => (f2 b hb).2.2.2.2.1 x c (S.subc q),fun p hp => by
        rw [← List.append_assoc] at hp
        rcases List.mem_append.mp hp with z | z
        · exact (f2 b hb).2.2.2.2.2 p z
        · obtain rfl:=List.mem_singleton.mp z
          exact Nat.ne_of_gt (hfp b hb)⟩
    rcases turn i n ys H3 w3 with ⟨stop,fin⟩ | ⟨go,hlt,step⟩
    · refine wpAny_bind (wpAny_standAt (wpAny_bind (thn (T.done (blk X (own ++ caps) sc cl { s2 with heap:=hp } H2 hp.objs.size (s2.heap.objs.size :: fp)) rfl rfl rfl hcalm i _ s3 _ H3 _ I3' (fpk fr3) st3 stop) fun r s4 ⟨hr,I4⟩ => ?_)))
      subst hr
      refine wpAny_pure ?_
      obtain ⟨m,hm,_⟩:=I4.loc
      refine ⟨m,hm,fun h' sb => ?_⟩
      have eD4:=(I4.pin (s2.heap.objs.size,{ cls:=.type "list",data:=.seq its.toArray cap }) (List.mem_append_right _ (List.mem_append_right _ (List.mem_singleton.mpr rfl)))).1
      exact ⟨.ref s2.heap.objs.size,_,Inv.unblock I2 f2 ehp.symm I4 eD4 nD3 rv hz sb,rfl,fin _ nD3⟩
    · refine wpAny_bind (wpAny_standAt (wpAny_bind (thn (T.item (blk X (own ++ caps) sc cl { s2 with heap:=hp } H2 hp.objs.size (s2.heap.objs.size :: fp)) rfl rfl rfl hcalm i _ s3 _ H3 _ I3' (fpk fr3) st3 go) fun r s4 ⟨u,hr,h4⟩ => ?_)))
      subst hr
      refine wpAny_bind (thn h4 fun _ s5 ⟨x,H5,I5,r5,y5,st5,fr5⟩ => ?_)
      have I5':=I5.pinned (fpk fr5) (T.obj _ _ st5)
      refine wpAny_bind (wpAny_mono (hg _ _ _ _ _ s5 _ H5 x u _ I5' r5 (step x H5 y5)) (fun _ s6 ⟨σ6,H6,I6,eσ,q6⟩ => ?_) fun _ _ z => z.elim)
      refine wpAny_bind (wpAny_mono (hc _ _ _ _ _ s6 σ6 H6 _ I6 q6) (fun ok s7 ⟨H7,I7,q7⟩ => ?_) fun _ _ z => z.elim)
      have back:∀ {s8:Shared} {H8:Hp},Inv (blk X (own ++ caps) sc cl { s2 with heap:=hp } H2 hp.objs.size (s2.heap.objs.size :: fp)) ((pins ++ [(s2.heap.objs.size,{ cls:=.type "list",data:=.seq its.toArray cap })]) ++ pinsAt fp s5.heap) σ6 H8 s8 →
          Inv (blk X (own ++ caps) sc cl { s2 with heap:=hp } H2 hp.objs.size (s2.heap.objs.size :: fp)) pins (blkSt own.length κ σ) H8 s8 ∧ tn (i + 1) s8.heap ∧ (∀ b ∈ fp,H8 b = none) ∧ s8.heap.get? s2.heap.objs.size = some { cls:=.type "list",data:=.seq its.toArray cap } ∧ H8 s2.heap.objs.size = none:=by
        intro s8 H8 I8
        have pk:∀ b ∈ fp,∀ o,s5.heap.get? b = some o → s8.heap.get? b = some o ∧ H8 b = none:=fun b hb o e => by
          have z:=I8.pin (b,o) (List.mem_append_right _ (List.mem_append_right _ (mem_pinsAt hb e)))
          exact ⟨z.1,z.2.1⟩
        have zD:=I8.pin (s2.heap.objs.size,{ cls:=.type "list",data:=.seq its.toArray cap }) (List.mem_append_right _ (List.mem_append_left _ (List.mem_append_right _ (List.mem_singleton.mpr rfl))))
        refine ⟨(I8.pins_of fun p hp => I8.pin p (List.mem_append_right _ (List.mem_append_left _ (List.mem_append_left _ hp)))).weak ?_ fun j v e => ?_,T.keep _ _ _ st5 fun b hb o e => (pk b hb o e).1,fun b hb => ?_,zD.1,zD.2.1⟩
        · exact I3.len.trans I8.len.symm
        · have hge:own.length ≤ j:=by
            refine Nat.le_of_not_lt fun q => ?_
            unfold blkSt at e
            rw [List.getElem?_append_left (by rw [List.length_replicate]; exact q),List.getElem?_replicate,if_pos q] at e
            cases e
          have z:=congrArg (fun l => l[j - own.length]?) eσ
          simp only [List.getElem?_drop] at z
          rw [show own.length + (j - own.length) = j by omega] at z
          rw [z]
          exact e
        · obtain ⟨o,e,_⟩:=T.obj _ _ st5 b hb
          exact (pk b hb o e).2
      cases ok with
      | false =>
        obtain ⟨m',hm,w7⟩:=(if_neg Bool.false_ne_true) ▸ q7
        obtain ⟨I8,st8,fr8,e8,n8⟩:=back I7
        exact wpAny_pure ⟨rfl,m',hm,i + 1,ys,its,cap,H7,I8,st8,fr8,e8,n8,rv,hz,w7⟩
      | true =>
        have q7':=(if_pos rfl) ▸ q7
        refine wpAny_bind (wpAny_bind (wpAny_mono (he _ _ _ _ _ s7 σ6 H7 _ I7 q7') (fun y s8 ⟨v8,H8,I8,r8,m',hm,w8⟩ => ?_) fun _ _ z => z.elim))
        obtain ⟨I9,st9,fr9,e9,n9⟩:=back I8
        have hl:=rv.length
        refine wpAny_bind (wpAny_list_append_plain (items:=its.toArray) ⟨cap,e9⟩ (fun h' hl' sb => ?_) (by rw [List.size_toArray,← hl]; exact hz))
        obtain ⟨cap',e'⟩:=hl'
        refine wpAny_pure (wpAny_pure ⟨rfl,m',hm,i + 1,ys ++ [v8],its ++ [y],cap',H8,?_,?_,fr9,?_,n9,Vals.append rv (.cons r8 .nil),?_,w8⟩)
        · exact I9.turned (t':=s8.toks) (fun b o hb e => (sb.2 b hb).trans e) n9 hDC (.inl List.mem_cons_self) cellD pinD
        · exact T.keep _ _ _ st9 fun b hb o e => (sb.2 b (Nat.ne_of_lt (hfp b hb))).trans e
        · rw [e']
          congr 3
          simp
        · rw [List.length_append]
          exact hlt
  exact codeAny_compStart_list loop (T.self _ 0 _ _ _ (T.keep _ _ _ st2 fun b hb o e => old _ _ (by rw [← ehp]; exact Heap.get?_push_of_some _ e)) loop)
theorem pe_comp {tg elt iter:Expr} {own caps:List Str} {κ:List Nat} {sc:Scope} {cl:List (Str × Addr)} {pos:Pos} {wi:TI} {g:TG} {te:TE} (hcalm:X.calm = true) (S:BlkSc X caps sc cl) (hκ:κ.map (fun k => X.N[k]?) = caps.map some)
    (hi:PI X tg iter wi) (hg:∀ s₀ H₀ C ex,PG (blk X (own ++ caps) sc cl s₀ H₀ C ex) tg g) (he:∀ s₀ H₀ C ex,PE (blk X (own ++ caps) sc cl s₀ H₀ C ex) elt te)
    (hs:∀ x,foldedSetIterable iter X.env x = pure x:=by intro _; rfl):PE X (.ListComp elt [⟨tg,iter,[],0⟩] sc pos) (tComp own.length κ wi g tYes te) :=
  pe_compG hcalm S hκ hi hg (fun s₀ H₀ C ex pins s σ H Q I h => wpAny_tests_nil ⟨H,I,h⟩) he hs
theorem pe_comp_if {tg elt iter c:Expr} {own caps:List Str} {κ:List Nat} {sc:Scope} {cl:List (Str × Addr)} {pos:Pos} {wi:TI} {g:TG} {tc:TT} {te:TE} (hcalm:X.calm = true) (S:BlkSc X caps sc cl) (hκ:κ.map (fun k => X.N[k]?) = caps.map some)
    (hi:PI X tg iter wi) (hg:∀ s₀ H₀ C ex,PG (blk X (own ++ caps) sc cl s₀ H₀ C ex) tg g) (hc:∀ s₀ H₀ C ex,PT (blk X (own ++ caps) sc cl s₀ H₀ C ex) c tc) (he:∀ s₀ H₀ C ex,PE (blk X (own ++ caps) sc cl s₀ H₀ C ex) elt te)
    (hs:∀ x,foldedSetIterable iter X.env x = pure x:=by intro _; rfl):PE X (.ListComp elt [⟨tg,iter,[c],0⟩] sc pos) (tComp own.length κ wi g tc te) :=
  pe_compG hcalm S hκ hi hg (fun s₀ H₀ C ex pins s σ H Q I h => wpAny_tests_one (hc s₀ H₀ C ex pins s σ H Q I h)) he hs
end
end L2
namespace L2
open PySem PySem.Spec PyProof.Rows
section
variable {X:Cx}
theorem bootAll:bootBuiltins "all" = some (.builtin "all"):=by decide +kernel
theorem bootStr:bootBuiltins "str" = some (.type "str"):=by decide +kernel
theorem bootIsi:bootBuiltins "isinstance" = some (.builtin "isinstance"):=by decide +kernel
theorem bools_of:∀ {bs:List Bool} {us:List Value},Vals (bs.map V.bl) us → LSm.BoolsAre us bs
  | [],_,r => by cases r; exact .nil
  | b :: bs,_,r => by
    cases r with
    | cons r1 r2 =>
      cases r1
      exact .cons b (bools_of r2)
theorem call_allB (hc:X.calm = true):CallR X (.builtin "all") (fun xs H Q => ∃ (p:Addr) (bs:List Bool),xs = [.ref p] ∧ SqL X.K H p (bs.map V.bl) ∧ Q (.bl (bs.all id)) H):=by
  intro pins s σ H xs us Q I r h
  obtain ⟨p,bs,rfl,hq,q⟩:=h
  obtain ⟨u,rfl,rx⟩:=vals1 r
  cases rx
  obtain ⟨its,rv,pl,hz⟩:=I.list hq
  have hb:=bools_of rv
  have hlt:p < s.heap.objs.size:=by obtain ⟨_,e,_⟩:=pl.isList; exact Heap.lt_size e
  refine call_all_walk (wpAny_pyIter_list pl.isList ?_)
  refine ⟨s.heap.objs.size,[s.heap.objs.size,p],[s.heap.objs.size],its.toArray.size,_,_,fun i => (bs[i]?).getD true,rfl,Walks.list (A:=X.A.in1) (I.ok.hd hc) _ p (Nat.ne_of_lt hlt) its.toArray,
    ⟨⟨_,Heap.get?_push_size _ rfl,rfl,rfl⟩,pl.isList.push _⟩,fun i v s' Q' E' hP hQ => ?_,fun h' tk hk => ?_⟩
  · obtain ⟨b,e,rfl⟩:=hb.get i v (by simpa using hP)
    have hQ':Q' ((bs[i]?).getD true) s':=hQ
    rw [e] at hQ'
    exact wpAny_truthy_bool hQ'
  · have e:((List.range its.toArray.size).all fun i => (bs[i]?).getD true) = bs.all id:=by
      rw [List.size_toArray,hb.length]
      exact LSm.range_all bs
    rw [e]
    exact ⟨.bl (bs.all id),H,I.kept (LSm.kept_iter hk),rfl,q⟩
end
end L2
namespace L2
open PySem PySem.Spec PyProof.Rows
noncomputable def signsV (z:Str):List V:=z.cps.toList.map fun c => V.str ⟨#[c]⟩
theorem signsV_len (z:Str):(signsV z).length = z.length:=by simp [signsV,Str.length]
theorem signsV_get {z:Str} {i:Nat} {x:V}:(signsV z)[i]? = some x ↔ ∃ c,z.cps[i]? = some c ∧ x = .str ⟨#[c]⟩:=by
  unfold signsV
  rw [List.getElem?_map]
  have e:z.cps.toList[i]? = z.cps[i]?:=by simp
  rw [e]
  cases z.cps[i]? with
  | none => simp
  | some c => simp [eq_comm]
theorem its_go {z:Str} {H:Hp}:∀ i x,(signsV z)[i]? = some x → (Its z).go i H:=fun i x h => by
  have:=(List.getElem?_eq_some_iff.mp h).1
  rw [signsV_len] at this
  exact this
theorem its_yld {z:Str} {H:Hp}:∀ i x H',(Its z).yld i H x H' → H' = H ∧ (signsV z)[i]? = some x:=fun i x H' h => ⟨h.1,signsV_get.mpr h.2⟩
theorem its_stop {z:Str} {H:Hp}:(Its z).stop (signsV z).length H:=by
  rw [signsV_len]
  exact Nat.le_refl _
end L2
namespace L2
open PySem PySem.Spec PyProof.Rows
theorem comp_by {J:It} {xs:List V} {n:Nat} {κ:List Nat} {g:TG} {tc:TT} {te:TE} {σ:St} {H:Hp} {Q:VK} (Pv:Nat → List V → Hp → Prop) (h0:Pv 0 [] H) (hz:xs.length ≤ sizeLine) (hlen:∀ i ys H2,Pv i ys H2 → ys.length ≤ i)
    (hgo:∀ i x ys H2,xs[i]? = some x → Pv i ys H2 → J.go i H2) (hyl:∀ i ys x H2 H',i < xs.length → Pv i ys H2 → J.yld i H2 x H' → H' = H2 ∧ xs[i]? = some x) (hst:∀ ys H2,Pv xs.length ys H2 → J.stop xs.length H2)
    (hs:∀ i x ys H2 (N:List V → Hp → Prop),(∀ ys' H',Pv (i + 1) ys' H' → N ys' H') → xs[i]? = some x → Pv i ys H2 → g x (blkSt n κ σ) H2 fun σ4 H4 => σ4.drop n = (blkSt n κ σ).drop n ∧ tc σ4 H4 fun b H5 => if b = true then te σ4 H5 fun v H6 => N (ys ++ [v]) H6 else N ys H5)
    (hQ:∀ ys H2 D,Pv xs.length ys H2 → H2 D = none → Q (.ref D) (upd H2 D (.lst ys))) :
    CompRun n κ g tc te σ J H Q:=by
  refine ⟨fun i m ys H2 => m = xs.length - i ∧ i ≤ xs.length ∧ Pv i ys H2,⟨xs.length,rfl,Nat.zero_le _,h0⟩,?_⟩
  rintro i m ys H2 ⟨rfl,hi,p⟩
  by_cases hlt:i < xs.length
  · have e:xs[i]? = some xs[i]:=List.getElem?_eq_getElem hlt
    refine .inr ⟨hgo i _ ys H2 e p,Nat.lt_of_le_of_lt (hlen i ys H2 p) (Nat.lt_of_lt_of_le hlt hz),fun x H3 y => ?_⟩
    obtain ⟨rfl,ex⟩:=hyl i ys x H2 H3 hlt p y
    exact hs i x ys _ (fun ys' H' => ∃ m',m' < xs.length - i ∧ m' = xs.length - (i + 1) ∧ i + 1 ≤ xs.length ∧ Pv (i + 1) ys' H') (fun ys' H' p' => ⟨xs.length - (i + 1),by omega,rfl,hlt,p'⟩) ex p
  · obtain rfl:i = xs.length:=by omega
    exact .inl ⟨hst ys H2 p,fun D hD => hQ ys H2 D p hD⟩
noncomputable def rangeV (lo:Int) (n:Nat):List V:=(List.range n).map fun i => V.int (lo + (i:Nat))
theorem rangeV_len (lo:Int) (n:Nat):(rangeV lo n).length = n:=by simp [rangeV]
theorem rangeV_get {lo:Int} {n i:Nat} {x:V}:(rangeV lo n)[i]? = some x ↔ i < n ∧ x = .int (lo + i):=by
  unfold rangeV
  rw [List.getElem?_map]
  by_cases h:i < n
  · rw [List.getElem?_range h]
    simp [h,eq_comm]
  · rw [List.getElem?_eq_none (by simp; omega)]
    simp [h]
theorem itr_go {lo:Int} {n:Nat} {H:Hp} {i:Nat} {x:V} (h:(rangeV lo n)[i]? = some x):(Itr lo n).go i H:=(rangeV_get.mp h).1
theorem itr_yld' {lo:Int} {n:Nat} {H H':Hp} {i:Nat} {x:V} (hi:i < n) (h:(Itr lo n).yld i H x H'):H' = H ∧ (rangeV lo n)[i]? = some x:=⟨h.1,rangeV_get.mpr ⟨hi,h.2⟩⟩
section
variable {X:Cx}
theorem strs_of:∀ {ys:List Str} {us:List Value},Vals (ys.map V.str) us → StrsAre us ys
  | [],_,r => by cases r; exact .nil
  | y :: ys,_,r => by
    cases r with
    | cons r1 r2 =>
      obtain ⟨t,rfl⟩:=r1
      exact .cons y t (strs_of r2)
theorem mt_join:MtR X "str.join" (fun x vs H Q => ∃ sep p ys,x = .str sep ∧ vs = [.ref p] ∧ SqL X.K H p (ys.map V.str) ∧ (ys.map (·.length)).sum + ys.length * sep.length ≤ 16777216 ∧ Q (.str (Txt.join sep ys)) H):=by
  intro pins s σ H x xs v us Q I rx rv h
  obtain ⟨sep,p,ys,rfl,rfl,hq,hz,q⟩:=h
  obtain ⟨t,rfl⟩:=rx
  obtain ⟨u,rfl,ru⟩:=rv.one
  cases ru
  obtain ⟨its,r,pl,_⟩:=I.list hq
  exact join_list pl.isList (by simpa using strs_of r) hz fun t' k => ⟨.str _,H,I.tok _,⟨_,rfl⟩,q⟩
end
end L2
namespace L2
open PySem PySem.Spec PyProof.Rows
mutual
inductive Dat (K:PySem.W.Frag) (H:Hp):V → PyData → Prop
  | non:Dat K H .non .none
  | bl (b:Bool):Dat K H (.bl b) (.bool b)
  | int (i:Int):Dat K H (.int i) (.int i)
  | str (x:Str):Dat K H (.str x) (.str x)
  | tup {a:Addr} {xs:List V} {ds:List PyData}:SqT K H a xs → Dats K H xs ds → Dat K H (.ref a) (.tuple ds)
  | lst {a:Addr} {xs:List V} {ds:List PyData}:SqL K H a xs → Dats K H xs ds → Dat K H (.ref a) (.list ds)
inductive Dats (K:PySem.W.Frag) (H:Hp):List V → List PyData → Prop
  | nil:Dats K H [] []
  | cons {x:V} {d:PyData} {xs:List V} {ds:List PyData}:Dat K H x d → Dats K H xs ds → Dats K H (x :: xs) (d :: ds)
end
theorem Same.tup {K:PySem.W.Frag} {H H':Hp} {a:Addr} {xs:List V} (e:Same H H') (h:SqT K H a xs):SqT K H' a xs:=by
  rcases h with (h | ⟨o,h⟩) | h
  · exact .inl (.inl (e _ _ h))
  · exact .inl (.inr ⟨o,e _ _ h⟩)
  · exact .inr h
mutual
theorem Dat.same {K:PySem.W.Frag} {H H':Hp} (e:Same H H'):∀ {x:V} {d:PyData},Dat K H x d → Dat K H' x d
  | _,_,.non => .non
  | _,_,.bl b => .bl b
  | _,_,.int i => .int i
  | _,_,.str x => .str x
  | _,_,.tup h r => .tup (e.tup h) (Dats.same e r)
  | _,_,.lst h r => .lst (e.seq h) (Dats.same e r)
theorem Dats.same {K:PySem.W.Frag} {H H':Hp} (e:Same H H'):∀ {xs:List V} {ds:List PyData},Dats K H xs ds → Dats K H' xs ds
  | _,_,.nil => .nil
  | _,_,.cons h r => .cons (Dat.same e h) (Dats.same e r)
end
section
variable {X:Cx} {pins:List (Addr × Obj)} {σ:St} {H:Hp} {s:Shared}
mutual
theorem Dat.reads (I:Inv X pins σ H s):∀ {x:V} {d:PyData} {v:Value},Dat X.K H x d → RelV x v → ∃ as,Reads s.heap v d as
  | _,_,_,.non,r => by cases r; exact ⟨_,.none⟩
  | _,_,_,.bl b,r => by cases r; exact ⟨_,.bool b⟩
  | _,_,_,.int i,r => by obtain ⟨t,rfl⟩:=r; exact ⟨_,.int i t⟩
  | _,_,_,.str x,r => by obtain ⟨t,rfl⟩:=r; exact ⟨_,.str x t⟩
  | _,_,_,.tup hq ds,r => by
    cases r
    obtain ⟨its,rv,p,_⟩:=I.tuple hq
    obtain ⟨as,q⟩:=Dats.reads I ds rv
    obtain ⟨o,e,c,n,dt⟩:=p
    exact ⟨as,.tuple e c dt (by simpa using q)⟩
  | _,_,_,.lst hq ds,r => by
    cases r
    obtain ⟨its,rv,p,_⟩:=I.list hq
    obtain ⟨as,q⟩:=Dats.reads I ds rv
    obtain ⟨o,n,e,c,_,dt⟩:=p
    exact ⟨_,.list e c dt (by simpa using q)⟩
theorem Dats.reads (I:Inv X pins σ H s):∀ {xs:List V} {ds:List PyData} {vs:List Value},Dats X.K H xs ds → Vals xs vs → ∃ as,ReadsAll s.heap vs ds as
  | _,_,_,.nil,r => by cases r; exact ⟨_,.nil⟩
  | _,_,_,.cons h t,r => by
    cases r with
    | cons r1 r2 =>
      obtain ⟨as,q⟩:=Dat.reads I h r1
      obtain ⟨bs,q2⟩:=Dats.reads I t r2
      exact ⟨_,.cons q q2⟩
end
end
section
variable {X:Cx}
noncomputable def rEqD (K:PySem.W.Frag) (neg:Bool):R2:=fun x y H Q => ∃ dx dy,Dat K H x dx ∧ Dat K H y dy ∧ SeqAt.shaped dx = true ∧ SeqAt.shaped dy = true ∧ Q (.bl (if neg then !PyData.eqv dx dy else PyData.eqv dx dy)) H
theorem op_eqD (hu:X.A.units + 64 < cLine):OpR X (compareOp .Eq) (rEqD X.K false):=by
  intro pins s σ H x y v u Q I rx ry h
  obtain ⟨dx,dy,hx,hy,sx,sy,q⟩:=h
  obtain ⟨as,ra⟩:=Dat.reads I hx rx
  obtain ⟨bs,rb⟩:=Dat.reads I hy ry
  exact eq_dataH ra rb sx sy hu ⟨.bl _,H,I,rfl,q⟩
theorem op_neD (hu:X.A.units + 64 < cLine):OpR X (compareOp .NotEq) (rEqD X.K true):=by
  intro pins s σ H x y v u Q I rx ry h
  obtain ⟨dx,dy,hx,hy,sx,sy,q⟩:=h
  obtain ⟨as,ra⟩:=Dat.reads I hx rx
  obtain ⟨bs,rb⟩:=Dat.reads I hy ry
  exact ne_dataH ra rb sx sy hu ⟨.bl _,H,I,rfl,q⟩
end
end L2
namespace L2
open PySem PySem.Spec PyProof.Rows
section
variable {X:Cx}
open Classical in
end
end L2
namespace L2
open PySem PySem.Spec PyProof.Rows
section
variable {prog:Program} {w:World} {A:Around} {E:Value → Shared → Prop} {s:Shared}
end
end L2
namespace L2
open PySem PySem.Spec PyProof.Rows
section
variable {X:Cx}
end
end L2
namespace Kk
open PySem L2
inductive Kd where
  | num (n:Int)
  | name (q t:Str)
  | pair (a b:Kd)
  deriving DecidableEq
noncomputable def Kd.words:Kd → Nat
  | .num _ => 1
  | .name _ _ => 1
  | .pair a b => 1 + a.words + b.words
noncomputable def Kd.leaves:Kd → List Kd
  | .num n => [.num n]
  | .name q t => [.name q t]
  | .pair a b => a.leaves ++ b.leaves
noncomputable def Kd.leaf:Kd → Bool
  | .pair _ _ => false
  | _ => true
inductive KdAt (K:PySem.W.Frag) (H:Hp):V → Kd → Prop
  | num {a:Addr} {n:Int}:SqT K H a [.str "num",.int n] → KdAt K H (.ref a) (.num n)
  | name {a:Addr} {q t:Str}:SqT K H a [.str "name",.str q,.str t] → KdAt K H (.ref a) (.name q t)
  | pair {a:Addr} {x y:V} {k l:Kd}:SqT K H a [.str "pair",x,y] → KdAt K H x k → KdAt K H y l → KdAt K H (.ref a) (.pair k l)
end Kk
namespace L2
open PySem PySem.Spec PyProof.Rows
section
variable {α β:Type} {P:Shared → Prop}
noncomputable def Keeps (P:Shared → Prop) (t:Sem α):Prop:=∀ (M:Model) (Γ:PySem.Ctx) (Q:α → Pos → Shared → Prop) (E:Value → Pos → Shared → Prop) (p:Pos) (s:Shared),P s → Sem.wp M Γ t Q E p s →
  Sem.wp M Γ t (fun a p' s' => Q a p' s' ∧ P s') (fun e p' s' => E e p' s' ∧ P s') p s
theorem Keeps.ret (a:α):Keeps P (Pure.pure a:Sem α):=fun _ _ _ _ _ _ h q => ⟨q,h⟩
theorem Keeps.no (x:String):Keeps P (unsupported x:Sem α):=fun _ _ _ _ _ _ _ q => False.elim q
theorem Keeps.then {m:Sem α} {f:α → Sem β} (hm:Keeps P m) (hf:∀ a,Keeps P (f a)):Keeps P (m >>= f):=fun M Γ Q E p s h q => by
  rw [Sem.wp_bind'] at q ⊢
  exact Sem.wp_mono M Γ m (fun a p' s' z => hf a M Γ Q E p' s' z.2 z.1) (fun _ _ _ z => z) p s (hm M Γ _ E p s h q)
variable {x:Addr} {d:Option Addr}
end
end L2
namespace L2
open PySem PySem.Spec PyProof.Rows
section
variable {P:Program} {w:World}
structure Fly (P:Program) (w:World) (outer:List Env) (H:Hp) (s:Shared) (x:Addr) (cls:Value) (H':Hp) (s':Shared):Prop where
  os:s'.os = s.os
  bare:AllBare s'.gens
  un:Un (frs outer) [] H H' s.heap s'.heap
  hok:HOk P w H' s'.heap
  fl:∃ B a0,Heap.FlyingW B outer x cls a0 s'.heap ∧ (∀ b o,H' b = some o → ∃ u,B.get? b = some u) ∧ ∀ b o,s.heap.get? b = some o → b ∉ frs outer → ∃ u,B.get? b = some u
  free:H' x = none
end
section
variable {X:Cx} {pins:List (Addr × Obj)} {σ:St} {H H':Hp} {s s':Shared} {x:Addr} {cls:Value} {E:Value → Shared → Prop} {Q:Unit → Shared → Prop}
end
section
variable {P:Program} {w:World} {K:PySem.W.Frag} {mg:Str → Option Value} {base:Heap} {N:List Str} {qual:Str} {scope:Scope} {f:Addr} {cd:Value} {A:Around} {outer:List Env} {s:Shared} {H:Hp} {E:XK}
end
noncomputable abbrev bmVE:List Value:=[.type "ValueError",.type "Exception",.type "BaseException",.type "object"]
section
variable {P:Program} {w:World} {K:PySem.W.Frag} {mg:Str → Option Value} {base:Heap}
end
end L2
namespace L2
open PySem PySem.Spec PyProof.Rows
section
variable {X:Cx} {pins:List (Addr × Obj)} {σ:St} {H H':Hp} {s s':Shared} {x:Addr} {cls:Value}
end
noncomputable abbrev Cx.inE (X:Cx) (e:Addr):Cx:={ X with A:=X.A.mark (some (.ref e)),calm:=false }
section
variable {X:Cx} {pins:List (Addr × Obj)} {σ:St} {H:Hp} {s:Shared}
end
noncomputable def etry (X:Cx) (hs:List ExceptHandler) (pins:List (Addr × Obj)) (D:Ends):Value → Shared → Prop:=fun e s1 =>
  wpAny (model X.prog X.w) X.A (noteFrame e X.env) (fun _ s2 => wpAny (model X.prog X.w) X.A (setFlight e none) (fun _ s3 => wpAny (model X.prog X.w) X.A (handleBy e X.env hs) (SP X pins D) X.xe s3) X.xe s2) X.xe s1
noncomputable abbrev Cx.tryIn (X:Cx) (hs:List ExceptHandler) (pins:List (Addr × Obj)) (D:Ends):Cx:={ X with pn:=X.pn ++ pins,xe:=etry X hs pins D }
section
variable {X:Cx} {hs:List ExceptHandler} {pins pins':List (Addr × Obj)} {D D':Ends} {σ:St} {H:Hp} {s:Shared}
end
section
variable {X:Cx} {CX:CXT} {k:Nat} {f C:Addr} {fd:FuncData} {ps:List Str} {sp:Sp} {dvs:List V} {ds:List Value} {E:St → XK} {x m:Str} {p pos apos:Pos} {e o:Expr} {es:List Expr} {ta:TE} {t:TA}
end
end L2
namespace L2
open PySem PySem.Spec PyProof.Rows
section
variable {X:Cx} {pos:Pos} {e:Expr} {es:List Expr} {te:TE}
noncomputable abbrev TJ:=St → Hp → (Hp → Prop) → Prop
noncomputable def PJ (X:Cx) (es:List Expr) (t:TJ):Prop :=
  ∀ (pins:List (Addr × Obj)) (s:Shared) (σ:St) (H:Hp) (acc:Str) (Z:Hp → Prop),acc.length + 2000000 * es.length ≤ sizeLine → Inv X pins σ H s → t σ H Z →
    Joins (model X.prog X.w) X.A X.xe (evalEach es X.env) acc (fun out s1 => out.length ≤ sizeLine ∧ ∃ H1,Inv X pins σ H1 s1 ∧ Z H1) s
theorem pe_fstr {v1 v2:Expr} {rest:List Expr} {tj:TJ} (hj:PJ X (v1 :: v2 :: rest) tj) (hl:(v1 :: v2 :: rest).length ≤ 8) :
    PE X (.JoinedStr (v1 :: v2 :: rest) pos) (fun σ H Q => tj σ H fun H1 => ∀ z:Str,z.length ≤ sizeLine → Q (.str z) H1):=by
  intro pins s σ H Q I h
  have hz:Str.empty.length + 2000000 * (v1 :: v2 :: rest).length ≤ sizeLine:=by
    have e0:Str.empty.length = 0:=rfl
    rw [sizeLine_eq,e0]
    rw [Nat.zero_add]
    exact Nat.le_trans (Nat.mul_le_mul_left _ hl) (Nat.le_of_ble_eq_true rfl)
  refine wpAny_JoinedStr ?_
  have j:=hj pins s σ H Str.empty _ hz I h
  exact joins_mono _ _ (fun out s1 ⟨h1,H1,I1,q⟩ => ⟨h1,.str out,H1,I1.tok _,⟨_,rfl⟩,q out h1⟩) _ j
where joins_mono {M:Model} {A:Around} {E:Value → Shared → Prop}:∀ (parts:List (Sem Value)) (acc:Str) {Q Q':Str → Shared → Prop},(∀ out s,Q out s → Q' out s) → ∀ s,Joins M A E parts acc Q s → Joins M A E parts acc Q' s
  | [],acc,_,_,hq,s,h => hq _ _ h
  | x :: rest,acc,_,_,hq,s,h => thn (show wpAny _ _ _ _ _ _ from h) fun v s1 ⟨y,t,e1,e2,e3⟩ => ⟨y,t,e1,e2,joins_mono rest (acc ++ y) hq s1 e3⟩
theorem pe_fv (he:PE X e te):PE X (.FormattedValue e (-1) none pos) (fun σ H Q => te σ H fun v H1 => (∃ y:Str,v = .str y ∧ y.length ≤ sizeLine ∧ Q (.str y) H1) ∨ ∃ i:Int,v = .int i ∧ i.natAbs.log2 < 1920 ∧ Q (.str (toString i)) H1):=by
  intro pins s σ H Q I h
  refine FormattedValue_plain (thn (he pins s σ H _ I h) fun u s1 ⟨v,H1,I1,r,q⟩ => ?_)
  rcases q with ⟨y,rfl,hy,q⟩ | ⟨i,rfl,hi,q⟩
  · obtain ⟨t,rfl⟩:=r
    exact formatField_str (fun t' tk => ⟨.str y,H1,I1.tok _,⟨_,rfl⟩,q⟩) hy
  · obtain ⟨t,rfl⟩:=r
    exact formatField_int_small hi ⟨.str _,H1,I1.tok _,⟨_,rfl⟩,q⟩
end
end L2
namespace L2
open PySem PySem.Spec PyProof.Rows
section
variable {prog:Program} {w:World} {A:Around} {s:Shared} {E:Value → Shared → Prop} {K:Type} [DecidableEq K] {knd:KeyKind prog w K}
end
section
variable {X:Cx}
end
end L2
namespace L2
open PySem PySem.Spec PyProof.Rows
structure ExcCls (K:PySem.W.Frag) (D:Addr):Prop where
  is:(match K.lookup D with | some ⟨_,_,.cls _,_⟩ => true | _ => false) = true
  ga:PySem.W.findIn K (.ref D) "__getattribute__" = some (some (.builtin "BaseException.__getattribute__"))
  gh:PySem.W.findIn K (.ref D) "__getattr__" = some none
  cl:PySem.W.findIn K (.ref D) "__class__" = some (some (.builtin "object.__class__"))
  sp:PySem.W.specialIn K (.builtin "object.__class__") "__get__" = some (some (.builtin "getset_descriptor.__get__"))
  tk:PySem.W.takesIn K (.builtin "object.__class__") = some true
  ob:PySem.W.mroIn K D (.type "object") = some true
  be:PySem.W.mroIn K D (.type "BaseException") = some true
section
variable {prog:Program} {w:World} {A:Around} {E:Value → Shared → Prop} {s:Shared} {K:PySem.W.Frag} {x D:Addr}
end
section
variable {X:Cx}
end
section
variable {X:Cx} {pins:List (Addr × Obj)} {σ:St} {H H':Hp} {s s':Shared} {x:Addr} {cls:Value}
noncomputable def Ends.gone (D:Ends) (i:Nat):Ends:={ nx:=fun σ H => D.nx (σ.set i none) H,rt:=D.rt,bk:=fun σ H => D.bk (σ.set i none) H,ct:=fun σ H => D.ct (σ.set i none) H }
end
end L2
namespace L2
open PySem PySem.Spec PyProof.Rows
structure FunD (K:PySem.W.Frag) (x qual:Str) (st:Stmt) (dV:Value) (f:Addr) (fd:FuncData):Prop where
  ex:∃ (oc:Value) (od:Option Addr) (kV doc pm:Value) (an:Option Addr) (cdv ct:Value) (osl:Array (Option Value)),
    fd = PySem.W.fnOf x qual (defArgs st) (defBody st) (defScope st) dV kV doc pm an cdv ct ∧ K.lookup f = some ⟨oc,od,.func fd,osl⟩ ∧ PySem.W.codeIn K cdv qual = true
  kp:PySem.W.keepIn K (.ref f) = true
section
variable {P:Program} {w:World} {K:PySem.W.Frag} {mg:Str → Option Value} {base:Heap}
end
end L2
namespace L2
open PySem PySem.Spec PyProof.Rows
section
variable {X:Cx}
theorem ps_compG {i0:Nat} {y0:Str} {py0 spos:Pos} {tg elt iter:Expr} {ifs:List Expr} {own caps:List Str} {κ:List Nat} {sc:Scope} {cl:List (Str × Addr)} {pos:Pos} {wi:TI} {g:TG} {tc:TT} {te:TE} (hN:X.N.Nodup) (hi0:X.N[i0]? = some y0) (hy0:Loc X.env.scope y0) (hcalm:X.calm = true) (S:BlkSc X caps sc cl) (hκ:κ.map (fun k => X.N[k]?) = caps.map some)
    (hi:PI X tg iter wi) (hg:∀ s₀ H₀ C ex,PG (blk X (own ++ caps) sc cl s₀ H₀ C ex) tg g)
    (hc:∀ s₀ H₀ C ex (pins:List (Addr × Obj)) (s:Shared) (σ:St) (H:Hp) (Q:Bool → Hp → Prop),Inv (blk X (own ++ caps) sc cl s₀ H₀ C ex) pins σ H s → tc σ H Q →
      wpAny (model X.prog X.w) X.A (forIn ifs true fun c r => if r = true then do let ok ← isTrue c (compEnvC sc cl C X.env) (eval c (compEnvC sc cl C X.env)); pure (ForInStep.yield ok) else pure (ForInStep.yield r)) (TP (blk X (own ++ caps) sc cl s₀ H₀ C ex) pins σ Q) (fun _ _ => False) s)
    (he:∀ s₀ H₀ C ex,PE (blk X (own ++ caps) sc cl s₀ H₀ C ex) elt te)
    (hs:∀ x,foldedSetIterable iter X.env x = pure x:=by intro _; rfl) (hsw:swapsWith (.ListComp elt [⟨tg,iter,ifs,0⟩] sc pos) (some (.Name y0 py0)) spos.line X.env = pure true:=by rfl)
    (hf0:X.fn y0 = true ∨ X.env.scope.names.lookup y0 = some .local:=by first | exact .inl rfl | exact .inr rfl | assumption) :
    PS X (.Assign [.Name y0 py0] (.ListComp elt [⟨tg,iter,ifs,0⟩] sc pos) spos) (tAsg (tComp own.length κ wi g tc te) (gName i0)):=by
  intro pins s σ H D0 I h
  rw [exec_Assign_Name_used _ _ _ _ hsw]
  refine wpAny_bind (wpAny_standAt (wpAny_bind ?_))
  show wpAny _ X.A (do let _ ← comprehension (.ListComp elt [⟨tg,iter,ifs,0⟩] sc pos) sc X.env _ (newList []) false (eval iter X.env) (some (assign (.Name y0 py0) X.env))) _ _ s
  refine wpAny_bind (wpAny_mono (wpAny_comprehension_free (use:=some (assign (.Name y0 py0) X.env)) (Q:=fun _ s' => SP X pins D0 .next s') rfl hs S.clos S.kind S.names (thn (hi pins s σ H _ I h) fun v s1 h1 => thn h1 fun itv s2 h2 => ?_))
    (fun _ s' hq => wpAny_pure (wpAny_pure hq)) fun _ _ e => e)
  obtain ⟨it,fp,tn,J,H2,e,I2,T,st2,f2,W,⟨m0,w0⟩,turn⟩:=h2
  subst e
  have hfp:∀ b ∈ fp,b < s2.heap.objs.size:=fun b hb => by
    obtain ⟨o,e,_⟩:=T.obj _ _ st2 b hb
    exact Heap.lt_size e
  refine wpAny_newObj_type (wpAny_newFunctionEnv S.nocell (fun y hy => nomatch hy) (fun h₁ hns hsb => ?_) S.kind)
  generalize ehp:s2.heap.push { cls:=.type "list",dict:=none,data:=.seq ([]:List Value).toArray } = hp at hns hsb ⊢
  have hsz:hp.objs.size = s2.heap.objs.size + 1:=by rw [← ehp,Heap.size_push]
  have hDC:s2.heap.objs.size ≠ hp.objs.size:=by rw [hsz]; exact Nat.ne_of_lt (Nat.lt_succ_self _)
  have old:∀ b o,hp.get? b = some o → h₁.get? b = some o:=fun b o e => (hsb.2 b (Nat.ne_of_lt (Heap.lt_size e))).trans (Heap.get?_push_of_some _ e)
  have eD:h₁.get? s2.heap.objs.size = some { cls:=.type "list",data:=.seq ([]:List Value).toArray }:=old _ _ (by rw [← ehp]; exact Heap.get?_push_size _ rfl)
  have I0:=Inv.block (own:=own) (h₁:=h₁) (tk:=s2.toks + ([]:List (Str × Value)).length) S hκ I2 f2 hfp ehp.symm hns old
  have stkD:s2.heap.objs.size ∉ frs X.stack:=fun z => (List.mem_cons.mp (I2.stkSub _ z)).elim (Nat.ne_of_gt I2.lt) (I2.nofs (Nat.le_refl _))
  have cellD:∀ x c,cl.lookup x = some c → c ≠ s2.heap.objs.size:=fun x c q => by
    obtain ⟨v,z⟩:=I2.cell x c (S.subc q)
    exact Nat.ne_of_lt z.lt
  have pinD:∀ p ∈ X.pn ++ pins,p.1 ≠ s2.heap.objs.size:=fun p hp => Nat.ne_of_lt (Heap.lt_size (I2.pin p hp).1)
  have stkF:∀ b ∈ fp,b ∉ frs X.stack:=fun b hb z => (List.mem_cons.mp (I2.stkSub _ z)).elim (f2 b hb).2.1 (f2 b hb).2.2.1
  have loop:codeAny (model X.prog X.w) X.A (.compLoop (.ListComp elt [⟨tg,iter,ifs,0⟩] sc pos) 0 (.ref it) (.ref s2.heap.objs.size) (compEnvC sc cl hp.objs.size X.env))
      (compPost (model X.prog X.w) X.A X.xe (some (assign (.Name y0 py0) X.env)) (fun _ s' => SP X pins D0 .next s') (.ref s2.heap.objs.size) hp.objs.size) { s2 with heap:=h₁,toks:=s2.toks + ([]:List (Str × Value)).length }:=by
    refine codeAny_loop rfl (fun n s' => ∃ (i:Nat) (ys:List V) (its:List Value) (cap:Nat) (H':Hp),Inv (blk X (own ++ caps) sc cl { s2 with heap:=hp } H2 hp.objs.size (s2.heap.objs.size :: fp)) pins (blkSt own.length κ σ) H' s' ∧ tn i s'.heap ∧ (∀ b ∈ fp,H' b = none) ∧
      s'.heap.get? s2.heap.objs.size = some { cls:=.type "list",data:=.seq its.toArray cap } ∧ H' s2.heap.objs.size = none ∧ Vals ys its ∧ ys.length ≤ sizeLine ∧ W i n ys H') (fun n s3 hI => ?_) m0
      ⟨0,[],[],0,H2,I0,T.keep _ _ _ st2 fun b hb o e => old _ _ (by rw [← ehp]; exact Heap.get?_push_of_some _ e),fun b hb => (f2 b hb).1,eD,I2.hok.fresh (Nat.le_refl _),.nil,Nat.zero_le _,w0⟩
    obtain ⟨i,ys,its,cap,H3,I3,st3,fr3,eD3,nD3,rv,hz,w3⟩:=hI
    show wpAny _ X.A ((compTurn (.ListComp elt [⟨tg,iter,ifs,0⟩] sc pos) 0 (.ref it) (.ref s2.heap.objs.size) (compEnvC sc cl hp.objs.size X.env)).onRaise fun x => do noteFrame x (compEnvC sc cl hp.objs.size X.env); theTreesLotGoes x) _ _ s3
    refine wpAny_noted ?_
    rw [compTurn_list]
    have I3':Inv (blk X (own ++ caps) sc cl { s2 with heap:=hp } H2 hp.objs.size (s2.heap.objs.size :: fp)) (pins ++ [(s2.heap.objs.size,{ cls:=.type "list",data:=.seq its.toArray cap })]) (blkSt own.length κ σ) H3 s3:=by
      refine I3.pins_of fun p hp => (List.mem_append.mp hp).elim (fun z => I3.pin p (List.mem_append_right _ z)) fun z => ?_
      obtain rfl:=List.mem_singleton.mp z
      exact ⟨eD3,nD3,hDC,stkD,fun v q => by cases q⟩
    have fpk:∀ {H':Hp},(∀ b ∈ fp,H' b = none) → ∀ b ∈ fp,FpOk (blk X (own ++ caps) sc cl { s2 with heap:=hp } H2 hp.objs.size (s2.heap.objs.size :: fp)) (pins ++ [(s2.heap.objs.size,{ cls:=.type "list",data:=.seq its.toArray cap })]) H' b:=fun {H'} hn b hb =>
      ⟨hn b hb,by show b ≠ hp.objs.size; rw [hsz]; exact Nat.ne_of_lt (Nat.lt_succ_of_lt (hfp b hb)),stkF b hb,.inl (List.mem_cons_of_mem _ hb),fun x c q => (f2 b hb).2.2.2.2.1 x c (S.subc q),fun p hp => by
        rw [← List.append_assoc] at hp
        rcases List.mem_append.mp hp with z | z
        · exact (f2 b hb).2.2.2.2.2 p z
        · obtain rfl:=List.mem_singleton.mp z
          exact Nat.ne_of_gt (hfp b hb)⟩
    rcases turn i n ys H3 w3 with ⟨stop,fin⟩ | ⟨go,hlt,step⟩
    · refine wpAny_bind (wpAny_standAt (wpAny_bind (thn (T.done (blk X (own ++ caps) sc cl { s2 with heap:=hp } H2 hp.objs.size (s2.heap.objs.size :: fp)) rfl rfl rfl hcalm i _ s3 _ H3 _ I3' (fpk fr3) st3 stop) fun r s4 ⟨hr,I4⟩ => ?_)))
      subst hr
      refine wpAny_pure ?_
      obtain ⟨m,hm,_⟩:=I4.loc
      have eD4:=(I4.pin (s2.heap.objs.size,{ cls:=.type "list",data:=.seq its.toArray cap }) (List.mem_append_right _ (List.mem_append_right _ (List.mem_singleton.mpr rfl)))).1
      have I5:Inv X pins σ (upd H3 s2.heap.objs.size (.lst ys)) { s4 with heap:=s4.heap }:=Inv.unblock I2 f2 ehp.symm I4 eD4 nD3 rv hz (Heap.SameBut.refl ..)
      have neL:hp.objs.size ≠ X.env.locals:=by rw [hsz]; exact Nat.ne_of_gt (Nat.lt_succ_of_lt I2.lt)
      have neC:∀ x c,X.env.cells.lookup x = some c → c ≠ hp.objs.size:=fun x c q => by
        obtain ⟨v,z⟩:=I2.cell x c q
        rw [hsz]
        exact Nat.ne_of_lt (Nat.lt_succ_of_lt z.lt)
      have frC:upd H3 s2.heap.objs.size (.lst ys) hp.objs.size = none:=by rw [upd_ne (Ne.symm hDC)]; exact I4.free
      show wpAny (model X.prog X.w) X.A (assign (.Name y0 py0) X.env (.ref s2.heap.objs.size)) _ X.xe s4
      refine wpAny_assign_Name (store_ok2 (v:=.ref s2.heap.objs.size) I5 hN hi0 hy0 rfl (fun s5 I6 ⟨a,sb,ha⟩ => ?_) hf0)
      have hCa:hp.objs.size ≠ a:=by
        rcases ha with ha | ha
        · rw [ha]; exact neL
        · exact Ne.symm (neC _ _ ha)
      refine ⟨m,hm.sameBut sb hCa,fun h' sb' => ⟨_,_,I6.turned (t':=s5.toks) (fun b o hb e => (sb'.2 b hb).trans e) frC neL (.inr ?_) neC (fun p hp' => ?_),fin _ nD3⟩⟩
      · exact Nat.le_trans I2.sz (by rw [hsz]; exact Nat.le_succ _)
      · have:=Heap.lt_size (I2.pin p hp').1
        rw [hsz]
        exact Nat.ne_of_lt (Nat.lt_succ_of_lt this)
    · refine wpAny_bind (wpAny_standAt (wpAny_bind (thn (T.item (blk X (own ++ caps) sc cl { s2 with heap:=hp } H2 hp.objs.size (s2.heap.objs.size :: fp)) rfl rfl rfl hcalm i _ s3 _ H3 _ I3' (fpk fr3) st3 go) fun r s4 ⟨u,hr,h4⟩ => ?_)))
      subst hr
      refine wpAny_bind (thn h4 fun _ s5 ⟨x,H5,I5,r5,y5,st5,fr5⟩ => ?_)
      have I5':=I5.pinned (fpk fr5) (T.obj _ _ st5)
      refine wpAny_bind (wpAny_mono (hg _ _ _ _ _ s5 _ H5 x u _ I5' r5 (step x H5 y5)) (fun _ s6 ⟨σ6,H6,I6,eσ,q6⟩ => ?_) fun _ _ z => z.elim)
      refine wpAny_bind (wpAny_mono (hc _ _ _ _ _ s6 σ6 H6 _ I6 q6) (fun ok s7 ⟨H7,I7,q7⟩ => ?_) fun _ _ z => z.elim)
      have back:∀ {s8:Shared} {H8:Hp},Inv (blk X (own ++ caps) sc cl { s2 with heap:=hp } H2 hp.objs.size (s2.heap.objs.size :: fp)) ((pins ++ [(s2.heap.objs.size,{ cls:=.type "list",data:=.seq its.toArray cap })]) ++ pinsAt fp s5.heap) σ6 H8 s8 →
          Inv (blk X (own ++ caps) sc cl { s2 with heap:=hp } H2 hp.objs.size (s2.heap.objs.size :: fp)) pins (blkSt own.length κ σ) H8 s8 ∧ tn (i + 1) s8.heap ∧ (∀ b ∈ fp,H8 b = none) ∧ s8.heap.get? s2.heap.objs.size = some { cls:=.type "list",data:=.seq its.toArray cap } ∧ H8 s2.heap.objs.size = none:=by
        intro s8 H8 I8
        have pk:∀ b ∈ fp,∀ o,s5.heap.get? b = some o → s8.heap.get? b = some o ∧ H8 b = none:=fun b hb o e => by
          have z:=I8.pin (b,o) (List.mem_append_right _ (List.mem_append_right _ (mem_pinsAt hb e)))
          exact ⟨z.1,z.2.1⟩
        have zD:=I8.pin (s2.heap.objs.size,{ cls:=.type "list",data:=.seq its.toArray cap }) (List.mem_append_right _ (List.mem_append_left _ (List.mem_append_right _ (List.mem_singleton.mpr rfl))))
        refine ⟨(I8.pins_of fun p hp => I8.pin p (List.mem_append_right _ (List.mem_append_left _ (List.mem_append_left _ hp)))).weak ?_ fun j v e => ?_,T.keep _ _ _ st5 fun b hb o e => (pk b hb o e).1,fun b hb => ?_,zD.1,zD.2.1⟩
        · exact I3.len.trans I8.len.symm
        · have hge:own.length ≤ j:=by
            refine Nat.le_of_not_lt fun q => ?_
            unfold blkSt at e
            rw [List.getElem?_append_left (by rw [List.length_replicate]; exact q),List.getElem?_replicate,if_pos q] at e
            cases e
          have z:=congrArg (fun l => l[j - own.length]?) eσ
          simp only [List.getElem?_drop] at z
          rw [show own.length + (j - own.length) = j by omega] at z
          rw [z]
          exact e
        · obtain ⟨o,e,_⟩:=T.obj _ _ st5 b hb
          exact (pk b hb o e).2
      cases ok with
      | false =>
        obtain ⟨m',hm,w7⟩:=(if_neg Bool.false_ne_true) ▸ q7
        obtain ⟨I8,st8,fr8,e8,n8⟩:=back I7
        exact wpAny_pure ⟨rfl,m',hm,i + 1,ys,its,cap,H7,I8,st8,fr8,e8,n8,rv,hz,w7⟩
      | true =>
        have q7':=(if_pos rfl) ▸ q7
        refine wpAny_bind (wpAny_bind (wpAny_mono (he _ _ _ _ _ s7 σ6 H7 _ I7 q7') (fun y s8 ⟨v8,H8,I8,r8,m',hm,w8⟩ => ?_) fun _ _ z => z.elim))
        obtain ⟨I9,st9,fr9,e9,n9⟩:=back I8
        have hl:=rv.length
        refine wpAny_bind (wpAny_list_append_plain (items:=its.toArray) ⟨cap,e9⟩ (fun h' hl' sb => ?_) (by rw [List.size_toArray,← hl]; exact hz))
        obtain ⟨cap',e'⟩:=hl'
        refine wpAny_pure (wpAny_pure ⟨rfl,m',hm,i + 1,ys ++ [v8],its ++ [y],cap',H8,?_,?_,fr9,?_,n9,Vals.append rv (.cons r8 .nil),?_,w8⟩)
        · exact I9.turned (t':=s8.toks) (fun b o hb e => (sb.2 b hb).trans e) n9 hDC (.inl List.mem_cons_self) cellD pinD
        · exact T.keep _ _ _ st9 fun b hb o e => (sb.2 b (Nat.ne_of_lt (hfp b hb))).trans e
        · rw [e']
          congr 3
          simp
        · rw [List.length_append]
          exact hlt
  exact codeAny_compStart_list loop (T.self _ 0 _ _ _ (T.keep _ _ _ st2 fun b hb o e => old _ _ (by rw [← ehp]; exact Heap.get?_push_of_some _ e)) loop)
theorem ps_comp {i0:Nat} {y0:Str} {py0 spos:Pos} {tg elt iter:Expr} {own caps:List Str} {κ:List Nat} {sc:Scope} {cl:List (Str × Addr)} {pos:Pos} {wi:TI} {g:TG} {te:TE} (hN:X.N.Nodup) (hi0:X.N[i0]? = some y0) (hy0:Loc X.env.scope y0) (hcalm:X.calm = true) (S:BlkSc X caps sc cl) (hκ:κ.map (fun k => X.N[k]?) = caps.map some)
    (hi:PI X tg iter wi) (hg:∀ s₀ H₀ C ex,PG (blk X (own ++ caps) sc cl s₀ H₀ C ex) tg g) (he:∀ s₀ H₀ C ex,PE (blk X (own ++ caps) sc cl s₀ H₀ C ex) elt te)
    (hs:∀ x,foldedSetIterable iter X.env x = pure x:=by intro _; rfl) (hsw:swapsWith (.ListComp elt [⟨tg,iter,[],0⟩] sc pos) (some (.Name y0 py0)) spos.line X.env = pure true:=by rfl)
    (hf0:X.fn y0 = true ∨ X.env.scope.names.lookup y0 = some .local:=by first | exact .inl rfl | exact .inr rfl | assumption) :
    PS X (.Assign [.Name y0 py0] (.ListComp elt [⟨tg,iter,[],0⟩] sc pos) spos) (tAsg (tComp own.length κ wi g tYes te) (gName i0)) :=
  ps_compG hN hi0 hy0 hcalm S hκ hi hg (fun s₀ H₀ C ex pins s σ H Q I h => wpAny_tests_nil ⟨H,I,h⟩) he hs hsw hf0
end
end L2
namespace L2
open PySem PySem.Spec PyProof.Rows
section
variable {X:Cx} {pins:List (Addr × Obj)} {σ:St} {H:Hp} {s:Shared} {h':Heap}
theorem Inv.turned2 {t':Nat} {e j p:Addr} {o:HO} (I:Inv X pins σ H s) (k:∀ b ob,b ≠ e → b ≠ j → s.heap.get? b = some ob → h'.get? b = some ob) (fe:FpOk X pins H e) (fj:FpOk X pins H j) (hp:s.heap.objs.size ≤ p)
    (new:ObjOk X.prog X.w (upd H p o) h' p o):Inv X pins σ (upd H p o) { s with heap:=h',toks:=t' }:=by
  have hn:H p = none:=I.hok.fresh hp
  have nn:∀ b u,H b = some u → b ≠ e ∧ b ≠ j:=fun b u q => ⟨fun z => (by rw [z,fe.1] at q; cases q),fun z => (by rw [z,fj.1] at q; cases q)⟩
  have nc:∀ b,b ∉ [e,j] → b ≠ e ∧ b ≠ j:=fun b hb => ⟨fun z => hb (by simp [z]),fun z => hb (by simp [z])⟩
  have lt:∀ b ob,s.heap.get? b = some ob → b ≠ p:=fun b ob q z => absurd (Nat.lt_of_lt_of_le (Heap.lt_size q) (by rw [z]; exact hp)) (Nat.lt_irrefl _)
  refine I.step (g':=s.gens) (d':=s.drawn) (ch:=[e,j]) (fun b hb => ?_) (fun b ob _ _ hc q _ => k b ob (nc b hc).1 (nc b hc).2 q) (fun b ob _ _ hc q _ => ⟨ob.slots,k b ob (nc b hc).1 (nc b hc).2 q⟩) (fun b ob hc q n => by rw [upd_ne (lt b ob q)]; exact n)
    (fun b ob hc q => ⟨ob,k b ob (nc b hc).1 (nc b hc).2 q⟩) (fun b xs q => by rw [upd_ne (ne_of_none q hn)]; exact q) (fun b ob u q => by rw [upd_ne (ne_of_none q hn)]; exact q) (fun b ps q => ⟨#[],by rw [upd_ne (ne_of_none q hn),q]; simp⟩) (fun m hm => ?_) (fun b u q => ?_) I.bare
  · rcases List.mem_cons.mp hb with rfl | hb
    · exact ⟨fe.2.2.2.1,fe.2.1,fe.2.2.2.2.1,fe.2.2.2.2.2⟩
    · obtain rfl:=List.mem_singleton.mp hb
      exact ⟨fj.2.2.2.1,fj.2.1,fj.2.2.2.2.1,fj.2.2.2.2.2⟩
  · obtain ⟨ob,es,ep,q,r⟩:=hm
    exact ⟨ob,es,ep,k _ ob (Ne.symm fe.2.1) (Ne.symm fj.2.1) q,r⟩
  · by_cases hb:b = p
    · subst hb
      rw [upd_same] at q
      cases q
      exact new
    · rw [upd_ne hb] at q
      refine (I.hok b u q).stay (fun c v hc z => ?_) (fun c z => by rw [upd_ne (ne_of_none z hn)]; exact z) fun c xs z => by rw [upd_ne (ne_of_none z hn)]; exact z
      rcases hc with hc | hc
      · rw [hc] at z ⊢
        exact k b v (nn b u q).1 (nn b u q).2 z
      · exact k c v (nn c _ hc).1 (nn c _ hc).2 z
end
noncomputable def Itv (K:PySem.W.Frag) (a:Addr) (n:Nat):It :=
  ⟨fun i H => ∃ xs x,SqL K H a xs ∧ xs.length = n ∧ i < n ∧ xs[n - 1 - i]? = some x,fun i H x H' => H' = H ∧ ∀ xs,SqL K H a xs → xs[n - 1 - i]? = some x,fun i _ => i = n⟩
theorem turn_rev {P:Program} {w:World} {K:PySem.W.Frag} {tg:Expr} (a it:Addr) (n:Nat):Turn P w K tg (Itv K a n) [it] it (fun i h => h.IsRevIter it a ((n:Int) - 1 - (i:Nat))) where
  mem:=by simp
  obj:=fun i h st b hb => by
    obtain rfl:b = it:=by simpa using hb
    obtain ⟨o,e,c,d⟩:=st
    exact ⟨o,e,fun v z => by rw [d] at z; cases z⟩
  keep:=fun i h h' st k => st.at fun o e => k it (by simp) o e
  item:=by
    intro X hP hw hK hc i pins s σ H E I hf st hg
    subst hP hw hK
    obtain ⟨xs,x,hq,hxl,hi,hx⟩:=hg
    obtain ⟨its,rv,p,hz⟩:=I.list hq
    obtain ⟨u,hu,ru⟩:=rv.get hx
    obtain ⟨f0,f1,f2,f3,f4,f5⟩:=hf it (by simp)
    have e1:(n:Int) - 1 - (i:Nat) = ((n - 1 - i:Nat):Int):=by omega
    have st1:=st
    rw [e1] at st1
    refine wpAny_pyNext_rev_item st1 p.isList (x:=u) (by simpa using hu) fun h' st' sb => ?_
    have I1:Inv X pins σ H { s with heap:=h' }:=I.turned (t':=s.toks) (fun b o hb e => (sb.2 b hb).trans e) f0 f1 f3 f4 f5
    have e2:((n - 1 - i:Nat):Int) - 1 = (n:Int) - 1 - ((i + 1:Nat):Int):=by omega
    rw [e2] at st'
    obtain ⟨o,e,c,d⟩:=id st'
    exact ⟨u,rfl,go_of (s:={ s with heap:=h' }) e c d (by decide) ⟨x,H,I1,ru,⟨rfl,fun ys hy => by rw [I.list_inj hy hq]; exact hx⟩,st',fun b hb => (hf b hb).1⟩⟩
  done:=by
    intro X hP hw hK hc i pins s σ H E I hf st hg
    subst hP hw hK
    obtain ⟨f0,f1,f2,f3,f4,f5⟩:=hf it (by simp)
    have hi:i = n:=hg
    have e1:(n:Int) - 1 - (i:Nat) = -1:=by omega
    rw [e1] at st
    exact wpAny_pyNext_rev_end (I.ok.hd hc) st fun h' eb => ⟨rfl,I.turned (t':=s.toks) (fun b o hb e => eb b o hb e) f0 f1 f3 f4 f5⟩
  self:=fun _ _ _ _ _ st h => wpAny_pyIter_revIter st h
section
variable {X:Cx} {tg:Expr}
noncomputable def iRev (K:PySem.W.Frag) (ta:TA):TI:=fun σ H R => ta σ H fun vs H1 => ∃ a xs,vs = [.ref a] ∧ SqL K H1 a xs ∧ R (Itv K a xs.length) H1
theorem pi_rev {l:Expr} {ta:TA} {p pos:Pos} (hg:Gl X "reversed") (hm:X.mg "reversed" = none) (ha:PA X [l] ta) (hs:starEach [l] X.env = [(false,eval l X.env)]:=by rfl):PI X tg (.Call (.Name "reversed" p) [l] [] pos) (iRev X.K ta):=by
  intro pins s σ H R I h
  refine Call_ (ld_blt I hg hm boot_reversed (PyProof.Rows.callWith_type1 (thn (ha pos pins s σ H _ I h) fun us s1 ⟨vs,H1,I1,r1,q1⟩ => ?_) hs rfl))
  obtain ⟨a,xs,e,hq,q⟩:=q1
  subst e
  obtain ⟨u,rfl,ru⟩:=vals1 r1
  cases ru
  obtain ⟨its,rv,pl,hz⟩:=I1.list hq
  have hl:=rv.length
  refine call_reversed_list pl.isList ?_
  have hn:(s1.heap.push (revObj a ((its.toArray.size:Int) - 1))).IsRevIter s1.heap.objs.size a ((xs.length:Int) - 1 - ((0:Nat):Int)):=by
    refine ⟨_,Heap.get?_push_size _ rfl,rfl,?_⟩
    have ez:((its.toArray.size:Nat):Int) - 1 = (xs.length:Int) - 1 - ((0:Nat):Int):=by
      rw [List.size_toArray,← hl]
      omega
    rw [← ez]
    rfl
  refine wpAny_pyIter_revIter hn ⟨s1.heap.objs.size,[s1.heap.objs.size],_,_,H1,rfl,I1.kept (t':=s1.toks) fun b o e => Heap.get?_push_of_some _ e,turn_rev a _ xs.length,hn,fun b hb => ?_,q⟩
  obtain rfl:b = s1.heap.objs.size:=by simpa using hb
  exact I1.fpOk (Nat.le_refl _) (I1.hok.fresh (Nat.le_refl _))
end
theorem for_rev {K:PySem.W.Frag} {a:Addr} {xs:List V} {g:TG} {tb:TS} {D:Ends} {σ:St} {H:Hp} (Pv:Nat → St → Hp → Prop) (h0:Pv 0 σ H) (hl:∀ i σ H,i ≤ xs.length → Pv i σ H → SqL K H a xs)
    (hs:∀ i x σ H,xs.reverse[i]? = some x → Pv i σ H → g x σ H fun σ2 H2 => tb { D with nx:=Pv (i + 1),ct:=Pv (i + 1),bk:=D.nx } σ2 H2) (hd:∀ σ H,Pv xs.length σ H → D.nx σ H) :
    ∃ W:Nat → Nat → St → Hp → Prop,(∃ m,W 0 m σ H) ∧ ∀ i m σ H,W i m σ H →
      ((Itv K a xs.length).stop i H ∧ D.nx σ H) ∨ ((Itv K a xs.length).go i H ∧ ∃ N:St → Hp → Prop,(∀ σ' H',N σ' H' → ∃ m',m' < m ∧ W (i + 1) m' σ' H') ∧ ∀ x H',(Itv K a xs.length).yld i H x H' → g x σ H' fun σ2 H2 => tb { D with nx:=N,ct:=N,bk:=D.nx } σ2 H2):=by
  refine ⟨fun i m σ H => m = xs.length - i ∧ i ≤ xs.length ∧ Pv i σ H,⟨xs.length,by simp,Nat.zero_le _,h0⟩,?_⟩
  rintro i m σ H ⟨rfl,hi,p⟩
  have q:=hl i σ H hi p
  by_cases hlt:i < xs.length
  · have ex:xs[xs.length - 1 - i]? = some (xs[xs.length - 1 - i]'(by omega)):=List.getElem?_eq_getElem (by omega)
    refine .inr ⟨⟨xs,_,q,rfl,hlt,ex⟩,Pv (i + 1),fun σ' H' p' => ⟨xs.length - (i + 1),by omega,rfl,hlt,p'⟩,fun x H' y => ?_⟩
    obtain ⟨e,y⟩:=y
    subst e
    exact hs i x σ _ (by rw [List.getElem?_reverse hlt]; exact y xs q) p
  · obtain rfl:i = xs.length:=by omega
    exact .inl ⟨rfl,hd σ H p⟩
section
variable {prog:Program} {w:World} {A:Around} {E:Value → Shared → Prop} {s:Shared}
theorem nextT_item {j t:Addr} {n:Nat} {its:Array Value} {v:Value} {Q:Value → Shared → Prop} (hj:s.heap.IsTupleIter j t n) (ht:s.heap.IsTuple t its) (hv:its[n]? = some v)
    (q:∀ h',h'.IsTupleIter j t (n + 1) → Heap.SameBut j s.heap h' → Q v { s with heap:=h' }):wpAny (model prog w) A (Builtin.SmallTypes.nextOf (.ref j)) Q E s:=by
  obtain ⟨oj,ej,cj,dj⟩:=id hj
  obtain ⟨ot,et,_,nt,dt⟩:=ht
  unfold Builtin.SmallTypes.nextOf
  refine wpAny_bind (wpAny_callSpecial?_slot (name:=Str.ofString "__next__") hj.typeIs F.slot_tuple_iterator_next (wpAny_call_entry F.slot_tuple_iterator_next hj.typeIs F.entry_tuple_iterator_next ?_ (F.args_tuple_iterator_next_1 _)))
  show wpAny _ _ (field (.ref j) 0 >>= _) _ _ s
  refine wpAny_bind (wpAny_field ej dj (x:=.ref t) rfl ?_)
  show wpAny _ _ (if (Value.ref t == Value.none) = true then _ else _) _ _ _
  rw [if_neg (show ¬ (Value.ref t == Value.none) = true from Bool.false_ne_true)]
  show wpAny _ _ (field (.ref j) 1 >>= _) _ _ s
  refine wpAny_bind (wpAny_field ej dj (x:=.int n 0) rfl ?_)
  show wpAny _ _ (seqItems? (.ref t) >>= _) _ _ _
  refine wpAny_bind (wpAny_seqItems et dt ?_)
  simp only [Int.toNat_natCast,hv]
  refine wpAny_bind (wpAny_setField ej dj (by simp) (wpAny_pure ⟨v,rfl,wpAny_pure (q _ ?_ (Heap.SameBut.update ..))⟩))
  exact ⟨_,Heap.get?_update_self _ ej (Obj.isFreed_of_fields (Obj.data_mapFields dj _)),(Obj.cls_mapFields ..).trans cj,by rw [Obj.data_mapFields dj]; simp [rawInt]⟩
theorem nextT_end {j t:Addr} {n:Nat} {its:Array Value} {Q:Value → Shared → Prop} (hh:A.handled = none) (hj:s.heap.IsTupleIter j t n) (ht:s.heap.IsTuple t its) (hv:its[n]? = none)
    (q:∀ h' e,Heap.ExtBut j s.heap h' → (∃ o,h'.get? e = some o ∧ o.cls = .type "StopIteration") → E (.ref e) { s with heap:=h' }):wpAny (model prog w) A (Builtin.SmallTypes.nextOf (.ref j)) Q E s:=by
  obtain ⟨oj,ej,cj,dj⟩:=id hj
  obtain ⟨ot,et,_,nt,dt⟩:=ht
  unfold Builtin.SmallTypes.nextOf
  refine wpAny_bind (wpAny_callSpecial?_slot (name:=Str.ofString "__next__") hj.typeIs F.slot_tuple_iterator_next (wpAny_call_entry F.slot_tuple_iterator_next hj.typeIs F.entry_tuple_iterator_next ?_ (F.args_tuple_iterator_next_1 _)))
  show wpAny _ _ (field (.ref j) 0 >>= _) _ _ s
  refine wpAny_bind (wpAny_field ej dj (x:=.ref t) rfl ?_)
  show wpAny _ _ (if (Value.ref t == Value.none) = true then _ else _) _ _ _
  rw [if_neg (show ¬ (Value.ref t == Value.none) = true from Bool.false_ne_true)]
  show wpAny _ _ (field (.ref j) 1 >>= _) _ _ s
  refine wpAny_bind (wpAny_field ej dj (x:=.int n 0) rfl ?_)
  show wpAny _ _ (seqItems? (.ref t) >>= _) _ _ _
  refine wpAny_bind (wpAny_seqItems et dt ?_)
  simp only [Int.toNat_natCast,hv]
  refine wpAny_bind (wpAny_rule (wpAny_bind (wpAny_setField ej dj (by simp) ?_)))
  refine wpAny_bind (m:=newExc (.type "StopIteration") []) ?_
  simp only [newExc,newTuple]
  refine wpAny_bind (wpAny_newObj_type (wpAny_bind (m:=firstArgMember _ _) (wpAny_of_eq (a:=Value.none) (by first | rfl | (simp only [firstArgMember]; rfl)) (wpAny_newObj_type ?_ (by size_fits)))) (by size_fits))
  simp only [raiseNew]
  refine wpAny_bind (wpAny_handled ?_)
  first | rw [show A.in1.handled = none from hh] | rw [hh]
  exact wpAny_bind (wpAny_pure (wpAny_throw (q _ _ (((Heap.SameBut.update ..).extBut.push _).push _) ⟨_,Heap.get?_push_size _ rfl,rfl⟩)))
theorem enumT_next {e j t:Addr} {n:Nat} {its:Array Value} {v old:Value} {Q:Value → Shared → Prop} (he:IsEnum s.heap e j n old) (hj:s.heap.IsTupleIter j t n) (ht:s.heap.IsTuple t its) (hv:its[n]? = some v) (hej:e ≠ j)
    (q:∀ h',IsEnumOut h' e j ((n:Int) + 1) v s.heap.objs.size → h'.IsTupleIter j t (n + 1) → h'.get? s.heap.objs.size = some { cls:=.type "tuple",data:=.seq #[.int n s.toks,v] } →
      (∀ b o,b ≠ e → b ≠ j → s.heap.get? b = some o → h'.get? b = some o) → Q (.ref s.heap.objs.size) { s with heap:=h',toks:=s.toks + 1 }) :
    wpAny (model prog w) A (Builtin.«enumerate.__next__» ⟨[.ref e],[]⟩) (fun fin s' => ∃ v,fin = .done (.ret v) ∧ Q v s') E s:=by
  obtain ⟨hp,gg,dd,tk,os⟩:=s
  show wpAny _ _ (field (.ref e) 2 >>= _) _ _ ⟨hp,gg,dd,tk,os⟩
  refine wpAny_bind (wpAny_field he rfl (x:=.ref j) rfl (wpAny_bind (nextT_item hj ht hv fun h1 j1 b1 => ?_)))
  replace b1:Heap.SameBut j hp h1:=b1
  have e1:IsEnum h1 e j n old:=(b1.2 e hej).trans he
  show wpAny _ _ (field (.ref e) 3 >>= _) _ _ ⟨h1,gg,dd,tk,os⟩
  refine wpAny_bind (wpAny_field e1 rfl (x:=rawInt n) rfl ?_)
  show wpAny _ _ (field (.ref e) 4 >>= _) _ _ ⟨h1,gg,dd,tk,os⟩
  refine wpAny_bind (wpAny_field e1 rfl (x:=.none) rfl ?_)
  show wpAny _ _ (mkInt n >>= _) _ _ ⟨h1,gg,dd,tk,os⟩
  refine wpAny_bind (wpAny_mkInt ?_)
  show wpAny _ _ (setField (.ref e) 3 (rawInt ((n:Int) + 1)) >>= _) _ _ ⟨h1,gg,dd,tk + 1,os⟩
  refine wpAny_bind (wpAny_setField_rec e1 (by simp) fun h2 e2 b2 => ?_)
  replace b2:Heap.SameBut e h1 h2:=b2
  replace e2:IsEnum h2 e j ((n:Int) + 1) old:=e2
  show wpAny _ _ (setField (.ref e) 4 .none >>= _) _ _ ⟨h2,gg,dd,tk + 1,os⟩
  refine wpAny_bind (wpAny_setField_rec e2 (by simp) fun h3 e3 b3 => ?_)
  replace b3:Heap.SameBut e h2 h3:=b3
  replace e3:IsEnum h3 e j ((n:Int) + 1) old:=e3
  show wpAny _ _ (newTuple [.int n tk,v] >>= _) _ _ ⟨h3,gg,dd,tk + 1,os⟩
  refine wpAny_bind (wpAny_newTuple ?_)
  have e4:IsEnum (h3.push { cls:=.type "tuple",data:=.seq #[.int n tk,v] }) e j ((n:Int) + 1) old:=Heap.get?_push_of_some _ e3
  generalize g4:h3.push { cls:=.type "tuple",data:=.seq #[.int n tk,v] } = h4 at e4
  have z3:h3.objs.size = hp.objs.size:=by rw [b3.1,b2.1,b1.1]
  have le:e < hp.objs.size:=Heap.lt_size he
  have t4:h4.get? hp.objs.size = some { cls:=.type "tuple",data:=.seq #[.int n tk,v] }:=by rw [← g4,← z3]; exact Heap.get?_push_size _ rfl
  have k4:∀ b o,b ≠ e → b ≠ j → hp.get? b = some o → h4.get? b = some o:=fun b o x y z => by rw [← g4]; exact Heap.get?_push_of_some _ (b3.extBut b o x (b2.extBut b o x (b1.extBut b o y z)))
  have j4:h4.IsTupleIter j t (n + 1):=by
    rw [← g4]
    obtain ⟨o,ho,r⟩:=(j1.extBut b2.extBut (Ne.symm hej)).extBut b3.extBut (Ne.symm hej)
    exact ⟨o,Heap.get?_push_of_some _ ho,r⟩
  show wpAny _ _ (Builtin.SmallTypes.ownedTupleIsFree (.ref e) >>= _) _ _ ⟨h4,gg,dd,tk + 1,os⟩
  rw [z3]
  clear g4 e3 b3 e2 b2 e1 b1 j1 z3 h3 h2 h1
  refine wpAny_bind ?_
  unfold Builtin.SmallTypes.ownedTupleIsFree
  refine wpAny_bind (wpAny_field e4 rfl (x:=.none) rfl (wpAny_pure ?_))
  simp only [if_true]
  refine wpAny_bind (wpAny_rule (wpAny_bind (wpAny_field e4 rfl (x:=old) rfl (wpAny_bind (wpAny_setField_rec e4 (by simp) fun h5 e5 b5 => ?_)))))
  replace b5:Heap.SameBut e h4 h5:=b5
  replace e5:IsEnum h5 e j ((n:Int) + 1) v:=e5
  show wpAny _ _ (Builtin.SmallTypes.ownedTupleHandOut (.ref e) (.ref hp.objs.size) >>= _) _ _ ⟨h5,gg,dd,tk + 1,os⟩
  refine wpAny_bind ?_
  unfold Builtin.SmallTypes.ownedTupleHandOut
  refine wpAny_bind (wpAny_setField_rec e5 (by simp) fun h6 e6 b6 => ?_)
  replace b6:Heap.SameBut e h5 h6:=b6
  replace e6:IsEnumOut h6 e j ((n:Int) + 1) v hp.objs.size:=e6
  refine wpAny_setField_rec e6 (by simp) fun h7 e7 b7 => ?_
  replace b7:Heap.SameBut e h6 h7:=b7
  replace e7:IsEnumOut h7 e j ((n:Int) + 1) v hp.objs.size:=e7
  refine wpAny_bind (wpAny_letGo (wpAny_pure ⟨_,rfl,q h7 e7 ?_ ?_ fun b o x y z => b7.extBut b o x (b6.extBut b o x (b5.extBut b o x (k4 b o x y z)))⟩))
  · exact ((j4.extBut b5.extBut (Ne.symm hej)).extBut b6.extBut (Ne.symm hej)).extBut b7.extBut (Ne.symm hej)
  · exact b7.extBut _ _ (Nat.ne_of_gt le) (b6.extBut _ _ (Nat.ne_of_gt le) (b5.extBut _ _ (Nat.ne_of_gt le) t4))
theorem pyNext_enumT {e j t:Addr} {n:Nat} {its:Array Value} {v old:Value} {Q:Option Value → Shared → Prop} (he:IsEnum s.heap e j n old) (hj:s.heap.IsTupleIter j t n) (ht:s.heap.IsTuple t its) (hv:its[n]? = some v) (hej:e ≠ j)
    (q:∀ h',IsEnumOut h' e j ((n:Int) + 1) v s.heap.objs.size → h'.IsTupleIter j t (n + 1) → h'.get? s.heap.objs.size = some { cls:=.type "tuple",data:=.seq #[.int n s.toks,v] } →
      (∀ b o,b ≠ e → b ≠ j → s.heap.get? b = some o → h'.get? b = some o) → Q (some (.ref s.heap.objs.size)) { s with heap:=h',toks:=s.toks + 1 }):wpAny (model prog w) A (pyNext (.ref e)) Q E s:=by
  have ty:s.TypeIs (.ref e) "enumerate":=⟨_,he,rfl⟩
  unfold pyNext
  exact wpAny_bind (wpAny_attempt (wpAny_callSpecial?_slot (name:=Str.ofString "__next__") ty F.slot_enumerate_next (wpAny_call_entry F.slot_enumerate_next ty F.entry_enumerate_next
    (enumT_next he hj ht hv hej fun h' a b c k => wpAny_pure (q h' a b c k)) (F.args_enumerate_next_1 _))))
theorem pyNext_enumT_end {e j t:Addr} {n:Nat} {its:Array Value} {old:Value} {Q:Option Value → Shared → Prop} (hh:A.handled = none) (he:IsEnum s.heap e j n old) (hj:s.heap.IsTupleIter j t n) (ht:s.heap.IsTuple t its) (hv:its[n]? = none)
    (q:∀ h',Heap.ExtBut j s.heap h' → Q none { s with heap:=h' }):wpAny (model prog w) A (pyNext (.ref e)) Q E s:=by
  have ty:s.TypeIs (.ref e) "enumerate":=⟨_,he,rfl⟩
  unfold pyNext
  refine wpAny_bind (wpAny_attempt (wpAny_callSpecial?_slot (name:=Str.ofString "__next__") ty F.slot_enumerate_next (wpAny_call_entry F.slot_enumerate_next ty F.entry_enumerate_next ?_ (F.args_enumerate_next_1 _))))
  show wpAny _ _ (field (.ref e) 2 >>= _) _ _ s
  refine wpAny_bind (wpAny_field he rfl (x:=.ref j) rfl (wpAny_bind (nextT_end hh hj ht hv fun h' x b ⟨o,ho,hc⟩ => wpAny_bind (wpAny_isInstance (T:="StopIteration") (b:=true) ⟨o,ho,hc⟩ isSubtype_stop (wpAny_pure (q _ b))))))
open AutoSeq1 (wpAny_loadPart') in
theorem enumT_new (t:Addr) (its:Array Value) (n:Nat) (dct:Option Addr) (sl:Array (Option Value)) :
    Meets (Builtin.«enumerate.__new__» ⟨[.type "enumerate",.ref t],[]⟩) (fun _ R s => s.heap.get? t = some { cls:=.type "tuple",dict:=dct,data:=.seq its n,slots:=sl } ∧
      R (.ok (.ret (.ref (s.heap.push { cls:=.type "tuple_iterator",data:=.fields #[.ref t,.int 0 0] }).objs.size)))
        { s with heap:=(s.heap.push { cls:=.type "tuple_iterator",data:=.fields #[.ref t,.int 0 0] }).push { cls:=.type "enumerate",data:=.fields #[.none,.bool false,.ref s.heap.objs.size,rawInt 0,.none,.none] } }) :=
  .of_wp fun prog w A R s h => by
    obtain ⟨hp,gg,dd,tk,os⟩:=s
    obtain ⟨ho,h⟩:=h
    have hsub:=sub_enumerate
    have hT:Heap.IsTuple (Shared.heap ⟨hp,gg,dd,tk,os⟩) t its:=⟨_,ho,rfl,n,rfl⟩
    wp_walk using wpAny_loadPart' ho
    refine wpAny_stack_any fun st => wpAny_pure ?_
    split
    · rename_i c _ _ _ _ _
      cases (c == Value.type "enumerate") <;> (wp_walk using wpAny_loadPart' ho,wpAny_pyIter_tuple hT; exact ⟨_,rfl,h⟩)
    · wp_walk using wpAny_loadPart' ho,wpAny_pyIter_tuple hT
      exact ⟨_,rfl,h⟩
theorem call_enumT {t:Addr} {its:Array Value} {Q:Value → Shared → Prop} (hT:s.heap.IsTuple t its)
    (h:∀ h',IsEnum h' (s.heap.objs.size + 1) s.heap.objs.size 0 .none → h'.IsTupleIter s.heap.objs.size t 0 → (∀ b o,s.heap.get? b = some o → h'.get? b = some o) → Q (.ref (s.heap.objs.size + 1)) { s with heap:=h' }) :
    wpAny (model prog w) A (call (.type "enumerate") [.ref t]) Q E s:=by
  obtain ⟨⟨c,dct,dt,sl⟩,ho,hc,n,hd⟩:=hT
  replace hc:c = .type "tuple":=hc
  replace hd:dt = .seq its n:=hd
  subst hc hd
  refine callType_new F.called_enumerate (by decide) (F.typeCall_enumerate_1 _) (F.newCall_enumerate_1 _) (fun obj => F.args_object_init_2 obj _) F.entry_enumerate_new (enumT_new t its n dct sl) ⟨ho,?_⟩
  have hz:(s.heap.push { cls:=.type "tuple_iterator",data:=.fields #[.ref t,.int 0 0] }).objs.size = s.heap.objs.size + 1:=Heap.size_push ..
  show _ ∧ _
  rw [hz]
  have he:=Heap.get?_push_size (s.heap.push { cls:=.type "tuple_iterator",data:=.fields #[.ref t,.int 0 0] }) (o:={ cls:=.type "enumerate",data:=.fields #[.none,.bool false,.ref s.heap.objs.size,rawInt 0,.none,.none] }) rfl
  rw [hz] at he
  exact ⟨⟨_,he,rfl⟩,h _ he ⟨_,Heap.get?_push_of_some _ (Heap.get?_push_size _ rfl),rfl,rfl⟩ fun b o x => Heap.get?_push_of_some _ (Heap.get?_push_of_some _ x)⟩
end
noncomputable def Iten (K:PySem.W.Frag) (t:Addr):It :=
  ⟨fun i H => ∃ xs x,SqT K H t xs ∧ xs[i]? = some x,fun i H x H' => ∃ p y,H p = none ∧ x = .ref p ∧ H' = upd H p (.tup [.int i,y]) ∧ ∀ xs,SqT K H t xs → xs[i]? = some y,fun i H => ∃ xs,SqT K H t xs ∧ xs.length ≤ i⟩
theorem turn_enumT {P:Program} {w:World} {K:PySem.W.Frag} {es:List Expr} {k:Nat} {pos:Pos} (t e j:Addr) (hej:e ≠ j):Turn P w K (.Tuple es k pos) (Iten K t) [e,j] e (fun i h => (∃ old,IsEnum h e j (i:Nat) old) ∧ h.IsTupleIter j t i) where
  mem:=by simp
  obj:=fun i h st b hb => by
    obtain ⟨⟨old,he⟩,o,ho,_,hd⟩:=st
    rcases List.mem_cons.mp hb with rfl | hb
    · exact ⟨_,he,fun v z => by cases z⟩
    · obtain rfl:=List.mem_singleton.mp hb
      exact ⟨o,ho,fun v z => by rw [hd] at z; cases z⟩
  keep:=fun i h h' st k => by
    obtain ⟨⟨old,he⟩,o,ho,r⟩:=st
    exact ⟨⟨old,k e (by simp) _ he⟩,o,k j (by simp) o ho,r⟩
  item:=by
    intro X hP hw hK hc i pins s σ H E I hf st hg
    subst hP hw hK
    obtain ⟨⟨old,he⟩,hj⟩:=st
    obtain ⟨xs,x,hq,hx⟩:=hg
    obtain ⟨its,rv,p,hz⟩:=I.tuple hq
    obtain ⟨u,hu,ru⟩:=rv.get hx
    have fe:=hf e (by simp)
    have fj:=hf j (by simp)
    have le:e < s.heap.objs.size:=Heap.lt_size he
    have lj:j < s.heap.objs.size:=by obtain ⟨_,q,_⟩:=hj; exact Heap.lt_size q
    refine pyNext_enumT he hj (show s.heap.IsTuple t its.toArray from p) (v:=u) (by simpa using hu) hej fun h1 eo j1 t1 k1 => ⟨_,rfl,?_⟩
    refine wpAny_letOwnedTupleGo_enum eo fun h2 e2 b2 => ?_
    have t2:h2.get? s.heap.objs.size = some { cls:=.type "tuple",data:=.seq #[.int i s.toks,u] }:=(b2.2 _ (Nat.ne_of_gt le)).trans t1
    have hn:H s.heap.objs.size = none:=I.hok.fresh (Nat.le_refl _)
    have I2:Inv X pins σ (upd H s.heap.objs.size (.tup [.int i,x])) { s with heap:=h2,toks:=s.toks + 1 } :=
      I.turned2 (fun b ob x1 x2 z => (b2.2 b x1).trans (k1 b ob x1 x2 z)) fe fj (Nat.le_refl _) ⟨by show 2 ≤ sizeLine; decide,[.int i s.toks,u],.cons ⟨_,rfl⟩ (.cons ru .nil),_,t2,rfl,_,rfl⟩
    refine ⟨.ref s.heap.objs.size,_,I2,rfl,⟨_,x,hn,rfl,rfl,fun ys hy => by rw [I.tuple_inj hy hq]; exact hx⟩,⟨⟨u,?_⟩,?_⟩,fun b hb => ?_⟩
    · have ei:((i + 1:Nat):Int) = (i:Int) + 1:=by omega
      show IsEnum h2 e j ((i + 1:Nat):Int) u
      rw [ei]
      exact e2
    · obtain ⟨o,ho,r⟩:=j1
      exact ⟨o,(b2.2 j (Ne.symm hej)).trans ho,r⟩
    · rcases List.mem_cons.mp hb with rfl | hb
      · rw [upd_ne (Nat.ne_of_lt le)]
        exact fe.1
      · obtain rfl:=List.mem_singleton.mp hb
        rw [upd_ne (Nat.ne_of_lt lj)]
        exact fj.1
  done:=by
    intro X hP hw hK hc i pins s σ H E I hf st hg
    subst hP hw hK
    obtain ⟨⟨old,he⟩,hj⟩:=st
    obtain ⟨xs,hq,hx⟩:=hg
    obtain ⟨its,rv,p,hz⟩:=I.tuple hq
    obtain ⟨f0,f1,f2,f3,f4,f5⟩:=hf j (by simp)
    have hl:=rv.length
    exact pyNext_enumT_end (I.ok.hd hc) he hj (show s.heap.IsTuple t its.toArray from p) (by simp; omega) fun h' eb => ⟨rfl,I.turned (t':=s.toks) (fun b o hb q => eb b o hb q) f0 f1 f3 f4 f5⟩
  self:=fun _ _ _ _ _ st h => by
    obtain ⟨⟨old,he⟩,_⟩:=st
    exact wpAny_pyIter_enum he h
section
variable {X:Cx}
noncomputable def iEnT (K:PySem.W.Frag) (ta:TA):TI:=fun σ H R => ta σ H fun vs H1 => ∃ a xs,vs = [.ref a] ∧ SqT K H1 a xs ∧ R (Iten K a) H1
theorem pi_enT {l:Expr} {es:List Expr} {k:Nat} {ta:TA} {p pos tp:Pos} (hg:Gl X "enumerate") (hm:X.mg "enumerate" = none) (ha:PA X [l] ta) (hs:starEach [l] X.env = [(false,eval l X.env)]:=by rfl) :
    PI X (.Tuple es k tp) (.Call (.Name "enumerate" p) [l] [] pos) (iEnT X.K ta):=by
  intro pins s σ H R I h
  refine Call_ (ld_blt I hg hm boot_enumerate (PyProof.Rows.callWith_type1 (thn (ha pos pins s σ H _ I h) fun us s1 ⟨vs,H1,I1,r1,q1⟩ => ?_) hs rfl))
  obtain ⟨a,xs,e,hq,q⟩:=q1
  subst e
  obtain ⟨u,rfl,ru⟩:=vals1 r1
  cases ru
  obtain ⟨its,rv,pl,hz⟩:=I1.tuple hq
  refine call_enumT (show s1.heap.IsTuple a its.toArray from pl) fun h' he hj kk => ?_
  refine wpAny_pyIter_enum he ⟨s1.heap.objs.size + 1,[s1.heap.objs.size + 1,s1.heap.objs.size],_,_,H1,rfl,I1.kept (t':=s1.toks) kk,turn_enumT a _ _ (Nat.succ_ne_self _),⟨⟨_,he⟩,hj⟩,fun b hb => ?_,q⟩
  rcases List.mem_cons.mp hb with rfl | hb
  · exact I1.fpOk (Nat.le_succ _) (I1.hok.fresh (Nat.le_succ _))
  · obtain rfl:=List.mem_singleton.mp hb
    exact I1.fpOk (Nat.le_refl _) (I1.hok.fresh (Nat.le_refl _))
end
theorem for_enT {K:PySem.W.Frag} {a:Addr} {xs:List V} {g:TG} {tb:TS} {D:Ends} {σ:St} {H:Hp} (Pv:Nat → St → Hp → Prop) (h0:Pv 0 σ H) (hl:∀ i σ H,i ≤ xs.length → Pv i σ H → SqT K H a xs)
    (hs:∀ i y p σ H,xs[i]? = some y → H p = none → Pv i σ H → g (.ref p) σ (upd H p (.tup [.int i,y])) fun σ2 H2 => tb { D with nx:=Pv (i + 1),ct:=Pv (i + 1),bk:=D.nx } σ2 H2) (hd:∀ σ H,Pv xs.length σ H → D.nx σ H) :
    ∃ W:Nat → Nat → St → Hp → Prop,(∃ m,W 0 m σ H) ∧ ∀ i m σ H,W i m σ H →
      ((Iten K a).stop i H ∧ D.nx σ H) ∨ ((Iten K a).go i H ∧ ∃ N:St → Hp → Prop,(∀ σ' H',N σ' H' → ∃ m',m' < m ∧ W (i + 1) m' σ' H') ∧ ∀ x H',(Iten K a).yld i H x H' → g x σ H' fun σ2 H2 => tb { D with nx:=N,ct:=N,bk:=D.nx } σ2 H2):=by
  refine ⟨fun i m σ H => m = xs.length - i ∧ i ≤ xs.length ∧ Pv i σ H,⟨xs.length,by simp,Nat.zero_le _,h0⟩,?_⟩
  rintro i m σ H ⟨rfl,hi,p⟩
  have q:=hl i σ H hi p
  by_cases hlt:i < xs.length
  · refine .inr ⟨⟨xs,xs[i],q,by simp [hlt]⟩,Pv (i + 1),fun σ' H' p' => ⟨xs.length - (i + 1),by omega,rfl,hlt,p'⟩,fun x H' y => ?_⟩
    obtain ⟨b,z,hb,rfl,rfl,hz⟩:=y
    exact hs i z b σ H (hz xs q) hb p
  · obtain rfl:i = xs.length:=by omega
    exact .inl ⟨⟨xs,q,Nat.le_refl _⟩,hd σ H p⟩
end L2
namespace L2
open PySem PySem.Spec PyProof.Rows
section
variable {X:Cx} {pins:List (Addr × Obj)} {σ:St} {H H':Hp} {s:Shared} {h':Heap}
end
section
variable {X:Cx}
end
end L2
namespace L2
open PySem PySem.Spec PyProof.Rows
section
variable {X:Cx} {pins:List (Addr × Obj)} {σ:St} {H:Hp} {s:Shared} {d:Addr} {o:Obj} {u:HO}
end
section
variable {X:Cx}
end
end L2
namespace L2
open PySem PySem.Spec PyProof.Rows
section
variable {X:Cx} {tg:Expr}
end
end L2
namespace L2
open PySem PySem.Spec PyProof.Rows
section
variable {X:Cx} {tg:Expr}
end
end L2
namespace L2
open PySem PySem.Spec PyProof.Rows
section
variable {X:Cx}
end
end L2
namespace L2
open PySem PySem.Spec PyProof.Rows
section
variable {X:Cx} {K:PySem.W.Frag}
theorem pg_two {i j:Nat} {x y:Str} {k:Nat} {px py pt:Pos} (hK:X.K = K) (hc:X.calm = true) (hN:X.N.Nodup) (hi:X.N[i]? = some x) (hx:Loc X.env.scope x) (hfx:X.fn x = true ∨ X.env.scope.names.lookup x = some .local)
    (hj:X.N[j]? = some y) (hy:Loc X.env.scope y) (hfy:X.fn y = true ∨ X.env.scope.names.lookup y = some .local):PG X (.Tuple [.Name x px,.Name y py] k pt) (gTup K 2 (gCons (gName i) (gCons (gName j) gNil))):=by
  subst hK
  exact pg_tup hc (pgs_cons (pg_name hN hi hx hfx) (pgs_cons (pg_name hN hj hy hfy) pgs_nil))
end
end L2
namespace L2
open PySem PySem.Spec PyProof.Rows
end L2
namespace L2
open PySem PySem.Spec PyProof.Rows
noncomputable def excInI (K:PySem.W.Frag) (C:Addr) (bmB:List Value) (newId:String):Bool:=match K.lookup C with | some ⟨.type "type",_,.cls cd,sl⟩ => (match cd.mro,sl.toList with | .ref C' :: bm,[_,_,_,_,some (.builtin n),_] => C' == C && n == newId && !cd.hasDel && PySem.W.tailIn K bmB bm | _,_ => false) | _ => false
structure ExcI (h:Heap) (C:Addr) (bmB:List Value) (newId:String):Prop where
  obj:∃ bm N nm q bs hdct sn sub ab col dd k0 k1 k2 k3 k5,h.get? C = some (excClassObj nm q C N bs bm hdct sn sub ab col dd k0 k1 k2 k3 k5 newId) ∧ OwnTail h bmB bm
section
variable {prog:Program} {w:World} {A:Around} {E:Value → Shared → Prop} {h:Heap} {g:Array GenState} {d:Drawn} {t:Nat} {os:OsState} {K:PySem.W.Frag} {C fI:Addr} {us:List Value}
end
section
variable {prog:Program} {w:World} {A:Around} {E:Value → Shared → Prop} {s:Shared} {env:Env} {K:PySem.W.Frag} {C fI:Addr}
end
end L2
namespace L2
open PySem PySem.Spec PyProof.Rows
section
variable {X:Cx} {pins:List (Addr × Obj)} {σ:St} {H:Hp} {s:Shared} {x:Addr}
end
section
variable {P:Program} {w:World} {K:PySem.W.Frag} {mg:Str → Option Value} {base:Heap}
structure MkX (K:PySem.W.Frag) (C fI:Addr):Prop where
  ex:excInI K C bmVE "ValueError.__new__" = true
  init:PySem.W.findIn K (.ref C) "__init__" = some (some (.ref fI))
  fn:PySem.W.typeIn K (.ref fI) = some (.type "function")
end
end L2
namespace L2
open PySem PySem.Spec PyProof.Rows Builtin Builtin.ObjectAttr
noncomputable def refPass (l:List Value):Bool:=l.dropWhile (fun | .ref _ => true | _ => false) == bmVE
structure ExcSet (K:PySem.W.Frag) (C:Addr):Prop where
  sa:PySem.W.findIn K (.ref C) "__setattr__" = some (some (.builtin "object.__setattr__"))
  po:(PySem.W.clsIn K C).any (fun cd => refPass cd.mro) = true
  hd:PySem.W.hasDictIn K C = true
  ob:PySem.W.mroIn K C (.type "object") = some true
section
variable {prog:Program} {w:World} {A:Around} {E:Value → Shared → Prop} {s:Shared} {K:PySem.W.Frag} {x C:Addr} {name:Str} {v:Value}
end
section
variable {X:Cx} {pins:List (Addr × Obj)} {σ:St} {H H0:Hp} {s s0:Shared} {dx:Addr}
end
section
variable {X:Cx} {o value:Expr} {f:Str} {pos pos':Pos} {ta tv:TE}
end
end L2
namespace L2
open PySem PySem.Spec PyProof.Rows Builtin Builtin.ObjectAttr
structure BaseI (K:PySem.W.Frag) (R:Addr):Prop where
  ga:PySem.W.specialIn K (.ref R) "__getattribute__" = some (some (.builtin "type.__getattribute__"))
  rd:PySem.W.readsIn K R (.type "type") = true
  fi:PySem.W.findCls K (.ref R) (.type "type") "__init__" = some (.val (.builtin "ValueError.__init__"))
section
variable {X:Cx}
end
section
variable {prog:Program} {w:World} {A:Around} {E:Value → Shared → Prop} {s:Shared} {K:PySem.W.Frag} {x D:Addr} {name:Str} {v:Value}
end
section
variable {X:Cx} {e:Expr} {f:Str} {pos:Pos} {ta:TE}
end
end L2
namespace L2
open PySem PySem.Spec PyProof.Rows
structure Shw (d:PyData) (n m:Nat):Prop where
  sh:d.showable = true
  nd:d.hasDict = false
  dp:d.depth ≤ m
  ln:d.shown.length ≤ n
structure Shws (ds:List PyData) (n m:Nat):Prop where
  sh:PyData.showableAll ds = true
  nd:PyData.hasDictAll ds = false
  dp:PyData.depthAll ds ≤ m
  ln:piled (PyData.shownAll ds) ≤ n
section
variable {X:Cx} {k:Nat} {pos:Pos} {e:Expr} {te:TE}
end
end L2
namespace L2
open PySem PySem.Spec PyProof.Rows
section
variable {α β:Type}
noncomputable abbrev Pos1:Shared → Prop:=fun s => 0 < s.toks
noncomputable def Estab (P:Shared → Prop) (t:Sem α):Prop:=∀ (M:Model) (Γ:PySem.Ctx) (Q:α → Pos → Shared → Prop) (E:Value → Pos → Shared → Prop) (p:Pos) (s:Shared),Sem.wp M Γ t Q E p s → Sem.wp M Γ t (fun a p' s' => Q a p' s' ∧ P s') E p s
variable {P:Shared → Prop}
theorem Estab.right {m:Sem α} {f:α → Sem β} (hf:∀ a,Estab P (f a)):Estab P (m >>= f):=fun M Γ Q E p s q => by
  rw [Sem.wp_bind'] at q ⊢
  exact Sem.wp_mono M Γ m (fun a p' s' z => hf a M Γ Q E p' s' z) (fun _ _ _ z => z) p s q
theorem Estab.left {m:Sem α} {f:α → Sem β} (hm:Estab P m) (hf:∀ a,Keeps P (f a)):Estab P (m >>= f):=fun M Γ Q E p s q => by
  rw [Sem.wp_bind'] at q ⊢
  exact Sem.wp_mono M Γ m (fun a p' s' z => Sem.wp_mono M Γ (f a) (fun _ _ _ y => y) (fun _ _ _ y => y.1) p' s' (hf a M Γ Q E p' s' z.2 z.1)) (fun _ _ _ z => z) p s (hm M Γ _ E p s q)
theorem Estab.wpAny {t:Sem α} (k:Estab P t) {M:Model} {A:Around} {Q:α → Shared → Prop} {E:Value → Shared → Prop} {s:Shared} (h:wpAny M A t Q E s):wpAny M A t (fun a s' => Q a s' ∧ P s') E s:=fun Γ p hΓ => k M Γ _ _ p s (h Γ p hΓ)
theorem estab_text (x:Str):Estab Pos1 (mkText x):=fun _ _ _ _ _ s q => ⟨q,Nat.succ_pos s.toks⟩
theorem Keeps.ldP {a:Addr} {pt:Option Value}:Keeps P (loadPart a pt):=fun _ _ _ _ _ _ h ⟨o,e,q⟩ => ⟨o,e,q,h⟩
theorem Keeps.upP {a:Addr} {pt:Option Value} {f:Obj → Obj}:Keeps Pos1 (updatePart a pt f):=fun _ _ _ _ _ _ h q => ⟨q.1,q.2,h⟩
theorem estab_nsSet {n:Addr} {x:Str} {v:Value}:Estab Pos1 (nsSet n x v):=by
  unfold nsSet
  refine Estab.right fun hs => Estab.left (estab_text x) fun key => Keeps.then Keeps.ldP fun o => ?_
  split
  · split
    · exact Keeps.then (Keeps.no _) fun _ => Keeps.upP
    · exact Keeps.upP
  · exact Keeps.no _
theorem estab_store {env:Env} {x:Str} {v:Value} (hk:env.kindOf x = some .local) (hs:env.scope.kind = .function):Estab Pos1 (storeName env x v):=by
  unfold storeName
  rw [hk,hs]
  exact estab_nsSet
theorem estab_env {scope:Scope} {g:Addr} {x:Str} {v:Value} {qual:Str} {func:Option Addr} {code:Value} {bl:Addr} (hk:scope.names.lookup x = some .local) (hs:scope.kind = .function) :
    Estab Pos1 (newFunctionEnv scope g [] [(x,v)] qual func code none bl):=by
  simp only [newFunctionEnv]
  refine Estab.right fun locals => Estab.right fun cells => ?_
  simp only [List.forIn_cons,List.forIn_nil]
  refine Estab.left (Estab.left (Estab.left (estab_store (env:=_) hk hs) fun _ => Keeps.ret _) fun r => ?_) fun _ => Keeps.ret _
  cases r <;> exact Keeps.ret _
end
noncomputable def PSsP (X:Cx) (st:List Stmt) (t:TS):Prop :=
  ∀ (pins:List (Addr × Obj)) (s:Shared) (σ:St) (H:Hp) (D:Ends),0 < s.toks → Inv X pins σ H s → t D σ H → wpAny (model X.prog X.w) X.A (execs st X.env) (SP X pins D) X.xe s
noncomputable def PSP (X:Cx) (st:Stmt) (t:TS):Prop :=
  ∀ (pins:List (Addr × Obj)) (s:Shared) (σ:St) (H:Hp) (D:Ends),0 < s.toks → Inv X pins σ H s → t D σ H → wpAny (model X.prog X.w) X.A (exec st X.env) (SP X pins D) X.xe s
noncomputable def PEP (X:Cx) (e:Expr) (t:TE):Prop :=
  ∀ (pins:List (Addr × Obj)) (s:Shared) (σ:St) (H:Hp) (Q:VK),0 < s.toks → Inv X pins σ H s → t σ H Q → wpAny (model X.prog X.w) X.A (eval e X.env) (fun u s' => 0 < s'.toks ∧ EP X pins σ Q u s') X.xe s
section
variable {X:Cx} {st:Stmt} {rest:List Stmt} {t u:TS} {pos:Pos}
theorem psp_cons (h1:PSP X st t) (h2:PSs X rest u):PSsP X (st :: rest) (tSeq t u):=by
  intro pins s σ H D hp I h
  refine wpAny_execs_cons (thn (h1 pins s σ H { D with nx:=u D } hp I h) fun f s1 q => ?_)
  cases f with
  | next =>
    obtain ⟨σ',H',I',q⟩:=q
    exact h2 pins s1 σ' H' D I' q
  | ret v => exact q
  | brk => exact q
  | cont => exact q
theorem psp_set {i:Nat} {x:Str} {e:Expr} {te:TE} {pos':Pos} (hN:X.N.Nodup) (hi:X.N[i]? = some x) (hx:Loc X.env.scope x) (he:PEP X e te) (hs:swapsWith e (some (.Name x pos')) pos.line X.env = pure false:=by rfl) (hf:X.fn x = true ∨ X.env.scope.names.lookup x = some .local:=by first | exact .inl rfl | exact .inr rfl | assumption) :
    PSP X (.Assign [.Name x pos'] e pos) (tAsg te (gName i)):=by
  intro pins s σ H D hp I h
  refine wpAny_Assign_Name (thn (he pins s σ H _ hp I h) fun v s1 ⟨_,y,H1,I1,r1,q1⟩ => ?_) hs
  exact store_ok I1 hN hi hx r1 (fun s2 I2 => ⟨_,H1,I2,q1⟩) hf
theorem pep_var {i:Nat} {x:Str} (hN:X.N[i]? = some x) (hv:X.env.scope.names.lookup x = some .local) (hd:(x == ("__debug__":Str)) = false:=by decide):PEP X (.Name x pos) (tVar i):=by
  intro pins s σ H Q hp I h
  obtain ⟨v,e,h⟩:=h
  obtain ⟨m,hn,hl⟩:=I.loc
  obtain ⟨u,r,l⟩:=hl i x v hN e (.inl hv)
  rcases l with ⟨hk,hm⟩ | ⟨hk,_⟩
  · exact wpAny_Name (wpAny_loadName_local I.ok.kind hk hn hm ⟨hp,v,H,I,r,h⟩) hd
  · have hk':X.env.kindOf x = some .local:=hv
    rw [hk'] at hk
    rcases hk with z | z <;> cases z
theorem replace_up {prog:Program} {w:World} {A:Around} {E:Value → Shared → Prop} {s:Shared} {x y z:Str} {t u v:Tok} {Q:Value → Shared → Prop} (hu:u ≠ 0) (hv:v ≠ 0) (huv:u ≠ v) (hyz:(y == z) = false) (hb:x.length + (x.length + 1) * z.length ≤ 16777216)
    (hq:∀ t' k,s.toks ≤ k → Q (.str (Txt.replace x y z) t') { s with toks:=k }):wpAny (model prog w) A (call (.builtin "str.replace") [.str x t,.str y u,.str z v]) Q E s:=by
  have few:Builtin.Str.tooLong (x.length + (Builtin.Str.occurrences x y 0 x.length (x.length + 1)).length * z.length) = false:=by
    have a1:=StrLaws.occ_length_le x y 0 x.length (x.length + 1)
    have a2:(Builtin.Str.occurrences x y 0 x.length (x.length + 1)).length * z.length ≤ (x.length + 1) * z.length:=Nat.mul_le_mul_right _ a1
    unfold Builtin.Str.tooLong sizeLine
    exact decide_eq_false (by have e:(2:Nat) ^ 24 = 16777216:=by decide
                              omega)
  refine call_gives F.slot_str_replace (typeIs_str _ _ _) F.entry_str_replace (F.args_str_replace_3 _ _ _) (gives_str_replace x y z t u v fun _ => ⟨by simp [hu,hv],by simp [huv],hyz,few⟩) ?_
  have q2:=hq
  unfold Txt.replace at q2
  cases hc:((Builtin.Str.occurrences x y 0 x.length (x.length + 1)).isEmpty || (y.length == 0 && z.length == 0)) with
  | false =>
    rw [hc] at q2
    simp only [Bool.false_eq_true,if_false] at q2 ⊢
    exact ⟨fits_replaced y hb,q2 _ _ (Nat.le_succ _)⟩
  | true =>
    rw [hc] at q2
    simp only [if_true] at q2 ⊢
    exact q2 t s.toks (Nat.le_refl _)
theorem pep_replace {o:Expr} {to:TE} {y z:Str} {j1 j2:Nat} {p1 p2 apos cpos:Pos} (ho:PEP X o to) (hyz:(y == z) = false) (hz:z.length ≤ 14)
    (hbase:attributeBase o "replace" X.env (eval o X.env) = eval o X.env:=by rfl)
    (hfew:((backTo cpos (starEach [.Constant (.str y) j1 p1,.Constant (.str z) j2 p2] X.env)).all (fun x => !x.1) && (backToKw cpos (keywordEach [] X.env)).all (fun x => x.1.isSome)
      && decide (([.Constant (.str y) j1 p1,.Constant (.str z) j2 p2]:List Expr).length + ([]:List Keyword).length + (if ([]:List Keyword).isEmpty then 0 else 1) < 30)) = true:=by rfl)
    (hline:(apos.endLine == cpos.line) = true:=by rfl) :
    PEP X (.Call (.Attribute o "replace" apos) [.Constant (.str y) j1 p1,.Constant (.str z) j2 p2] [] cpos) (fun σ H Q => to σ H fun v H1 => ∃ x,v = .str x ∧ x.length ≤ 1000000 ∧ Q (.str (Txt.replace x y z)) H1):=by
  intro pins s σ H Q hp I h
  refine wpAny_Call_method_late hbase hfew hline rfl (thn (ho pins s σ H _ hp I h) fun v s1 ⟨hp1,x',H1,I1,r1,x,ex,hl,q1⟩ => ?_)
  subst ex
  obtain ⟨tk,rfl⟩:=(show ∃ t,v = Value.str x t from r1)
  refine ⟨"str","str.replace",PySem.F.plainAttrs_str,PySem.F.slot_str_replace,PySem.F.type_str_replace,typeIs_str _ _ _,(fun _ z => nomatch z),?_⟩
  refine Calls.callWith_builtin rfl (Calls.evalArgs_plain (Calls.spliced_cons (Calls.Constant_str (k:=j1) (pos:=p1) (Calls.spliced_cons (Calls.Constant_str (k:=j2) (pos:=p2) (Calls.spliced_nil ?_))))))
  have hb:x.length + (x.length + 1) * z.length ≤ 16777216:=by
    have a1:(x.length + 1) * z.length ≤ (x.length + 1) * 14:=Nat.mul_le_mul_left _ hz
    omega
  exact replace_up (u:=s1.toks) (v:=s1.toks + 1) (Nat.ne_of_gt hp1) (Nat.succ_ne_zero _) (Nat.ne_of_lt (Nat.lt_succ_self _)) hyz hb fun t' k hk => ⟨Nat.lt_of_lt_of_le (Nat.succ_pos _) hk,.str _,H1,I1.tok k,⟨_,rfl⟩,q1⟩
end
theorem fn_ofP {CX:CXT} {P:Program} {w:World} {K:PySem.W.Frag} {mg:Str → Option Value} {base:Heap} {k:Nat} {f:Addr} {name qual:Str} {params:Arguments} {body:List Stmt} {scope:Scope} {dV kV doc pm cdv ct oc:Value} {an od:Option Addr}
    {osl:Array (Option Value)} {N:List Str} {x:Str} {sp:Sp} (lk:K.lookup f = some ⟨oc,od,.func (PySem.W.fnOf name qual params body scope dV kV doc pm an cdv ct),osl⟩) (hcd:PySem.W.codeIn K cdv qual = true) (S:FnScope N [x] scope) (hloc:scope.names.lookup x = some .local)
    (len:∀ vs H Q E,sp vs H Q E → vs.length = 1)
    (hbody:∀ (A:Around) (outer:List Env) (s:Shared) (H:Hp) (vs:List V) (Q:VK) (E:XK),Room k (A.deeper (envOfC qual scope s.heap.objs.size f cdv)) → sp vs H Q E →
      ∃ t,PSsP (cxOf CX P w K mg base N qual scope f cdv A outer s H E) body t ∧ t { nx:=fun _ H' => Q .non H',rt:=Q } (start N vs) H) :
    FnOk P w K mg base CX (k + 1) f (PySem.W.fnOf name qual params body scope dV kV doc pm an cdv ct) [x] sp:=by
  refine ⟨len,fun A outer s H args us vs Q E hr e0 hb r hsp => ?_⟩
  have hl:=len _ _ _ _ hsp
  obtain ⟨u,rfl⟩:∃ u,us = [u]:=by
    have e:=r.length
    rw [hl] at e
    match us,e with
    | [u],_ => exact ⟨u,rfl⟩
  have KX:K.In s.heap:=e0.mod.kin.keeps fun b o e => (e0.bs b o e).1
  have lim:s.heap.NoLimit:=e0.mod.nolimit.keeps fun b o e => (e0.bs b o e).1
  have hkind:∀ y ∈ [x].zip [u],scope.names.lookup y.1 = some .local ∨ (scope.names.lookup y.1 = some .cell ∧ ((cellsFrom (s.heap.objs.size + 1) scope.names []).lookup y.1).isSome = true):=fun ⟨n,v⟩ hy => by
    have e:(n,v) = (x,u):=List.mem_singleton.mp hy
    cases e
    exact .inl hloc
  refine codeAny_call_function hr.depth (KX _ _ lk) rfl S.co S.gen rfl (PySem.W.codeRec_of KX hcd) (hb _ _ _ _ ?_)
  refine wpAny_mono ((estab_env hloc S.kind).wpAny (wpAny_newFunctionEnv_cells (Q:=fun env s1 => env = newEnv scope s.heap.objs.size _ (cellsFrom (s.heap.objs.size + 1) scope.names []) _ _ _ none _ ∧ InCallC s env.locals (bindL env.kindOf ([x].zip [u]) fun _ => none) env.cells (bindC env.kindOf ([x].zip [u]) fun _ => none) s1) S.kind hkind fun env he s1 y => ⟨he,y⟩)) (fun env s1 z => ?_) fun _ _ z => z
  obtain ⟨⟨he,x1⟩,hp⟩:=z
  subst he
  refine ⟨lim.keeps x1.toInCall.keep,codeAny_func ?_⟩
  obtain ⟨t,ht,hq⟩:=hbody A outer s H vs Q E (hr.deeper _) hsp
  have I:Inv (cxOf CX P w K mg base N qual scope f cdv A outer s H E) [] (start N vs) H s1:=inv_start S hr.hd e0 hl r x1
  refine wpAny_mono (ht [] s1 (start N vs) H _ hp I hq) (fun fl s' hs => ?_) fun e s' hs => hs
  have fin:∀ {σ':St} {H':Hp} {v:V} {u:Value},Inv (cxOf CX P w K mg base N qual scope f cdv A outer s H E) [] σ' H' s' → RelV v u → Q v H' → CE outer P w H s Q u s' :=
    fun {σ' H' v u} J rv q => ⟨v,H',J.os,J.bare,J.base,J.hok,rv,q⟩
  cases fl with
  | ret u =>
    obtain ⟨v,σ',H',J,rv,q⟩:=hs
    exact fin J rv q
  | next =>
    obtain ⟨σ',H',J,q⟩:=hs
    exact fin (v:=V.non) (u:=Value.none) J rfl q
  | brk =>
    obtain ⟨_,_,_,q⟩:=hs
    exact False.elim q
  | cont =>
    obtain ⟨_,_,_,q⟩:=hs
    exact False.elim q
theorem PSsP.nox {X:Cx} {b:List Stmt} {t:TS} (h:PSsP X.nox b t):PSsP X b t:=fun pins s σ H D hp I hw =>
  wpAny_mono (h pins s σ H D hp (I.wish _) hw) (fun _ _ q => q.unwish) fun _ _ z => False.elim z
theorem Fun.okP {P:Program} {w:World} {K:PySem.W.Frag} {mg:Str → Option Value} {base:Heap} {y qual:Str} {st:Stmt} {f:Addr} {fd:FuncData} {N:List Str} {x:Str} {k:Nat} {sp:Sp} (F:Fun K y qual st f fd) (S:FnScope N [x] (defScope st)) (hloc:(defScope st).names.lookup x = some .local) (len:∀ vs H Q E,sp vs H Q E → vs.length = 1)
    (hbody:∀ (cdv:Value) (A:Around) (outer:List Env) (s:Shared) (H:Hp) (vs:List V) (Q:VK) (E:XK),Room k (A.deeper (envOfC qual (defScope st) s.heap.objs.size f cdv)) → sp vs H Q E →
      ∃ t,PSsP (cxOf CX0 P w K mg base N qual (defScope st) f cdv A outer s H E).nox (defBody st) t ∧ t { nx:=fun _ H' => Q .non H',rt:=Q } (start N vs) H):FnOk P w K mg base CX0 (k + 1) f fd [x] sp:=by
  obtain ⟨oc,od,kV,doc,pm,an,cdv,ct,osl,rfl,lk,hcd⟩:=F.ex
  refine fn_ofP lk hcd S hloc len fun A outer s H vs Q E hr hsp => ?_
  obtain ⟨t,h,q⟩:=hbody cdv A outer s H vs Q E hr hsp
  exact ⟨t,h.nox,q⟩
section
variable {X:Cx}
theorem vals_strs:∀ l:List (Str × Tok),Vals ((l.map (·.1)).map V.str) (strValues l)
  | [] => .nil
  | (x,t) :: r => .cons ⟨t,rfl⟩ (vals_strs r)
theorem mt_split:MtR X "str.split" (fun x vs H Q => ∃ z sep,x = .str z ∧ vs = [.str sep] ∧ (sep.length == 0) = false ∧ z.length ≤ 1000000 ∧ (Txt.split z sep).length ≤ 1000000 ∧ ∀ l,H l = none → Q (.ref l) (upd H l (.lst ((Txt.split z sep).map V.str)))):=by
  intro pins s σ H x vs v us Q I rx rv h
  obtain ⟨z,sep,rfl,rfl,h0,hl,hl2,q⟩:=h
  obtain ⟨t,rfl⟩:=rx
  obtain ⟨u1,rfl,r1⟩:=vals1 rv
  obtain ⟨t1,rfl⟩:=r1
  have hz:z.length ≤ sizeLine:=Nat.le_trans hl (by rw [sizeLine_eq]; omega)
  have fin:∀ (l:List (Str × Tok)) (k:Nat),l.map (·.1) = Txt.split z sep → EP X pins σ Q (.ref s.heap.objs.size) { s with toks:=k,heap:=s.heap.push { cls:=.type "list",data:=.seq (strValues l).toArray } }:=fun l k e => by
    refine ⟨.ref s.heap.objs.size,_,I.laid (o:=.lst ((Txt.split z sep).map V.str)) (t':=k) (fun b ob y => Heap.get?_push_of_some _ y) (Nat.le_refl _) ⟨?_,strValues l,_,?_,Heap.get?_push_size _ rfl⟩,rfl,q _ (I.hok.fresh (Nat.le_refl _))⟩
    · rw [List.length_map]
      exact Nat.le_trans hl2 (by rw [sizeLine_eq]; omega)
    · rw [← e]
      exact vals_strs l
  cases h1:(decide (z.length < sep.length) || decide (Builtin.Str.strKind z < Builtin.Str.strKind sep)) with
  | true => exact call_meets F.slot_str_split (typeIs_str _ _ _) F.entry_str_split (F.args_str_split_2 _ _) (meets_str_split_cannot_occur z sep t t1 h1) (fin [(z,t)] s.toks (if_pos h1).symm)
  | false =>
    cases hf:(Builtin.Str.occurrences z sep 0 z.length (z.length + 1)).isEmpty with
    | true => exact call_meets F.slot_str_split (typeIs_str _ _ _) F.entry_str_split (F.args_str_split_2 _ _) (meets_str_split_not_found z sep t t1 h1 h0 hf) (fin [(z,t)] s.toks ((if_neg (ne_true_of_eq_false h1)).trans (if_pos hf)).symm)
    | false =>
      have e3:Txt.split z sep = Builtin.Str.partsBetween z (Builtin.Str.occurrences z sep 0 z.length (z.length + 1)) sep.length:=(if_neg (ne_true_of_eq_false h1)).trans (if_neg (ne_true_of_eq_false hf))
      have hz2:(Builtin.Str.partsBetween z (Builtin.Str.occurrences z sep 0 z.length (z.length + 1)) sep.length).length ≤ sizeLine:=by
        rw [← e3]
        exact Nat.le_trans hl2 (by rw [sizeLine_eq]; omega)
      refine call_meets F.slot_str_split (typeIs_str _ _ _) F.entry_str_split (F.args_str_split_2 _ _) (meets_str_split_sep z sep t t1 h1 h0 hf hz hz2) ?_
      show wants (EP X pins σ Q) X.xe _ { s with toks:=_,heap:=s.heap.push { cls:=.type "list",data:=.seq (strsFrom s.toks (Builtin.Str.partsBetween z (Builtin.Str.occurrences z sep 0 z.length (z.length + 1)) sep.length)).toArray } }
      rw [strsFrom_eq]
      exact fin (numbered s.toks _) _ ((numbered_texts _ _).trans e3.symm)
end
end L2
local macro_rules
  | `(sortPriv% $n:ident) => do
    if n.getId == `rn then return Lean.mkCIdent (Lean.mkPrivateNameCore `PySem.Builtin.Int.W0All `PySem.Builtin.readNumeral)
    if n.getId == `vl then return Lean.mkCIdent (Lean.mkPrivateNameCore `PySem.Builtin.Int.W0All `PySem.Builtin.Numeral.value)
    if n.getId == `nd then return Lean.mkCIdent (Lean.mkPrivateNameCore `PySem.Builtin.Int.W0All `PySem.Builtin.numeralDigits?)
    if n.getId == `bl then return Lean.mkCIdent (Lean.mkPrivateNameCore `PySem.Builtin.Int.W0All `PySem.Builtin.isBlank)
    Lean.Macro.throwUnsupported
namespace L2
open PySem
theorem nd_step (f:Array Nat × Bool → Nat → Option (Array Nat × Bool)) (hf:∀ ds b c,48 ≤ c → c ≤ 57 → f (ds,b) c = some (ds.push (c - 48),true)) :
    ∀ (cs:List Nat) (ds:Array Nat) (b:Bool),(∀ c ∈ cs,48 ≤ c ∧ c ≤ 57) → List.foldlM f (ds,b) cs = some (ds ++ (cs.map (· - 48)).toArray,b || !cs.isEmpty)
  | [],ds,b,_ => by simp
  | c :: cs,ds,b,h => by
    obtain ⟨h1,h2⟩:=h c List.mem_cons_self
    rw [List.foldlM_cons,hf ds b c h1 h2]
    show List.foldlM f (ds.push (c - 48),true) cs = _
    rw [nd_step f hf cs _ _ fun d hd => h d (List.mem_cons_of_mem _ hd)]
    simp
theorem nd_digits (cs:List Nat) (hne:cs ≠ []) (h:∀ c ∈ cs,48 ≤ c ∧ c ≤ 57):(sortPriv% nd) 10 cs = some (cs.map (· - 48)).toArray:=by
  show (List.foldlM _ (#[],false) cs >>= _) = _
  rw [nd_step _ (fun ds b c h1 h2 => ?_) cs #[] false h]
  · cases cs with
    | nil => exact absurd rfl hne
    | cons c r =>
      show some _ = some _
      simp
  · have:c = 48 ∨ c = 49 ∨ c = 50 ∨ c = 51 ∨ c = 52 ∨ c = 53 ∨ c = 54 ∨ c = 55 ∨ c = 56 ∨ c = 57:=by omega
    rcases this with rfl | rfl | rfl | rfl | rfl | rfl | rfl | rfl | rfl | rfl <;> rfl
theorem bl_digit (c:Nat) (h:48 ≤ c ∧ c ≤ 57):(sortPriv% bl) c = false:=by
  have:c = 48 ∨ c = 49 ∨ c = 50 ∨ c = 51 ∨ c = 52 ∨ c = 53 ∨ c = 54 ∨ c = 55 ∨ c = 56 ∨ c = 57:=by omega
  rcases this with rfl | rfl | rfl | rfl | rfl | rfl | rfl | rfl | rfl | rfl <;> rfl
theorem drop_none {p:Nat → Bool}:∀ {cs:List Nat},(∀ c ∈ cs,p c = false) → cs.dropWhile p = cs
  | [],_ => rfl
  | c :: r,h => by rw [List.dropWhile_cons,h c List.mem_cons_self]; rfl
noncomputable def numOf (cs:List Nat):Nat:=cs.foldl (fun a c => a * 10 + (c - 48)) 0
theorem rn_digits (c0:Nat) (r:List Nat) (h0:49 ≤ c0 ∧ c0 ≤ 57) (h:∀ c ∈ r,48 ≤ c ∧ c ≤ 57) (hl:r.length ≤ 100):(sortPriv% rn) 0 10 (c0 :: r) = (sortPriv% vl) (numOf (c0 :: r)):=by
  have hall:∀ c ∈ c0 :: r,48 ≤ c ∧ c ≤ 57:=fun c hc => by
    rcases List.mem_cons.mp hc with rfl | hc
    · omega
    · exact h c hc
  have e2:(List.dropWhile (sortPriv% bl) (c0 :: r).reverse).reverse = c0 :: r:=by
    rw [drop_none fun c hc => bl_digit c (hall c (List.mem_reverse.mp hc)),List.reverse_reverse]
  have e1:(sortPriv% nd) 10 (List.dropWhile (sortPriv% bl) (c0 :: r).reverse).reverse = some ((c0 :: r).map (· - 48)).toArray:=by
    rw [e2]
    exact nd_digits _ (by simp) hall
  have sz:¬ ((c0 :: r).map (· - 48)).toArray.size > 6000:=by
    rw [List.size_toArray,List.length_map,List.length_cons]
    omega
  have fin:((c0 :: r).map (· - 48)).toArray.foldl (fun acc d => acc * 10 + d) 0 = numOf (c0 :: r):=by
    rw [List.foldl_toArray,List.foldl_map]
    rfl
  have:c0 = 49 ∨ c0 = 50 ∨ c0 = 51 ∨ c0 = 52 ∨ c0 = 53 ∨ c0 = 54 ∨ c0 = 55 ∨ c0 = 56 ∨ c0 = 57:=by omega
  rcases this with rfl | rfl | rfl | rfl | rfl | rfl | rfl | rfl | rfl
  all_goals
    conv => lhs; whnf
    rw [drop_none (cs:=_ :: r) fun c hc => bl_digit c (hall c hc),e1]
    dsimp only
    rw [if_neg (by simp),if_neg (by rw [Bool.and_eq_true]; exact fun z => sz (of_decide_eq_true z.2)),fin]
    rfl
noncomputable def NumTx (cs:List Nat):Prop:=cs = [48] ∨ ∃ c0 r,cs = c0 :: r ∧ (49 ≤ c0 ∧ c0 ≤ 57) ∧ (∀ c ∈ r,48 ≤ c ∧ c ≤ 57) ∧ r.length ≤ 100
theorem NumTx.all {cs:List Nat} (h:NumTx cs):(∀ c ∈ cs,48 ≤ c ∧ c ≤ 57) ∧ cs.length ≤ 101:=by
  rcases h with rfl | ⟨c0,r,rfl,h0,hr,hl⟩
  · exact ⟨by decide,by decide⟩
  · refine ⟨fun c hc => ?_,by rw [List.length_cons]; omega⟩
    rcases List.mem_cons.mp hc with rfl | hc
    · omega
    · exact hr c hc
theorem rn_num {cs:List Nat} (h:NumTx cs):(sortPriv% rn) 0 10 cs = (sortPriv% vl) (numOf cs):=by
  rcases h with rfl | ⟨c0,r,rfl,h0,hr,hl⟩
  · rfl
  · exact rn_digits c0 r h0 hr hl
theorem take_all {p:Nat → Bool}:∀ {cs:List Nat},(∀ c ∈ cs,p c = true) → cs.takeWhile p = cs
  | [],_ => rfl
  | c :: r,h => by rw [List.takeWhile_cons,h c List.mem_cons_self,take_all fun d hd => h d (List.mem_cons_of_mem _ hd)]; rfl
theorem nolook_str_int:typeLookup (.type "str") "__int__" = pure none:=by rw [typeLookup_type,builtinLookup_eq_fast]; kernel_rfl
theorem nolook_str_index:typeLookup (.type "str") "__index__" = pure none:=by rw [typeLookup_type,builtinLookup_eq_fast]; kernel_rfl
theorem nolook_str_trunc:typeLookup (.type "str") "__trunc__" = pure none:=by rw [typeLookup_type,builtinLookup_eq_fast]; kernel_rfl
set_option maxHeartbeats 0 in
theorem meets_int_new_str (z:Str) (u:Tok) (h:NumTx z.cps.toList):Meets (Builtin.«int.__new__» ⟨[.type "int",.str z u],[]⟩) (Made.int (numOf z.cps.toList)).spec :=
  Meets.of_wp fun prog w A R s hs => by
    obtain ⟨hp,g,d,tk,os⟩:=s
    have f1:=F.conv_sub_int
    have f2:=F.madeHere_int
    have hT:(⟨hp,g,d,tk,os⟩:Shared).TypeIs (.str z u) "str":=rfl
    have f3:=nolook_str_int
    have f4:=nolook_str_index
    have f5:=nolook_str_trunc
    obtain ⟨ha,hl⟩:=h.all
    have e1:(z.cps.all fun x => decide (x < 128)) = true:=by
      rw [Array.all_eq_true_iff_forall_mem]
      intro x hx
      have:=ha x (by simpa using hx)
      exact decide_eq_true (by omega)
    have e2:List.takeWhile (fun x => x != 0) z.cps.toList = z.cps.toList:=take_all fun c hc => by
      have:=ha c hc
      rw [bne_iff_ne]
      omega
    repeat (any_goals (first | assumption | wp_step))
    rw [if_pos e1,e2,if_pos (by omega)]
    repeat (any_goals (first | assumption | wp_step))
    rw [rn_num h]
    dsimp only
    rw [if_pos (beq_self_eq_true _)]
    repeat (any_goals (first | assumption | wp_step))
    all_goals first | exact ⟨_,rfl,hs⟩ | skip
theorem digit_code {k:Nat} (h:k < 10):(Nat.digitChar k).toNat = 48 + k:=by
  have:k = 0 ∨ k = 1 ∨ k = 2 ∨ k = 3 ∨ k = 4 ∨ k = 5 ∨ k = 6 ∨ k = 7 ∨ k = 8 ∨ k = 9:=by omega
  rcases this with rfl | rfl | rfl | rfl | rfl | rfl | rfl | rfl | rfl | rfl <;> rfl
noncomputable def figs (n:Nat):List Nat:=(Nat.toDigits 10 n).map Char.toNat
theorem figs_lt {n:Nat} (h:n < 10):figs n = [48 + n]:=by
  unfold figs
  rw [Nat.toDigits_of_lt_base h]
  show [(Nat.digitChar n).toNat] = _
  rw [digit_code h]
theorem figs_ge {n:Nat} (h:¬ n < 10):figs n = figs (n / 10) ++ [48 + n % 10]:=by
  unfold figs
  rw [Nat.toDigits_eq_if (by decide),if_neg h,List.map_append]
  show _ ++ [(Nat.digitChar (n % 10)).toNat] = _
  rw [digit_code (Nat.mod_lt _ (by decide))]
theorem numOf_snoc (xs:List Nat) (c:Nat):numOf (xs ++ [c]) = numOf xs * 10 + (c - 48):=by
  unfold numOf
  rw [List.foldl_append]
  rfl
theorem numOf_figs (n:Nat):numOf (figs n) = n:=by
  induction n using Nat.strongRecOn with
  | ind n ih =>
    by_cases h:n < 10
    · rw [figs_lt h]
      show 0 * 10 + (48 + n - 48) = n
      omega
    · rw [figs_ge h,numOf_snoc,ih (n / 10) (by omega)]
      omega
theorem figs_head (n:Nat) (h1:1 ≤ n):∃ c0 r,figs n = c0 :: r ∧ (49 ≤ c0 ∧ c0 ≤ 57) ∧ ∀ c ∈ r,48 ≤ c ∧ c ≤ 57:=by
  induction n using Nat.strongRecOn with
  | ind n ih =>
    by_cases h:n < 10
    · exact ⟨48 + n,[],figs_lt h,⟨by omega,by omega⟩,fun c hc => nomatch hc⟩
    · obtain ⟨c0,r,e,h0,hr⟩:=ih (n / 10) (by omega) (by omega)
      refine ⟨c0,r ++ [48 + n % 10],by rw [figs_ge h,e]; rfl,h0,fun c hc => ?_⟩
      rcases List.mem_append.mp hc with z | z
      · exact hr c z
      · rw [List.mem_singleton.mp z]
        omega
theorem figs_num {n:Nat} (h:n < 10 ^ 101):NumTx (figs n):=by
  by_cases h1:1 ≤ n
  · obtain ⟨c0,r,e,h0,hr⟩:=figs_head n h1
    refine .inr ⟨c0,r,e,h0,hr,?_⟩
    have hl:(Nat.toDigits 10 n).length ≤ 101:=(Nat.length_toDigits_le_iff (by decide) (by decide)).mpr h
    have:=congrArg List.length e
    unfold figs at this
    rw [List.length_map,List.length_cons] at this
    omega
  · have:n = 0:=by omega
    subst this
    exact .inl (figs_lt (by decide))
theorem figs_of (n:Nat):(Str.ofString (toString (n:Int))).cps.toList = figs n:=by
  have e:toString (n:Int) = String.ofList (Nat.toDigits 10 n):=Nat.repr_eq_ofList_toDigits
  rw [e,Str.ofString_eq_toList]
  simp [figs]
section
variable {prog:Program} {w:World} {A:Around} {E:Value → Shared → Prop} {s:Shared}
theorem int_of_text {z:Str} {u:Tok} {Q:Value → Shared → Prop} (hz:NumTx z.cps.toList) (h:Q (.int (numOf z.cps.toList) s.toks) { s with toks:=s.toks + 1 }):wpAny (model prog w) A (call (.type "int") [.str z u]) Q E s :=
  call_int_1 (meets_int_new_str z u hz) (show (Made.int (numOf z.cps.toList)).post _ s from ⟨rfl,h⟩)
end
theorem call_intT {X:Cx}:CallR X (.type "int") (fun xs H Q => ∃ z,xs = [.str z] ∧ NumTx z.cps.toList ∧ Q (.int (numOf z.cps.toList)) H):=by
  intro pins s σ H xs us Q I r h
  obtain ⟨z,rfl,hz,q⟩:=h
  obtain ⟨u,rfl,t,rfl⟩:=vals1 r
  exact int_of_text hz ⟨.int _,H,I.tok _,⟨_,rfl⟩,q⟩
end L2
namespace L2
open PySem PySem.Spec PyProof.Rows
section
variable {X:Cx} {pos:Pos} {e:Expr} {es:List Expr} {te:TE}
noncomputable abbrev TJE:=St → Hp → Str → (Str → Hp → Prop) → Prop
noncomputable def PJE (X:Cx) (es:List Expr) (t:TJE):Prop :=
  ∀ (pins:List (Addr × Obj)) (s:Shared) (σ:St) (H:Hp) (acc:Str) (Z:Str → Hp → Prop),acc.length + 2000000 * es.length ≤ sizeLine → Inv X pins σ H s → t σ H acc Z →
    Joins (model X.prog X.w) X.A X.xe (evalEach es X.env) acc (fun out s1 => out.length ≤ sizeLine ∧ ∃ H1,Inv X pins σ H1 s1 ∧ Z out H1) s
theorem pje_nil:PJE X [] (fun _ H acc Z => Z acc H):=fun _ _ _ H _ _ hz I h => ⟨Nat.le_trans (Nat.le_add_right _ _) hz,H,I,h⟩
theorem pje_cons {tj:TJE} (he:PE X e te) (hr:PJE X es tj):PJE X (e :: es) (fun σ H acc Z => te σ H fun v H1 => ∃ y:Str,v = .str y ∧ y.length ≤ 2000000 ∧ tj σ H1 (acc ++ y) Z):=by
  intro pins s σ H acc Z hz I h
  refine thn (he pins s σ H _ I h) fun u s1 ⟨v,H1,I1,r,y,hv,hy,q⟩ => ?_
  subst hv
  obtain ⟨t,rfl⟩:=r
  have e1:(acc ++ y).length = acc.length + y.length:=by
    show Array.size (acc.cps ++ y.cps) = _
    rw [Array.size_append]
    rfl
  have e2:(e :: es).length = es.length + 1:=rfl
  rw [e2] at hz
  exact ⟨y,t,rfl,by omega,hr pins s1 σ H1 (acc ++ y) Z (by omega) I1 q⟩
theorem pe_fstrE {v1 v2:Expr} {rest:List Expr} {tj:TJE} (hj:PJE X (v1 :: v2 :: rest) tj) (hl:(v1 :: v2 :: rest).length ≤ 8) :
    PE X (.JoinedStr (v1 :: v2 :: rest) pos) (fun σ H Q => tj σ H Str.empty fun out H1 => Q (.str out) H1):=by
  intro pins s σ H Q I h
  have hz:Str.empty.length + 2000000 * (v1 :: v2 :: rest).length ≤ sizeLine:=by
    have e0:Str.empty.length = 0:=rfl
    rw [sizeLine_eq,e0]
    rw [Nat.zero_add]
    exact Nat.le_trans (Nat.mul_le_mul_left _ hl) (Nat.le_of_ble_eq_true rfl)
  refine wpAny_JoinedStr ?_
  have j:=hj pins s σ H Str.empty _ hz I h
  exact pe_fstr.joins_mono _ _ (fun out s1 ⟨h1,H1,I1,q⟩ => ⟨h1,.str out,H1,I1.tok _,⟨_,rfl⟩,q⟩) _ j
theorem pss_no {X:Cx} {ss:List Stmt}:PSs X ss (fun _ _ _ => False):=fun _ _ _ _ _ _ h => h.elim
end
end L2
namespace L2
open PySem PySem.Spec PyProof.Rows
section
variable {prog:Program} {w:World} {A:Around} {R:Result → Shared → Prop} {I S:Addr} {fp wr:List Addr} {n:Nat} {P:Nat → Value → Prop} {St:Nat → Heap → Prop} {d:Value}
end
section
variable {X:Cx} {e:Expr} {es:List Expr} {kws:List Keyword} {t tk:TA} {p pos:Pos}
end
end L2
namespace L2
open PySem PySem.Spec PyProof.Rows
inductive EntOk (w:World):List DictEntry → List (Str × Int) → Prop
  | nil:EntOk w [] []
  | cons {h:Int} {s:Str} {n:Int} {t t':Tok} {es:List DictEntry} {ps:List (Str × Int)}:h = hashStr w s → EntOk w es ps → EntOk w (⟨h,.str s t,.int n t'⟩ :: es) ((s,n) :: ps)
structure DKt (K:PySem.W.Frag) (w:World) (a:Addr) (ps:List (Str × Int)):Prop where
  ns:(a == sysModules) = false
  at_:∀ (P:Program) (h:Heap),K.In h → ∃ vs:List (Key × Value),KV (ps.map fun p => ((Sum.inr p.1:Key),V.int p.2)) vs ∧ h.DictOf (mixKind P w) a vs
theorem ent_ok {P:Program} {w:World} {es:List DictEntry} {ps:List (Str × Int)} (h:EntOk w es ps):∃ vs:List (Key × Value),KV (ps.map fun p => ((Sum.inr p.1:Key),V.int p.2)) vs ∧ Pairs (mixKind P w) es vs ∧ (∀ e ∈ es,∃ k:Key,(mixKind P w).is k e.key = true ∧ e.hash = (mixKind P w).hash k) ∧ vs.map (·.1) = ps.map fun p => (Sum.inr p.1:Key):=by
  induction h with
  | nil => exact ⟨[],.nil,.nil,(fun e he => by cases he),rfl⟩
  | @cons hh s n t t' es ps e _ ih =>
    obtain ⟨vs,a,b,c,d⟩:=ih
    refine ⟨(Sum.inr s,.int n t') :: vs,.cons ⟨rfl,⟨t',rfl⟩⟩ a,.cons (mixKind_str P w s t) rfl b,fun e2 he => ?_,?_⟩
    · rcases List.mem_cons.mp he with rfl | he
      · exact ⟨Sum.inr s,mixKind_str P w s t,e⟩
      · exact c e2 he
    · rw [List.map_cons,List.map_cons,d]
theorem dkt_of {K:PySem.W.Frag} {w:World} {a:Addr} {ps:List (Str × Int)} {es:Array DictEntry} {ep:Nat} (hl:K.lookup a = some ⟨.type "dict",none,.dict es ep,#[]⟩) (hs:(a == sysModules) = false) (he:EntOk w es.toList ps) (nd:(ps.map (·.1)).Nodup):DKt K w a ps:=by
  refine ⟨hs,fun P h hK => ?_⟩
  obtain ⟨vs,v1,v2,v3,v4⟩:=ent_ok (P:=P) he
  refine ⟨vs,v1,_,es,ep,hK _ _ hl,⟨rfl,rfl,rfl⟩,rfl,fun e h2 => v3 e (Array.mem_toList_iff.mpr h2),v2,?_⟩
  rw [v4]
  have:(ps.map fun p => (Sum.inr p.1:Key)) = (ps.map (·.1)).map Sum.inr:=by rw [List.map_map]; rfl
  rw [this]
  exact List.Pairwise.map _ (fun _ _ h z => h (Sum.inr.inj z)) nd
noncomputable def numAtS (ps:List (Str × Int)) (s:Str):Option Int:=(ps.find? fun p => decide (p.1 = s)).map (·.2)
theorem valV_num (ps:List (Str × Int)) (s:Str):valV (ps.map fun p => ((Sum.inr p.1:Key),V.int p.2)) (Sum.inr s) = (numAtS ps s).map V.int:=by
  induction ps with
  | nil => rfl
  | cons p r ih =>
    unfold valV numAtS at ih ⊢
    rw [List.map_cons,List.find?_cons,List.find?_cons]
    by_cases e:p.1 = s
    · rw [decide_eq_true (show (Sum.inr p.1:Key) = Sum.inr s by rw [e]),decide_eq_true e]
      rfl
    · rw [decide_eq_false (show ¬ (Sum.inr p.1:Key) = Sum.inr s from fun z => e (Sum.inr.inj z)),decide_eq_false e]
      exact ih
section
variable {X:Cx} {o i:Expr} {pos:Pos} {td ty:TE}
noncomputable def tDGetK (K:PySem.W.Frag) (w:World) (td ty:TE):TE:=fun σ H Q => td σ H fun x H1 => ty σ H1 fun y H2 => ∃ a ps s n,x = .ref a ∧ DKt K w a ps ∧ y = .str s ∧ numAtS ps s = some n ∧ Q (.int n) H2
noncomputable def tDInK (K:PySem.W.Frag) (w:World) (ty td:TE):TE:=fun σ H Q => ty σ H fun y H1 => td σ H1 fun x H2 => ∃ a ps s,x = .ref a ∧ DKt K w a ps ∧ y = .str s ∧ Q (.bl (numAtS ps s).isSome) H2
theorem pe_dgetK (ho:PE X o td) (hi:PE X i ty) (hs:NoSl i):PE X (.Subscript o i pos) (tDGetK X.K X.w td ty):=by
  intro pins s σ H Q I h
  refine subD_of PySem.F.slot_dict_getitem.lookup hs (thn (ho pins s σ H _ I h) fun u s1 ⟨x,H1,I1,rx,q1⟩ => thn (hi pins s1 σ H1 _ I1 q1) fun iv s2 ⟨y,H2,I2,ry,a,ps,z,n,ex,g,ey,en,q2⟩ => ?_)
  subst ex ey
  obtain rfl:u = Value.ref a:=rx
  obtain ⟨vs,rel,dd⟩:=g.at_ X.prog s2.heap I2.kIn
  obtain ⟨w',hw,rw'⟩:=RelO.some_of (v:=.int n) (o:=valueAt vs (Sum.inr z)) (by have:=rel.val (Sum.inr z); rw [valV_num,en] at this; exact this)
  exact ⟨dd.typeIs,wpAny_getItem_of (kV_is (k:=Sum.inr z) ry) dd.mapOf hw ⟨.int n,H2,I2.tok _,rw',q2⟩⟩
theorem pc_dinK (hi:PE X i ty) (ho:PE X o td):PC X .In i o (tDInK X.K X.w ty td):=by
  intro pins s σ H Q I h
  refine thn (hi pins s σ H _ I h) fun iv s1 ⟨y,H1,I1,ry,q1⟩ => thn (ho pins s1 σ H1 _ I1 q1) fun u s2 ⟨x,H2,I2,rx,a,ps,z,ex,g,ey,q2⟩ => ?_
  subst ex ey
  obtain rfl:u = Value.ref a:=rx
  obtain ⟨vs,rel,dd⟩:=g.at_ X.prog s2.heap I2.kIn
  refine wpAny_in_of (kV_is (k:=Sum.inr z) ry) g.ns dd.mapOf ?_
  have e:=(rel.val (Sum.inr z)).isSome_eq
  rw [valV_num,Option.isSome_map] at e
  rw [← e]
  exact ⟨.bl _,H2,I2.tok _,rfl,q2⟩
end
end L2
namespace L2
open PySem PySem.Spec PyProof.Rows
section
variable {P:Program} {w:World} {K:PySem.W.Frag} {mg:Str → Option Value} {base:Heap}
end
end L2
namespace L2
open PySem PySem.Spec PyProof.Rows
section
variable {prog:Program} {w:World} {A:Around} {E:Value → Shared → Prop} {s:Shared}
end
end L2
namespace L2
open PySem PySem.Spec PyProof.Rows
section
variable {X:Cx}
end
end L2
namespace L2
open PySem PySem.Spec PyProof.Rows
section
variable {X:Cx}
end
end L2
namespace L2
open PySem PySem.Spec PyProof.Rows PySem.Calls
section
variable {prog:Program} {w:World} {K:Type} [DecidableEq K] {knd:HeapKind prog w K} {A:Around} {E:Value → Shared → Prop} {s:Shared}
end
section
variable {X:Cx}
end
end L2
namespace L2
open PySem PySem.Spec PyProof.Rows PySem.W
section
variable {prog:Program} {w:World} {A:Around} {E:Value → Shared → Prop} {s:Shared}
structure RawG (es:Array DictEntry) (lo:Addr) (h:Heap) (as:List Addr):Prop where
  rise:as.Pairwise (· < ·)
  up:∀ a ∈ as,lo < a
  at':∀ (j:Nat) (a:Addr),as[j]? = some a → ∃ en,es[j]? = some en ∧ h.get? a = some { cls:=.type "tuple",data:=.seq #[en.key,en.val] }
end
section
variable {prog:Program} {w:World} {A:Around} {s:Shared} {R:Result → Shared → Prop} {es:Array DictEntry} {ep:Nat}
end
section
variable {prog:Program} {w:World} {A:Around} {E:Value → Shared → Prop} {s:Shared} {r d:Addr} {es:Array DictEntry} {ep:Nat}
end
end L2
namespace L2
open PySem PySem.Spec PyProof.Rows
section
variable {X:Cx}
end
section
variable {prog:Program} {w:World} {A:Around} {E:Value → Shared → Prop} {s:Shared}
end
section
variable {X:Cx} {l:Expr} {tl:TE} {p p2 pos pos2:Pos}
end
end L2
namespace L2
open PySem PySem.Spec PyProof.Rows
section
variable {X:Cx}
end
end L2
namespace L2
open PySem PySem.Spec PyProof.Rows
section
variable {prog:Program} {w:World} {A:Around} {E:Value → Shared → Prop} {s:Shared} {a:Addr} {xs:Array Value} {k:Nat} {sl:Array (Option Value)}
end
section
variable {X:Cx} {pins:List (Addr × Obj)} {σ:St}
end
end L2
namespace L2
open PySem PySem.Spec PyProof.Rows
section
variable {prog:Program} {w:World} {A:Around} {E:Value → Shared → Prop} {s:Shared} {K:Type} [DecidableEq K] {knd:HeapKind prog w K}
end
section
variable {X:Cx}
end
end L2
namespace Tk
open PySem
noncomputable def spl (c:Nat):List Nat → List (List Nat)
  | [] => [[]]
  | a :: r => if a = c then [] :: spl c r else
    match spl c r with
    | [] => [[a]]
    | p :: ps => (a :: p) :: ps
noncomputable def glue (z:List Nat):List (List Nat) → List Nat
  | [] => []
  | [p] => p
  | p :: q :: r => p ++ z ++ glue z (q :: r)
theorem spl_ne (c:Nat):∀ xs,spl c xs ≠ []
  | [] => by simp [spl]
  | a :: r => by
    unfold spl
    split
    · simp
    · cases h:spl c r with
      | nil => simp
      | cons p ps => simp
theorem spl_free {c:Nat}:∀ {w:List Nat},c ∉ w → spl c w = [w]
  | [],_ => rfl
  | a :: r,h => by
    have h1:a ≠ c:=fun e => h (e ▸ List.mem_cons_self)
    have h2:=spl_free (w:=r) fun m => h (List.mem_cons_of_mem _ m)
    unfold spl
    rw [if_neg h1,h2]
theorem spl_app (c:Nat) (b:List Nat):∀ a:List Nat,spl c (a ++ c :: b) = spl c a ++ spl c b
  | [] => by
    show spl c (c :: b) = [] :: spl c b
    rw [spl,if_pos rfl]
  | x :: a => by
    have ih:=spl_app c b a
    show spl c (x :: (a ++ c :: b)) = spl c (x :: a) ++ spl c b
    rw [spl,spl,ih]
    split
    · rfl
    · cases h:spl c a with
      | nil => exact absurd h (spl_ne c a)
      | cons p ps => rfl
theorem spl_glue {c:Nat}:∀ {ps:List (List Nat)},ps ≠ [] → (∀ p ∈ ps,c ∉ p) → spl c (glue [c] ps) = ps
  | [],h,_ => absurd rfl h
  | [p],_,h => spl_free (h p List.mem_cons_self)
  | p :: q :: r,_,h => by
    have ih:=spl_glue (c:=c) (ps:=q :: r) (by simp) fun x hx => h x (List.mem_cons_of_mem _ hx)
    show spl c (p ++ [c] ++ glue [c] (q :: r)) = _
    rw [List.append_assoc]
    show spl c (p ++ c :: glue [c] (q :: r)) = _
    rw [spl_app,ih,spl_free (h p List.mem_cons_self)]
    rfl
noncomputable def rep (c:Nat) (z:List Nat) (a:Nat):List Nat:=if a = c then z else [a]
theorem glue_cons {z p:List Nat}:∀ {ps:List (List Nat)},ps ≠ [] → glue z (p :: ps) = p ++ z ++ glue z ps
  | [],h => absurd rfl h
  | _ :: _,_ => rfl
theorem glue_push {z:List Nat} {a:Nat} {p:List Nat}:∀ {ps:List (List Nat)},glue z ((a :: p) :: ps) = a :: glue z (p :: ps)
  | [] => rfl
  | _ :: _ => rfl
theorem glue_spl (c:Nat) (z:List Nat):∀ xs,glue z (spl c xs) = xs.flatMap (rep c z)
  | [] => rfl
  | a :: r => by
    have ih:=glue_spl c z r
    rw [List.flatMap_cons,spl,rep]
    split
    · rw [glue_cons (spl_ne c r),ih]
      rfl
    · cases h:spl c r with
      | nil => exact absurd h (spl_ne c r)
      | cons p ps =>
        rw [h] at ih
        show glue z ((a :: p) :: ps) = [a] ++ _
        rw [glue_push,ih]
        rfl
noncomputable abbrev lst (x:Str):List Nat:=x.cps.toList
theorem lst_app (a b:Str):lst (a ++ b) = lst a ++ lst b:=by
  show (a.cps ++ b.cps).toList = _
  rw [Array.toList_append]
theorem lst_join (z:Str):∀ ps:List Str,lst (Str.join z ps) = glue (lst z) (ps.map lst)
  | [] => by
    show (Str.empty).cps.toList = []
    rfl
  | [p] => rfl
  | p :: q :: r => by
    have ih:=lst_join z (q :: r)
    show lst (p ++ z ++ Str.join z (q :: r)) = lst p ++ lst z ++ glue (lst z) ((q :: r).map lst)
    rw [lst_app,lst_app,ih]
theorem lst_inj {a b:Str} (h:lst a = lst b):a = b:=by
  obtain ⟨⟨x⟩⟩:=a
  obtain ⟨⟨y⟩⟩:=b
  have e:x = y:=h
  rw [e]
theorem split_lst (x:Str) (c:Nat):(Txt.split x ⟨#[c]⟩).map lst = spl c (lst x):=by
  have h1:=StrLaws.join_split x ⟨#[c]⟩
  have h2:=StrLaws.split_free x c
  have h3:Txt.split x ⟨#[c]⟩ ≠ []:=fun e => by
    have h5:=PyProof.Rows.split_pos x ⟨#[c]⟩
    rw [e] at h5
    exact absurd h5 (by decide)
  have h4:=congrArg lst h1
  rw [lst_join] at h4
  rw [← h4]
  refine (spl_glue (by simpa using h3) fun p hp => ?_).symm
  obtain ⟨q,hq,rfl⟩:=List.mem_map.mp hp
  exact h2 q hq
theorem replace_lst (x z:Str) (c:Nat):lst (Txt.replace x ⟨#[c]⟩ z) = (lst x).flatMap (rep c (lst z)):=by
  rw [StrLaws.replace_one,lst_join,split_lst,glue_spl]
noncomputable def gap (a:Nat):List Nat:=if a = 40 then [32,40,32] else if a = 41 then [32,41,32] else if a = 10 then [32] else [a]
theorem gap_eq (xs:List Nat):((xs.flatMap (rep 40 [32,40,32])).flatMap (rep 41 [32,41,32])).flatMap (rep 10 [32]) = xs.flatMap gap:=by
  rw [List.flatMap_assoc,List.flatMap_assoc]
  congr 1
  funext a
  unfold gap rep
  by_cases h1:a = 40
  · subst h1; rfl
  · by_cases h2:a = 41
    · subst h2; rfl
    · by_cases h3:a = 10
      · subst h3; rfl
      · simp [h1,h2,h3]
noncomputable def toks (xs:List Nat):List (List Nat):=(spl 32 (xs.flatMap gap)).filter fun p => decide (p ≠ [])
theorem toks_sp (a b:List Nat):toks (a ++ 32 :: b) = toks a ++ toks b:=by
  unfold toks
  rw [List.flatMap_append,List.flatMap_cons]
  show List.filter _ (spl 32 (a.flatMap gap ++ 32 :: b.flatMap gap)) = _
  rw [spl_app,List.filter_append]
theorem toks_nl (a b:List Nat):toks (a ++ 10 :: b) = toks a ++ toks b:=by
  unfold toks
  rw [List.flatMap_append,List.flatMap_cons]
  show List.filter _ (spl 32 (a.flatMap gap ++ 32 :: b.flatMap gap)) = _
  rw [spl_app,List.filter_append]
theorem toks_op (a b:List Nat):toks (a ++ 40 :: b) = toks a ++ [40] :: toks b:=by
  unfold toks
  rw [List.flatMap_append,List.flatMap_cons]
  show List.filter _ (spl 32 (a.flatMap gap ++ 32 :: ([40] ++ 32 :: b.flatMap gap))) = _
  rw [spl_app,spl_app,List.filter_append,List.filter_append,spl_free (w:=[40]) (by decide)]
  rfl
theorem toks_cl (a b:List Nat):toks (a ++ 41 :: b) = toks a ++ [41] :: toks b:=by
  unfold toks
  rw [List.flatMap_append,List.flatMap_cons]
  show List.filter _ (spl 32 (a.flatMap gap ++ 32 :: ([41] ++ 32 :: b.flatMap gap))) = _
  rw [spl_app,spl_app,List.filter_append,List.filter_append,spl_free (w:=[41]) (by decide)]
  rfl
noncomputable def Word (w:List Nat):Prop:=w ≠ [] ∧ ∀ c ∈ w,c ≠ 40 ∧ c ≠ 41 ∧ c ≠ 10 ∧ c ≠ 32
theorem gap_word:∀ {w:List Nat},(∀ c ∈ w,c ≠ 40 ∧ c ≠ 41 ∧ c ≠ 10 ∧ c ≠ 32) → w.flatMap gap = w
  | [],_ => rfl
  | a :: r,h => by
    obtain ⟨h1,h2,h3,_⟩:=h a List.mem_cons_self
    rw [List.flatMap_cons,gap_word fun c hc => h c (List.mem_cons_of_mem _ hc)]
    unfold gap
    rw [if_neg h1,if_neg h2,if_neg h3]
    rfl
theorem toks_word {w:List Nat} (h:Word w):toks w = [w]:=by
  unfold toks
  rw [gap_word h.2,spl_free fun m => (h.2 _ m).2.2.2 rfl]
  simp [h.1]
end Tk
namespace K17
open PySem L2
noncomputable def top (i:Nat):Stmt:=PySem.Challenge.pw_sealhouse_k17_houses_read_and_written.main.body.getD i (.Pass ⟨0,0,0,0⟩)
noncomputable abbrev sTrees:Stmt:=top 6
noncomputable abbrev sPiecesOf:Stmt:=top 7
noncomputable abbrev sTextOf:Stmt:=top 8
noncomputable abbrev sTreeText:Stmt:=top 9
noncomputable abbrev sPieces:Stmt:=top 10
noncomputable abbrev sName:Stmt:=top 22
noncomputable abbrev sNum:Stmt:=top 23
noncomputable abbrev sReadHouse:Stmt:=top 24
noncomputable abbrev sBracket:Stmt:=top 25
noncomputable abbrev sAhead:Stmt:=top 26
noncomputable abbrev sNameOf:Stmt:=top 27
noncomputable abbrev sNumberOf:Stmt:=top 28
noncomputable abbrev sSizeOf:Stmt:=top 29
noncomputable abbrev sNearFar:Stmt:=top 30
noncomputable abbrev sKindOf:Stmt:=top 31
noncomputable abbrev sExOf:Stmt:=top 32
noncomputable abbrev sExsOf:Stmt:=top 33
noncomputable abbrev sLitOf:Stmt:=top 34
noncomputable abbrev sCallOf:Stmt:=top 35
noncomputable abbrev sDeclOf:Stmt:=top 36
noncomputable abbrev sFaceOf:Stmt:=top 37
noncomputable abbrev sPartOf:Stmt:=top 38
noncomputable abbrev sMakerOf:Stmt:=top 39
noncomputable abbrev sMadeOf:Stmt:=top 40
noncomputable abbrev sFormalOf:Stmt:=top 41
noncomputable abbrev sSealOf:Stmt:=top 42
noncomputable abbrev sRefOf:Stmt:=top 43
noncomputable abbrev sNamed:Stmt:=top 44
noncomputable abbrev sFI:Stmt:=top 45
noncomputable abbrev sPIs:Stmt:=top 46
noncomputable abbrev sPI:Stmt:=top 47
noncomputable abbrev sWithin:Stmt:=top 50
noncomputable abbrev sHouseText:Stmt:=top 52
noncomputable abbrev sNearFarW:Stmt:=top 53
noncomputable abbrev sKindTree:Stmt:=top 54
noncomputable abbrev sExTree:Stmt:=top 55
noncomputable abbrev sWords:Stmt:=top 56
noncomputable abbrev sDeclTree:Stmt:=top 57
noncomputable abbrev sSealTree:Stmt:=top 58
noncomputable abbrev sNamedTr:Stmt:=top 59
noncomputable abbrev sFITr:Stmt:=top 60
noncomputable abbrev sPIsTr:Stmt:=top 61
noncomputable abbrev sPITr:Stmt:=top 62
noncomputable abbrev sCell:Stmt:=top 64
noncomputable abbrev sNameL:Stmt:=top 65
noncomputable abbrev sSizeL:Stmt:=top 66
noncomputable abbrev sKindL:Stmt:=top 67
noncomputable abbrev sKindsL:Stmt:=top 68
noncomputable abbrev sRowsL:Stmt:=top 69
noncomputable abbrev sWantL:Stmt:=top 70
noncomputable abbrev sSealL:Stmt:=top 71
noncomputable abbrev sExL:Stmt:=top 72
noncomputable abbrev sFIL:Stmt:=top 73
noncomputable abbrev sPIL:Stmt:=top 74
noncomputable abbrev sFormalsL:Stmt:=top 75
noncomputable abbrev sDeclL:Stmt:=top 76
noncomputable abbrev sTokens:Stmt:=top 77
noncomputable abbrev sWritten:Stmt:=top 78
noncomputable abbrev sLoose:Stmt:=top 79
noncomputable abbrev sAlike:Stmt:=top 80
noncomputable abbrev sSame:Stmt:=top 81
noncomputable abbrev sLaw:Stmt:=top 82
theorem small {n:Nat} (h:n ≤ 1000):n ≤ sizeLine:=Nat.le_of_lt (small1000 h)
theorem mid {n:Nat} (h:n ≤ 1000000):n < sizeLine:=Nat.lt_of_le_of_lt h (by rw [sizeLine_eq]; decide)
theorem same_new {H:Hp} {p:Addr} (h:H p = none) (o:HO):Same H (upd H p o):=fun b u q => by rw [upd_ne (ne_of_none q h)]; exact q
theorem sput {H H2:Hp} {a:Addr} {o:HO} (e:Same H H2) (h:H a = none):Same H (upd H2 a o):=fun b u q => by rw [upd_ne (ne_of_none q h)]; exact e b u q
theorem Same.free {H H':Hp} {a:Addr} (e:Same H H') (h:H' a = none):H a = none:=by
  cases q:H a with
  | none => rfl
  | some o => rw [e a o q] at h; cases h
noncomputable abbrev cps (x:Str):List Nat:=Tk.lst x
theorem cps_len (a:Str):(cps a).length = a.length:=by simp [Str.length]
inductive Tr where
  | w (s:Str)
  | n (ts:List Tr)
mutual
noncomputable def Tr.flat:Tr → List (List Nat)
  | .w s => [cps s]
  | .n ts => [40] :: (flats ts ++ [[41]])
noncomputable def flats:List Tr → List (List Nat)
  | [] => []
  | t :: ts => t.flat ++ flats ts
end
mutual
noncomputable def Tr.text:Tr → List Nat
  | .w s => cps s
  | .n ts => 40 :: (inner ts ++ [41])
noncomputable def inner:List Tr → List Nat
  | [] => []
  | t :: ts => t.text ++ tails ts
noncomputable def tails:List Tr → List Nat
  | [] => []
  | t :: ts => 32 :: (t.text ++ tails ts)
end
mutual
noncomputable def Tr.ok:Tr → Prop
  | .w s => Tk.Word (cps s)
  | .n ts => oks ts
noncomputable def oks:List Tr → Prop
  | [] => True
  | t :: ts => t.ok ∧ oks ts
end
mutual
noncomputable def Tr.wt:Tr → Nat
  | .w _ => 1
  | .n ts => 3 + wts ts
noncomputable def wts:List Tr → Nat
  | [] => 0
  | t :: ts => t.wt + 1 + wts ts
end
theorem flats_app:∀ a b:List Tr,flats (a ++ b) = flats a ++ flats b
  | [],b => rfl
  | t :: a,b => by
    show t.flat ++ flats (a ++ b) = (t.flat ++ flats a) ++ flats b
    rw [flats_app a b,List.append_assoc]
theorem flats_one (t:Tr):flats [t] = t.flat:=List.append_nil _
theorem oks_app:∀ {a b:List Tr},oks a → oks b → oks (a ++ b)
  | [],_,_,h => h
  | _ :: _,_,⟨h1,h2⟩,h => ⟨h1,oks_app h2 h⟩
mutual
theorem toks_text:∀ {t:Tr},t.ok → Tk.toks t.text = t.flat
  | .w s,h => Tk.toks_word h
  | .n ts,h => by
    show Tk.toks ([] ++ 40 :: (inner ts ++ 41 :: [])) = [40] :: (flats ts ++ [[41]])
    rw [Tk.toks_op,Tk.toks_cl,toks_inner h]
    rfl
theorem toks_inner:∀ {ts:List Tr},oks ts → Tk.toks (inner ts) = flats ts
  | [],_ => rfl
  | t :: ts,⟨h1,h2⟩ => by
    show Tk.toks (t.text ++ tails ts) = t.flat ++ flats ts
    rw [toks_tails h2,toks_text h1]
theorem toks_tails:∀ {ts:List Tr},oks ts → ∀ {a:List Nat},Tk.toks (a ++ tails ts) = Tk.toks a ++ flats ts
  | [],_,a => by
    show Tk.toks (a ++ []) = Tk.toks a ++ []
    rw [List.append_nil,List.append_nil]
  | t :: ts,⟨h1,h2⟩,a => by
    show Tk.toks (a ++ 32 :: (t.text ++ tails ts)) = Tk.toks a ++ (t.flat ++ flats ts)
    rw [Tk.toks_sp,toks_tails h2,toks_text h1]
end
noncomputable def lines:List Tr → List Nat
  | [] => []
  | [t] => t.text
  | t :: u :: r => t.text ++ 10 :: lines (u :: r)
theorem toks_lines:∀ {ts:List Tr},oks ts → Tk.toks (lines ts) = flats ts
  | [],_ => rfl
  | [t],⟨h,_⟩ => by
    show Tk.toks t.text = t.flat ++ []
    rw [List.append_nil,toks_text h]
  | t :: u :: r,⟨h1,h2⟩ => by
    show Tk.toks (t.text ++ 10 :: lines (u :: r)) = t.flat ++ flats (u :: r)
    rw [Tk.toks_nl,toks_text h1,toks_lines h2]
mutual
theorem text_wt:∀ t:Tr,t.text.length ≤ (t.flat.map List.length).sum + t.wt
  | .w s => by
    show (cps s).length ≤ ([cps s].map List.length).sum + 1
    simp
  | .n ts => by
    have h:=inner_wt ts
    show (40 :: (inner ts ++ [41])).length ≤ (([40] :: (flats ts ++ [[41]])).map List.length).sum + (3 + wts ts)
    simp only [List.length_cons,List.length_append,List.map_cons,List.map_append,List.sum_cons,List.sum_append,List.map_nil,List.sum_nil,List.length_nil]
    omega
theorem inner_wt:∀ ts:List Tr,(inner ts).length ≤ ((flats ts).map List.length).sum + wts ts
  | [] => Nat.zero_le _
  | t :: ts => by
    have h1:=text_wt t
    have h2:=tails_wt ts
    show (t.text ++ tails ts).length ≤ ((t.flat ++ flats ts).map List.length).sum + (t.wt + 1 + wts ts)
    rw [List.length_append,List.map_append,List.sum_append]
    omega
theorem tails_wt:∀ ts:List Tr,(tails ts).length ≤ ((flats ts).map List.length).sum + wts ts
  | [] => Nat.zero_le _
  | t :: ts => by
    have h1:=text_wt t
    have h2:=tails_wt ts
    show (32 :: (t.text ++ tails ts)).length ≤ ((t.flat ++ flats ts).map List.length).sum + (t.wt + 1 + wts ts)
    rw [List.length_cons,List.length_append,List.map_append,List.sum_append]
    omega
end
mutual
theorem wt_flat:∀ t:Tr,t.wt + 1 ≤ 3 * t.flat.length
  | .w s => by show 2 ≤ 3 * 1; decide
  | .n ts => by
    have h:=wts_flat ts
    show 3 + wts ts + 1 ≤ 3 * ([40] :: (flats ts ++ [[41]])).length
    rw [List.length_cons,List.length_append]
    show 3 + wts ts + 1 ≤ 3 * ((flats ts).length + 1 + 1)
    omega
theorem wts_flat:∀ ts:List Tr,wts ts ≤ 3 * (flats ts).length
  | [] => Nat.zero_le _
  | t :: ts => by
    have h1:=wt_flat t
    have h2:=wts_flat ts
    show t.wt + 1 + wts ts ≤ 3 * (t.flat ++ flats ts).length
    rw [List.length_append]
    omega
end
mutual
inductive TrAt (K:PySem.W.Frag) (H:Hp):V → Tr → Prop
  | w (s:Str):TrAt K H (.str s) (.w s)
  | n {a:Addr} {xs:List V} {ts:List Tr}:H a = some (.tup xs) → TrsAt K H xs ts → TrAt K H (.ref a) (.n ts)
inductive TrsAt (K:PySem.W.Frag) (H:Hp):List V → List Tr → Prop
  | nil:TrsAt K H [] []
  | cons {x:V} {t:Tr} {xs:List V} {ts:List Tr}:TrAt K H x t → TrsAt K H xs ts → TrsAt K H (x :: xs) (t :: ts)
end
mutual
theorem TrAt.keep {K:PySem.W.Frag} {H H':Hp} (e:∀ a xs,H a = some (.tup xs) → H' a = some (.tup xs)):∀ {x:V} {t:Tr},TrAt K H x t → TrAt K H' x t
  | _,_,.w s => .w s
  | _,_,.n h r => .n (e _ _ h) (TrsAt.keep e r)
theorem TrsAt.keep {K:PySem.W.Frag} {H H':Hp} (e:∀ a xs,H a = some (.tup xs) → H' a = some (.tup xs)):∀ {xs:List V} {ts:List Tr},TrsAt K H xs ts → TrsAt K H' xs ts
  | _,_,.nil => .nil
  | _,_,.cons h r => .cons (TrAt.keep e h) (TrsAt.keep e r)
end
theorem TrsAt.append {K:PySem.W.Frag} {H:Hp}:∀ {xs ys:List V} {ts us:List Tr},TrsAt K H xs ts → TrsAt K H ys us → TrsAt K H (xs ++ ys) (ts ++ us)
  | _,_,_,_,.nil,h => h
  | _,_,_,_,.cons a r,h => .cons a (r.append h)
theorem TrsAt.length {K:PySem.W.Frag} {H:Hp}:∀ {xs:List V} {ts:List Tr},TrsAt K H xs ts → xs.length = ts.length
  | _,_,.nil => rfl
  | _,_,.cons _ r => congrArg (· + 1) r.length
theorem TrsAt.snoc {K:PySem.W.Frag} {H:Hp}:∀ {us:List V} {v:V} {ts:List Tr},TrsAt K H (us ++ [v]) ts → ∃ ls t,ts = ls ++ [t] ∧ TrsAt K H us ls ∧ TrAt K H v t
  | [],_,_,.cons h .nil => ⟨[],_,rfl,.nil,h⟩
  | _ :: _,_,_,.cons h r => by
    obtain ⟨ls,t,rfl,h1,h2⟩:=r.snoc
    exact ⟨_ :: ls,t,rfl,.cons h h1,h2⟩
theorem TrsAt.get {K:PySem.W.Frag} {H:Hp}:∀ {xs:List V} {ts:List Tr},TrsAt K H xs ts → ∀ {i:Nat} {x:V},xs[i]? = some x → ∃ t,ts[i]? = some t ∧ TrAt K H x t
  | _,_,.cons h r,0,x,e => by
    cases (show some _ = some x from e)
    exact ⟨_,rfl,h⟩
  | _,_,.cons h r,i + 1,x,e => r.get (i:=i) e
theorem TrsAt.rev {K:PySem.W.Frag} {H:Hp}:∀ {xs:List V} {ts:List Tr},TrsAt K H xs ts → TrsAt K H xs.reverse ts.reverse
  | _,_,.nil => .nil
  | _,_,.cons h r => by
    rw [List.reverse_cons,List.reverse_cons]
    exact r.rev.append (.cons h .nil)
theorem TrAt.same {K:PySem.W.Frag} {H H':Hp} (e:Same H H') {x:V} {t:Tr} (h:TrAt K H x t):TrAt K H' x t:=h.keep fun _ _ q => e _ _ q
theorem TrsAt.same {K:PySem.W.Frag} {H H':Hp} (e:Same H H') {xs:List V} {ts:List Tr} (h:TrsAt K H xs ts):TrsAt K H' xs ts:=h.keep fun _ _ q => e _ _ q
end K17
namespace K17
open PySem L2
noncomputable def rowV:List V → List V
  | [] => []
  | x :: xs => x :: xs.flatMap fun u => [V.str " ",u]
noncomputable def rowT:List Tr → List Tr
  | [] => []
  | t :: ts => t :: ts.flatMap fun u => [.w " ",u]
theorem rowV_snoc (xs:List V) (u:V):rowV (xs ++ [u]) = rowV xs ++ (if 0 < xs.length then [V.str " ",u] else [u]):=by
  cases xs with
  | nil => rfl
  | cons x r =>
    rw [if_pos (by simp)]
    show x :: (r ++ [u]).flatMap _ = (x :: r.flatMap _) ++ _
    rw [List.flatMap_append]
    rfl
theorem rowV_len:∀ xs:List V,(rowV xs).length ≤ 2 * xs.length
  | [] => Nat.le_refl _
  | x :: xs => by
    have h:∀ l:List V,(l.flatMap fun u => [V.str " ",u]).length = 2 * l.length:=fun l => by
      induction l with
      | nil => rfl
      | cons a r ih => rw [List.flatMap_cons,List.length_append,ih]; simp only [List.length_cons,List.length_nil]; omega
    show (x :: xs.flatMap fun u => [V.str " ",u]).length ≤ _
    rw [List.length_cons,h]
    simp only [List.length_cons]
    omega
theorem row_at {K:PySem.W.Frag} {H:Hp}:∀ {xs:List V} {ts:List Tr},TrsAt K H xs ts → TrsAt K H (rowV xs) (rowT ts)
  | _,_,.nil => .nil
  | _,_,.cons (xs:=r) (ts:=us) h t => by
    refine .cons h ?_
    have go:∀ {xs:List V} {ts:List Tr},TrsAt K H xs ts → TrsAt K H (xs.flatMap fun u => [V.str " ",u]) (ts.flatMap fun u => [.w " ",u]):=by
      intro xs ts q
      induction xs generalizing ts with
      | nil => cases q; exact .nil
      | cons y ys ih =>
        cases q with
        | cons q1 q2 => exact .cons (.w _) (.cons q1 (ih q2))
    exact go t
noncomputable def cat (is:List Tr):List Nat:=is.flatMap Tr.text
noncomputable def wsum (is:List Tr):Nat:=(is.map Tr.wt).sum
theorem cat_app (a b:List Tr):cat (a ++ b) = cat a ++ cat b:=List.flatMap_append ..
theorem cat_one (t:Tr):cat [t] = t.text:=List.append_nil _
theorem wsum_app (a b:List Tr):wsum (a ++ b) = wsum a + wsum b:=by
  unfold wsum
  rw [List.map_append,List.sum_append]
theorem wsum_one (t:Tr):wsum [t] = t.wt:=Nat.add_zero _
theorem wsum_rev (a:List Tr):wsum a.reverse = wsum a:=by
  unfold wsum
  rw [List.map_reverse,List.sum_reverse]
theorem wt_pos:∀ t:Tr,0 < t.wt
  | .w _ => Nat.one_pos
  | .n ts => by show 0 < 3 + wts ts; omega
theorem len_wsum:∀ is:List Tr,is.length ≤ wsum is
  | [] => Nat.le_refl _
  | t :: r => by
    have h1:=len_wsum r
    have h2:=wt_pos t
    show r.length + 1 ≤ t.wt + wsum r
    omega
theorem tails_row:∀ ts:List Tr,cat (ts.flatMap fun u => [.w " ",u]) = tails ts
  | [] => rfl
  | t :: ts => by
    have ih:=tails_row ts
    show cat ([.w " ",t] ++ ts.flatMap _) = 32 :: (t.text ++ tails ts)
    rw [cat_app,ih]
    show (cps " " ++ (t.text ++ [])) ++ _ = _
    rw [List.append_nil]
    rfl
theorem cat_row:∀ ts:List Tr,cat (rowT ts) = inner ts
  | [] => rfl
  | t :: ts => by
    show t.text ++ cat (ts.flatMap _) = t.text ++ tails ts
    rw [tails_row]
theorem wsum_tails:∀ ts:List Tr,wsum (ts.flatMap fun u => [.w " ",u]) = wts ts
  | [] => rfl
  | t :: ts => by
    have ih:=wsum_tails ts
    show wsum ([.w " ",t] ++ ts.flatMap _) = t.wt + 1 + wts ts
    rw [wsum_app,ih]
    show 1 + (t.wt + 0) + wts ts = _
    omega
theorem wsum_row:∀ ts:List Tr,wsum (rowT ts) ≤ wts ts
  | [] => Nat.le_refl _
  | t :: ts => by
    show t.wt + wsum (ts.flatMap _) ≤ t.wt + 1 + wts ts
    rw [wsum_tails]
    omega
noncomputable def bits (ts:List Tr):List Tr:=.w "(" :: (rowT ts ++ [.w ")"])
noncomputable def bitsV (xs:List V):List V:=.str "(" :: (rowV xs ++ [.str ")"])
theorem cat_bits (ts:List Tr):cat (bits ts) = (Tr.n ts).text:=by
  show cps "(" ++ cat (rowT ts ++ [.w ")"]) = 40 :: (inner ts ++ [41])
  rw [cat_app,cat_row,cat_one]
  rfl
theorem wsum_bits (ts:List Tr):wsum (bits ts) < (Tr.n ts).wt:=by
  have h:=wsum_row ts
  show 1 + wsum (rowT ts ++ [.w ")"]) < 3 + wts ts
  rw [wsum_app,wsum_one]
  show 1 + (wsum (rowT ts) + 1) < _
  omega
theorem bits_at {K:PySem.W.Frag} {H:Hp} {xs:List V} {ts:List Tr} (h:TrsAt K H xs ts):TrsAt K H (bitsV xs) (bits ts):=.cons (.w _) ((row_at h).append (.cons (.w _) .nil))
noncomputable def spPieces (K:PySem.W.Frag):Sp:=fun vs H Q _ => ∃ (p:Addr) (xs:List V),vs = [.ref p] ∧ SqT K H p xs ∧ xs.length ≤ 10000 ∧ ∀ H' (l:Addr),Same H H' → H l = none → H' l = some (.lst (bitsV xs)) → Q (.ref l) H'
section
variable {P:Program} {w:World} {K:PySem.W.Frag} {mg:Str → Option Value} {base:Heap}
theorem scPieces:FnScope ["trees","pieces","place","tree"] ["trees"] (defScope sPieces):=⟨rfl,rfl,rfl,by decide +kernel,rfl,by decide +kernel,by decide +kernel⟩
set_option maxHeartbeats 0 in
theorem ok_pieces {f:Addr} {fd:FuncData} (F:Fun K "bracket_pieces" "bracket_pieces" sPieces f fd) (me:mg "enumerate" = none):FnOk P w K mg base CX0 1 f fd ["trees"] (spPieces K):=by
  refine F.ok scPieces (fun vs H Q E h => ?_) (fun cdv A outer s H vs Q E hr h => ?_)
  · obtain ⟨p,xs,rfl,_⟩:=h
    rfl
  obtain ⟨p,xs,rfl,hp,hx,q⟩:=h
  refine ⟨_,pss_cons (ps_set (i:=1) scPieces.nd rfl (Or.inl rfl) (pe_lst (pa_cons pe_str pa_nil)))
    (pss_cons (ps_for PassesOwn.never rfl (pi_enT rfl me (pa_cons (pv 0) pa_nil)) (pg_tup rfl (pgs_cons (pg_name (i:=2) scPieces.nd rfl (Or.inl rfl)) (pgs_cons (pg_name (i:=3) scPieces.nd rfl (Or.inl rfl)) pgs_nil)))
      (pss_cons (ps_if (pt_cmpR op_gt (pv 2) pe_int (nomark _)) (pss_one (ps_expr (pe_bm PySem.F.plainAttrs_list PySem.F.slot_list_append PySem.F.type_list_append mt_append (pv 1) (pa_cons pe_str pa_nil)))) pss_nil)
      (pss_one (ps_expr (pe_bm PySem.F.plainAttrs_list PySem.F.slot_list_append PySem.F.type_list_append mt_append (pv 1) (pa_cons (pv 3) pa_nil))))))
    (pss_cons (ps_expr (pe_bm PySem.F.plainAttrs_list PySem.F.slot_list_append PySem.F.type_list_append mt_append (pv 1) (pa_cons pe_str pa_nil)))
    (pss_one (ps_ret (pv 1))))),?_⟩
  refine ⟨(by show 1 ≤ sizeLine; decide),fun l hl => ?_⟩
  refine ⟨_,rfl,p,xs,rfl,(same_new hl _).tup hp,for_enT (K:=K) (a:=p) (xs:=xs) (fun i σ H2 => ∃ (v2 v3:Option V),σ = [some (.ref p),some (.ref l),v2,v3] ∧ Same H H2 ∧ H2 l = some (.lst (.str "(" :: rowV (xs.take i))))
    ⟨none,none,rfl,same_new hl _,upd_same⟩ ?_ ?_ ?_⟩
  · rintro i σ H2 _ ⟨v2,v3,rfl,sH,_⟩
    exact sH.tup hp
  · rintro i u b σ H2 hu hb ⟨v2,v3,rfl,sH,hL⟩
    have hi:i < xs.length:=(List.getElem?_eq_some_iff.mp hu).1
    have sb:=same_new hb (.tup [.int i,u])
    have hL1:=sb _ _ hL
    have pl:=rowV_len (xs.take i)
    rw [List.length_take] at pl
    have et:xs.take (i + 1) = xs.take i ++ [u]:=by rw [List.take_add_one,hu]; rfl
    have el:(xs.take i).length = i:=by rw [List.length_take]; omega
    refine ⟨b,_,rfl,SqT.of upd_same,rfl,_,_,rfl,_,_,rfl,rfl,?_⟩
    refine ⟨_,rfl,_,_,rfl,rfl,_,rfl,?_⟩
    refine ite2 (fun c => ?_) (fun c => ?_)
    · have c':(0:Int) < (i:Int):=of_decide_eq_true c
      refine ⟨_,rfl,.inl ⟨rfl,_,SqL.of hL1⟩,l,_,_,rfl,rfl,hL1,mid (by rw [List.length_cons]; omega),?_⟩
      refine ⟨_,rfl,.inl ⟨rfl,_,SqL.of upd_same⟩,_,rfl,l,_,_,rfl,rfl,upd_same,?_,?_⟩
      · rw [List.length_append,List.length_cons]
        exact mid (by show (rowV (xs.take i)).length + 1 + 1 ≤ 1000000; omega)
      · refine ⟨_,_,rfl,sput (sput (sH.trans sb) hl) hl,?_⟩
        rw [upd_same,et,rowV_snoc,el,if_pos (by omega)]
        simp
    · have c':¬ (0:Int) < (i:Int):=of_decide_eq_false (Bool.eq_false_iff.mpr c)
      refine ⟨_,rfl,.inl ⟨rfl,_,SqL.of hL1⟩,_,rfl,l,_,_,rfl,rfl,hL1,mid (by rw [List.length_cons]; omega),?_⟩
      refine ⟨_,_,rfl,sput (sH.trans sb) hl,?_⟩
      rw [upd_same,et,rowV_snoc,el,if_neg (by omega)]
      simp
  · rintro σ H2 ⟨v2,v3,rfl,sH,hL⟩
    rw [List.take_length] at hL
    have pl:=rowV_len xs
    refine ⟨_,rfl,.inl ⟨rfl,_,SqL.of hL⟩,l,_,_,rfl,rfl,hL,mid (by rw [List.length_cons]; omega),?_⟩
    exact ⟨_,rfl,q _ l (sput sH hl) hl (by rw [upd_same]; rfl)⟩
end
end K17
namespace K17
open PySem L2
noncomputable def codes (ws:List Str):List Nat:=(ws.map cps).flatten
theorem codes_snoc (ws:List Str) (s:Str):codes (ws ++ [s]) = codes ws ++ cps s:=by
  unfold codes
  rw [List.map_append,List.flatten_append]
  show _ ++ (cps s ++ []) = _
  rw [List.append_nil]
theorem codes_len:∀ ws:List Str,(codes ws).length = (ws.map (·.length)).sum
  | [] => rfl
  | w :: ws => by
    show (cps w ++ codes ws).length = w.length + (ws.map (·.length)).sum
    rw [List.length_append,codes_len ws,cps_len]
theorem glue0:∀ ps:List (List Nat),Tk.glue [] ps = ps.flatten
  | [] => rfl
  | [p] => by show p = p ++ []; rw [List.append_nil]
  | p :: q :: r => by
    have ih:=glue0 (q :: r)
    show p ++ [] ++ Tk.glue [] (q :: r) = p ++ (q :: r).flatten
    rw [List.append_nil,ih]
theorem cps_join (z:Str) (ps:List Str):cps (Txt.join z ps) = Tk.glue (cps z) (ps.map cps):=by
  unfold Txt.join
  rw [StrLaws.glued_eq_join]
  exact Tk.lst_join z ps
theorem cps_join0 (ps:List Str):cps (Txt.join (Str.ofString "") ps) = codes ps:=by
  rw [cps_join]
  exact glue0 _
theorem glue_lines:∀ ts:List Tr,Tk.glue [10] (ts.map Tr.text) = lines ts
  | [] => rfl
  | [t] => rfl
  | t :: u :: r => by
    have ih:=glue_lines (u :: r)
    show t.text ++ [10] ++ Tk.glue [10] ((u :: r).map Tr.text) = t.text ++ 10 :: lines (u :: r)
    rw [ih,List.append_assoc]
    rfl
theorem while_rel {c:TT} {tb:TS} {D:Ends} {σ:St} {H:Hp} (W:Nat → St → Hp → Prop) (m:Nat) (h0:W m σ H)
    (hs:∀ m σ H,W m σ H → c σ H fun b H1 => if b = true then tb { D with nx:=fun σ' H' => ∃ m',m' < m ∧ W m' σ' H',ct:=fun σ' H' => ∃ m',m' < m ∧ W m' σ' H',bk:=D.nx } σ H1 else D.nx σ H1)
    (mono:∀ σ H Q Q',(∀ b H1,Q b H1 → Q' b H1) → c σ H Q → c σ H Q'):tWhile c tb D σ H:=by
  refine ⟨W,⟨m,h0⟩,fun m σ H p => mono σ H _ _ (fun b H1 q => ?_) (hs m σ H p)⟩
  cases b with
  | true => exact ⟨_,fun σ' H' z => z,q⟩
  | false => exact q
theorem snoc_get {us:List V} {v:V}:(us ++ [v])[(us ++ [v]).length - 1]? = some v:=by simp
theorem call_isi {X:Cx}:CallR X (.builtin "isinstance") (fun xs H Q => ∃ x T t b,xs = [x,.ty T] ∧ TyOf X.K H x t ∧ PySem.W.kitOne X.K t (.type T) = some b ∧ Q (.bl b) H):=by
  intro pins s σ H xs us Q I rv h
  obtain ⟨x,T,t,b,rfl,ty,e,q⟩:=h
  obtain ⟨u,v,rfl,r1,r2⟩:=rv.two
  cases r2
  exact isinst_ok I r1 ty e fun tk => ⟨.bl b,H,I.tok _,rfl,q⟩
theorem kit_ss (K:PySem.W.Frag):PySem.W.kitOne K (.type "str") (.type "str") = some true:=rfl
theorem kit_ts (K:PySem.W.Frag):PySem.W.kitOne K (.type "tuple") (.type "str") = some false:=rfl
theorem kit_ll (K:PySem.W.Frag):PySem.W.kitOne K (.type "list") (.type "list") = some true:=rfl
theorem bootList:bootBuiltins "list" = some (.type "list"):=by decide +kernel
theorem bootTuple:bootBuiltins "tuple" = some (.type "tuple"):=by decide +kernel
theorem bootInt:bootBuiltins "int" = some (.type "int"):=by decide +kernel
noncomputable def spTreeText (K:PySem.W.Frag):Sp:=fun vs H Q _ => ∃ (v:V) (t:Tr),vs = [v] ∧ t.wt ≤ 9000 ∧ t.text.length ≤ 100000 ∧ TrAt K H v t ∧ ∀ H' (z:Str),Same H H' → cps z = t.text → Q (.str z) H'
noncomputable def spTextOf (K:PySem.W.Frag):Sp:=fun vs H Q _ => ∃ (p:Addr) (xs:List V) (ts:List Tr),vs = [.ref p] ∧ SqL K H p xs ∧ TrsAt K H xs ts ∧ ts.length ≤ 9000 ∧ (∀ t ∈ ts,t.wt ≤ 9000 ∧ t.text.length ≤ 100000) ∧ (lines ts).length ≤ 100000 ∧ ∀ H' (z:Str),Same H H' → cps z = lines ts → Q (.str z) H'
section
variable {P:Program} {w:World} {K:PySem.W.Frag} {mg:Str → Option Value} {base:Heap}
theorem scTreeText:FnScope ["tree","written","left","here","piece"] ["tree"] (defScope sTreeText):=⟨rfl,rfl,rfl,by decide +kernel,rfl,by decide +kernel,by decide +kernel⟩
theorem bitsV_len (xs:List V):(bitsV xs).length ≤ 2 * xs.length + 2:=by
  have:=rowV_len xs
  show (V.str "(" :: (rowV xs ++ [V.str ")"])).length ≤ _
  simp only [List.length_cons,List.length_append,List.length_nil]
  omega
theorem len_wts:∀ ts:List Tr,ts.length ≤ wts ts
  | [] => Nat.le_refl _
  | t :: r => by
    have h1:=len_wts r
    show r.length + 1 ≤ t.wt + 1 + wts r
    omega
set_option maxHeartbeats 0 in
theorem ok_treeText {f fp:Addr} {fd fdp:FuncData} (F:Fun K "tree_text" "tree_text" sTreeText f fd)
    (GP:FnOk P w K mg base CX0 1 fp fdp ["trees"] (spPieces K)) (bP:Binds K fdp ["trees"] []) (kP:PySem.W.keepIn K (.ref fp) = true) (mP:mg "bracket_pieces" = some (.ref fp))
    (ml:mg "len" = none) (mi:mg "isinstance" = none) (ms:mg "str" = none) (mr:mg "reversed" = none):FnOk P w K mg base CX0 2 f fd ["tree"] (spTreeText K):=by
  refine F.ok scTreeText (fun vs H Q E h => ?_) (fun cdv A outer s H vs Q E hr h => ?_)
  · obtain ⟨v,t,rfl,_⟩:=h
    rfl
  obtain ⟨x,t,rfl,h9,htl,hx,q⟩:=h
  refine ⟨_,pss_cons (ps_set (i:=1) scTreeText.nd rfl (Or.inl rfl) (pe_lst pa_nil))
    (pss_cons (ps_set (i:=2) scTreeText.nd rfl (Or.inl rfl) (pe_lst (pa_cons (pv 0) pa_nil)))
    (pss_cons (ps_while PassesOwn.never (pt_cmpR op_gt (pe_callB call_len_seq rfl ml PySem.boot_len (pa_cons (pv 2) pa_nil)) pe_int (nomark _))
      (pss_cons (ps_set (i:=3) scTreeText.nd rfl (Or.inl rfl) (pe_bm0 PySem.F.plainAttrs_list PySem.F.slot_list_pop PySem.F.type_list_pop mt_pop (pv 2)))
      (pss_one (ps_if (pt_val (pe_callB call_isi rfl mi bootIsi (pa_cons (pv 3) (pa_cons (pe_bltn rfl ms bootStr (v:=.ty "str") rfl) pa_nil))))
        (pss_one (ps_expr (pe_bm PySem.F.plainAttrs_list PySem.F.slot_list_append PySem.F.type_list_append mt_append (pv 1) (pa_cons (pv 3) pa_nil))))
        (pss_one (ps_for PassesOwn.never rfl (pi_rev rfl mr (pa_cons (pe_call GP hr rfl mP kP bP .nil pass0 (pa_cons (pv 3) pa_nil)) pa_nil)) (pg_name (i:=4) scTreeText.nd rfl (Or.inl rfl))
          (pss_one (ps_expr (pe_bm PySem.F.plainAttrs_list PySem.F.slot_list_append PySem.F.type_list_append mt_append (pv 2) (pa_cons (pv 4) pa_nil))))))))))
    (pss_one (ps_ret (pe_bm PySem.F.plainAttrs_str PySem.F.slot_str_join PySem.F.type_str_join mt_join pe_str (pa_cons (pv 1) pa_nil)))))),?_⟩
  refine ⟨(by show 0 ≤ sizeLine; decide),fun wl hwl => ⟨_,rfl,(by show 1 ≤ sizeLine; decide),fun l hl => ?_⟩⟩
  have hlw:l ≠ wl:=fun e => by rw [e,upd_same] at hl; cases hl
  have hl0:H l = none:=by rw [upd_ne hlw] at hl; exact hl
  refine while_rel (fun m σ H2 => ∃ (ws:List Str) (vs:List V) (is:List Tr) (h pc:Option V),σ = [some x,some (.ref wl),some (.ref l),h,pc] ∧ Same H H2 ∧ H2 wl = some (.lst (ws.map V.str)) ∧ H2 l = some (.lst vs) ∧ TrsAt K H vs is ∧
      codes ws ++ cat is.reverse = t.text ∧ ws.length + wsum is ≤ t.wt ∧ m = wsum is) (wsum [t])
    ⟨[],[x],[t],none,none,rfl,sput (same_new hwl _) hl0,by rw [upd_ne (Ne.symm hlw)]; exact upd_same,upd_same,.cons hx .nil,by show [] ++ cat [t] = _; rw [cat_one]; rfl,by rw [wsum_one]; show 0 + t.wt ≤ _; omega,rfl⟩ ?_ ?_
  · rintro m σ H2 ⟨ws,vs,is,h,pc,rfl,sH,hW,hL,hv,ht,hn,rfl⟩
    refine ⟨_,rfl,l,_,rfl,.inl (SqL.of hL),_,_,rfl,rfl,_,rfl,?_⟩
    refine ite2 (fun c => ?_) (fun c => ?_)
    · have c':(0:Int) < (vs.length:Int):=of_decide_eq_true c
      have hne:vs ≠ []:=fun e => by rw [e] at c'; exact absurd c' (by decide)
      obtain ⟨us,v,rfl⟩:∃ us v,vs = us ++ [v]:=⟨_,_,(List.dropLast_concat_getLast hne).symm⟩
      obtain ⟨ls,i,rfl,hus,hi⟩:=hv.snoc
      rw [List.reverse_concat] at ht
      have ht':codes ws ++ (i.text ++ cat ls.reverse) = t.text:=ht
      rw [wsum_app,wsum_one] at hn ⊢
      have hip:=wt_pos i
      have lw:=len_wsum ls
      have ull:=hus.length
      refine ⟨_,rfl,.inl ⟨rfl,_,SqL.of hL⟩,l,_,v,rfl,rfl,hL,snoc_get,?_⟩
      rw [List.dropLast_concat]
      have sH1:Same H (upd H2 l (.lst us)):=sput sH hl0
      have hW1:upd H2 l (.lst us) wl = some (.lst (ws.map V.str)):=by rw [upd_ne (Ne.symm hlw)]; exact hW
      cases hi with
      | w z =>
        refine ⟨_,rfl,_,_,_,_,rfl,.str z,kit_ss _,_,rfl,iteT ?_⟩
        refine ⟨_,rfl,.inl ⟨rfl,_,SqL.of hW1⟩,_,rfl,wl,_,_,rfl,rfl,hW1,?_,?_⟩
        · rw [List.length_map]
          exact mid (by omega)
        · refine ⟨wsum ls,by omega,ws ++ [z],us,ls,_,_,rfl,sput sH1 hwl,?_,?_,hus,?_,?_,rfl⟩
          · rw [upd_same,List.map_append]
            rfl
          · rw [upd_ne hlw,upd_same]
          · rw [codes_snoc,List.append_assoc]
            exact ht'
          · rw [List.length_append]
            show ws.length + 1 + wsum ls ≤ _
            omega
      | @n p xs ts hp hts =>
        have hb:=wsum_bits ts
        have hxl:xs.length ≤ 9000:=by
          have e1:=hts.length
          have e2:=len_wts ts
          have e3:(Tr.n ts).wt = 3 + wts ts:=rfl
          omega
        refine ⟨_,rfl,_,_,_,_,rfl,.tup (sH1 _ _ hp),kit_ts _,_,rfl,iteF ?_⟩
        refine ⟨_,rfl,p,xs,rfl,SqT.of (sH1 _ _ hp),by omega,fun H3 pl s3 hpl0 hpl => ?_⟩
        have hL3:H3 l = some (.lst us):=s3 _ _ upd_same
        have hW3:=s3 _ _ hW1
        have hlp:pl ≠ l:=fun e => by rw [e,upd_same] at hpl0; cases hpl0
        have hpw:pl ≠ wl:=fun e => by rw [e,hW1] at hpl0; cases hpl0
        have bl:=bitsV_len xs
        refine ⟨pl,_,rfl,SqL.of hpl,for_rev (K:=K) (a:=pl) (xs:=bitsV xs) (fun i σ H4 => ∃ pc:Option V,σ = [some x,some (.ref wl),some (.ref l),some (.ref p),pc] ∧ Same H H4 ∧ H4 wl = some (.lst (ws.map V.str)) ∧
            H4 l = some (.lst (us ++ (bitsV xs).reverse.take i)) ∧ H4 pl = some (.lst (bitsV xs)) ∧ i ≤ (bitsV xs).length)
          ⟨pc,rfl,sH1.trans s3,hW3,by rw [hL3]; show _ = some (HO.lst (us ++ [])); rw [List.append_nil],hpl,Nat.zero_le _⟩ ?_ ?_ ?_⟩
        · rintro i σ H4 _ ⟨pc,rfl,_,_,_,h4,_⟩
          exact SqL.of h4
        · rintro i u σ H4 hu ⟨pc,rfl,s4,w4,l4,p4,i7⟩
          have hi7:i < (bitsV xs).reverse.length:=(List.getElem?_eq_some_iff.mp hu).1
          rw [List.length_reverse] at hi7
          refine ⟨_,rfl,.inl ⟨rfl,_,SqL.of l4⟩,_,rfl,l,_,_,rfl,rfl,l4,?_,?_⟩
          · rw [List.length_append,List.length_take]
            exact mid (by omega)
          · refine ⟨_,rfl,sput s4 hl0,?_,?_,?_,hi7⟩
            · rw [upd_ne (Ne.symm hlw)]
              exact w4
            · rw [upd_same,List.take_add_one,hu,List.append_assoc]
              rfl
            · rw [upd_ne hlp]
              exact p4
        · rintro σ H4 ⟨pc,rfl,s4,w4,l4,p4,_⟩
          rw [List.take_of_length_le (by rw [List.length_reverse]; exact Nat.le_refl _)] at l4
          refine ⟨wsum (ls ++ (bits ts).reverse),?_,ws,us ++ (bitsV xs).reverse,ls ++ (bits ts).reverse,_,pc,rfl,s4,w4,l4,hus.append (bits_at hts).rev,?_,?_,rfl⟩
          · rw [wsum_app,wsum_rev]
            omega
          · rw [List.reverse_append,List.reverse_reverse,cat_app,cat_bits]
            exact ht'
          · rw [wsum_app,wsum_rev]
            omega
    · have c':¬ (0:Int) < (vs.length:Int):=of_decide_eq_false (Bool.eq_false_iff.mpr c)
      have hv0:vs = []:=List.length_eq_zero_iff.mp (by omega)
      subst hv0
      cases hv
      have ht':codes ws = t.text:=by
        have:codes ws ++ [] = t.text:=ht
        rw [List.append_nil] at this
        exact this
      have e0:(Str.ofString "").length = 0:=by decide +kernel
      have cl:=codes_len ws
      rw [ht'] at cl
      refine ⟨rfl,_,rfl,_,wl,ws,rfl,rfl,SqL.of hW,?_,q _ _ sH (by rw [cps_join0,ht'])⟩
      rw [← cl,e0]
      omega
  · rintro σ H2 Q1 Q2 hq ⟨v,e1,a,xs,e2,hs,i,j,e3,e4,b,e5,h⟩
    exact ⟨v,e1,a,xs,e2,hs,i,j,e3,e4,b,e5,hq _ _ h⟩
theorem scTextOf:FnScope ["trees"] ["trees"] (defScope sTextOf):=⟨rfl,rfl,rfl,by decide +kernel,rfl,by decide +kernel,by decide +kernel⟩
theorem lines_sum:∀ ts:List Tr,((ts.map Tr.text).map List.length).sum + (ts.length - 1) ≤ (lines ts).length
  | [] => Nat.le_refl _
  | [t] => by show t.text.length + 0 + 0 ≤ t.text.length; omega
  | t :: u :: r => by
    have ih:=lines_sum (u :: r)
    show t.text.length + (((u :: r).map Tr.text).map List.length).sum + (r.length + 1) ≤ (t.text ++ 10 :: lines (u :: r)).length
    rw [List.length_append,List.length_cons]
    have e:(u :: r).length - 1 = r.length:=rfl
    rw [e] at ih
    omega
set_option maxHeartbeats 0 in
theorem ok_textOf {f ft:Addr} {fd fdt:FuncData} (F:Fun K "text_of" "text_of" sTextOf f fd)
    (GT:FnOk P w K mg base CX0 2 ft fdt ["tree"] (spTreeText K)) (bT:Binds K fdt ["tree"] []) (kT:PySem.W.keepIn K (.ref ft) = true) (mT:mg "tree_text" = some (.ref ft)):FnOk P w K mg base CX0 3 f fd ["trees"] (spTextOf K):=by
  refine F.ok scTextOf (fun vs H Q E h => ?_) (fun cdv A outer s H vs Q E hr h => ?_)
  · obtain ⟨p,xs,ts,rfl,_⟩:=h
    rfl
  obtain ⟨p,xs,ts,rfl,hp,hts,hl9,h9,hl,q⟩:=h
  refine ⟨_,pss_one (ps_ret (pe_bm PySem.F.plainAttrs_str PySem.F.slot_str_join PySem.F.type_str_join mt_join pe_str (pa_cons (pe_comp (own:=["tree"]) (caps:=[]) (κ:=[]) (cl:=[]) rfl ⟨rfl,by decide +kernel,by decide +kernel,rfl,rfl,(fun y hy => nomatch hy),(fun y hy => nomatch hy)⟩ rfl (pi_list (pv 0))
    (fun _ _ _ _ => pg_name (i:=0) (show (["tree"]:List Str).Nodup from by decide +kernel) rfl (Or.inl rfl)) (fun _ _ _ _ => pe_call GT hr rfl mT kT bT .nil pass0 (pa_cons (pv 0) pa_nil))) pa_nil))),?_⟩
  have xl:=hts.length
  refine ⟨rfl,_,rfl,p,rfl,⟨_,hp⟩,?_⟩
  refine comp_by (J:=Itl K p) (xs:=xs) (fun n ys H3 => Same H H3 ∧ ∃ zs:List Str,ys = zs.map V.str ∧ zs.length = n ∧ zs.map cps = (ts.take n).map Tr.text) ⟨Same.refl _,[],rfl,rfl,rfl⟩ (Nat.le_of_lt (mid (by omega))) ?_ ?_ ?_ ?_ ?_ ?_
  · rintro n ys H3 ⟨_,zs,rfl,h,_⟩
    rw [List.length_map]
    exact Nat.le_of_eq h
  · rintro n u ys H3 hu ⟨s3,_⟩
    exact ⟨_,_,s3.seq hp,hu⟩
  · rintro n ys u H3 H' hn ⟨s3,_⟩ hy
    exact ⟨hy.1,hy.2 _ (s3.seq hp)⟩
  · rintro ys H3 ⟨s3,_⟩
    exact ⟨_,s3.seq hp,Nat.le_refl _⟩
  · rintro n u ys H3 N hN hu ⟨s3,zs,rfl,hz,hzs⟩
    obtain ⟨t,ht,hat⟩:=hts.get hu
    obtain ⟨b1,b2⟩:=h9 t (List.mem_of_getElem? ht)
    refine ⟨rfl,tYes_go ⟨_,rfl,u,t,rfl,b1,b2,hat.same s3,fun H4 z s4 ez => hN _ _ ⟨s3.trans s4,zs ++ [z],?_,?_,?_⟩⟩⟩
    · rw [List.map_append]
      rfl
    · rw [List.length_append,hz]
      rfl
    · rw [List.map_append,hzs,List.take_add_one,ht,List.map_append]
      exact congrArg (_ ++ [·]) ez
  · rintro ys H3 D ⟨s3,zs,rfl,hz,hzs⟩ hD
    rw [xl,List.take_length] at hzs
    have e1:(Str.ofString "\n").length = 1:=by decide +kernel
    have ls:=lines_sum ts
    have zl:zs.length = ts.length:=by rw [hz,xl]
    have sm:(zs.map (·.length)).sum = ((ts.map Tr.text).map List.length).sum:=by
      rw [← hzs,List.map_map]
      congr 1
    refine ⟨_,D,zs,rfl,rfl,SqL.of upd_same,?_,q _ _ (s3.trans (same_new hD _)) ?_⟩
    · rw [sm,e1]
      omega
    · rw [cps_join,hzs]
      exact glue_lines ts
end
end K17
namespace K17
open PySem L2
noncomputable def Pc (p:List Nat):Prop:=p = [40] ∨ p = [41] ∨ Tk.Word p
theorem pc_ne {p:List Nat} (h:Pc p):1 ≤ p.length:=by
  rcases h with rfl | rfl | h
  · decide
  · decide
  · cases p with
    | nil => exact absurd rfl h.1
    | cons _ _ => exact Nat.succ_le_succ (Nat.zero_le _)
theorem cut_first:∀ xs:List Nat,(∀ c ∈ xs,c ≠ 40 ∧ c ≠ 41 ∧ c ≠ 10 ∧ c ≠ 32) ∨ ∃ a c b,xs = a ++ c :: b ∧ (∀ d ∈ a,d ≠ 40 ∧ d ≠ 41 ∧ d ≠ 10 ∧ d ≠ 32) ∧ (c = 40 ∨ c = 41 ∨ c = 10 ∨ c = 32)
  | [] => .inl fun _ h => nomatch h
  | x :: r => by
    by_cases hx:x = 40 ∨ x = 41 ∨ x = 10 ∨ x = 32
    · exact .inr ⟨[],x,r,rfl,(fun _ h => nomatch h),hx⟩
    · have hx':x ≠ 40 ∧ x ≠ 41 ∧ x ≠ 10 ∧ x ≠ 32:=by omega
      rcases cut_first r with h | ⟨a,c,b,rfl,h1,h2⟩
      · refine .inl fun c hc => ?_
        rcases List.mem_cons.mp hc with rfl | hc
        · exact hx'
        · exact h c hc
      · refine .inr ⟨x :: a,c,b,rfl,fun d hd => ?_,h2⟩
        rcases List.mem_cons.mp hd with rfl | hd
        · exact hx'
        · exact h1 d hd
theorem toks_plain {a:List Nat} (h:∀ c ∈ a,c ≠ 40 ∧ c ≠ 41 ∧ c ≠ 10 ∧ c ≠ 32):Tk.toks a = if a = [] then [] else [a]:=by
  by_cases e:a = []
  · subst e; rfl
  · rw [if_neg e]
    exact Tk.toks_word ⟨e,h⟩
theorem toks_facts:∀ (n:Nat) (xs:List Nat),xs.length ≤ n → (∀ p ∈ Tk.toks xs,Pc p) ∧ ((Tk.toks xs).map List.length).sum ≤ xs.length
  | 0,xs,h => by
    obtain rfl:xs = []:=List.length_eq_zero_iff.mp (by omega)
    exact ⟨fun p hp => (nomatch hp),Nat.le_refl _⟩
  | n + 1,xs,h => by
    have plain:∀ {a:List Nat},(∀ c ∈ a,c ≠ 40 ∧ c ≠ 41 ∧ c ≠ 10 ∧ c ≠ 32) → (∀ p ∈ Tk.toks a,Pc p) ∧ ((Tk.toks a).map List.length).sum ≤ a.length:=fun {a} ha => by
      rw [toks_plain ha]
      split
      · exact ⟨fun p hp => (nomatch hp),Nat.zero_le _⟩
      · rename_i e
        refine ⟨fun p hp => ?_,by simp⟩
        rw [List.mem_singleton.mp hp]
        exact .inr (.inr ⟨e,ha⟩)
    rcases cut_first xs with ha | ⟨a,c,b,rfl,ha,hc⟩
    · exact plain ha
    · obtain ⟨p1,s1⟩:=plain ha
      rw [List.length_append,List.length_cons] at h ⊢
      obtain ⟨p2,s2⟩:=toks_facts n b (by omega)
      rcases hc with rfl | rfl | rfl | rfl
      · rw [Tk.toks_op]
        refine ⟨fun p hp => ?_,?_⟩
        · rcases List.mem_append.mp hp with hp | hp
          · exact p1 p hp
          · rcases List.mem_cons.mp hp with rfl | hp
            · exact .inl rfl
            · exact p2 p hp
        · simp only [List.map_append,List.map_cons,List.sum_append,List.sum_cons,List.length_cons,List.length_nil]
          omega
      · rw [Tk.toks_cl]
        refine ⟨fun p hp => ?_,?_⟩
        · rcases List.mem_append.mp hp with hp | hp
          · exact p1 p hp
          · rcases List.mem_cons.mp hp with rfl | hp
            · exact .inr (.inl rfl)
            · exact p2 p hp
        · simp only [List.map_append,List.map_cons,List.sum_append,List.sum_cons,List.length_cons,List.length_nil]
          omega
      · rw [Tk.toks_nl]
        refine ⟨fun p hp => ?_,?_⟩
        · rcases List.mem_append.mp hp with hp | hp
          · exact p1 p hp
          · exact p2 p hp
        · simp only [List.map_append,List.sum_append]
          omega
      · rw [Tk.toks_sp]
        refine ⟨fun p hp => ?_,?_⟩
        · rcases List.mem_append.mp hp with hp | hp
          · exact p1 p hp
          · exact p2 p hp
        · simp only [List.map_append,List.sum_append]
          omega
theorem sum_ge {ps:List (List Nat)} (h:∀ p ∈ ps,1 ≤ p.length):ps.length ≤ (ps.map List.length).sum:=by
  induction ps with
  | nil => exact Nat.le_refl _
  | cons p r ih =>
    have h1:=h p List.mem_cons_self
    have h2:=ih fun q hq => h q (List.mem_cons_of_mem _ hq)
    simp only [List.length_cons,List.map_cons,List.sum_cons]
    omega
theorem toks_len (xs:List Nat):(Tk.toks xs).length ≤ xs.length:=by
  obtain ⟨h1,h2⟩:=toks_facts _ xs (Nat.le_refl _)
  exact Nat.le_trans (sum_ge fun p hp => pc_ne (h1 p hp)) h2
noncomputable def spPcs:Sp:=fun vs H Q _ => ∃ z:Str,vs = [.str z] ∧ z.length ≤ 100000 ∧ ∀ H' (l:Addr) (ws:List Str),Same H H' → H l = none → H' l = some (.lst (ws.map V.str)) → ws.map cps = Tk.toks (cps z) → Q (.ref l) H'
theorem rep_len (c:Nat) (z:List Nat) (hz:z.length ≤ 3) (h1:1 ≤ z.length):∀ xs:List Nat,(xs.flatMap (Tk.rep c z)).length ≤ 3 * xs.length
  | [] => Nat.le_refl _
  | a :: r => by
    have ih:=rep_len c z hz h1 r
    rw [List.flatMap_cons,List.length_append,List.length_cons]
    have:(Tk.rep c z a).length ≤ 3:=by
      unfold Tk.rep
      split
      · exact hz
      · exact Nat.le_of_ble_eq_true rfl
    omega
theorem rep1_len (c:Nat) (z:List Nat) (hz:z.length = 1):∀ xs:List Nat,(xs.flatMap (Tk.rep c z)).length = xs.length
  | [] => rfl
  | a :: r => by
    have ih:=rep1_len c z hz r
    rw [List.flatMap_cons,List.length_append,List.length_cons,ih]
    have:(Tk.rep c z a).length = 1:=by
      unfold Tk.rep
      split
      · exact hz
      · rfl
    omega
noncomputable def apart (z:Str):Str:=Txt.replace (Txt.replace (Txt.replace z "(" " ( ") ")" " ) ") "\n" " "
theorem apart_cps (z:Str):cps (apart z) = (cps z).flatMap Tk.gap:=by
  show Tk.lst (Txt.replace (Txt.replace (Txt.replace z ⟨#[40]⟩ " ( ") ⟨#[41]⟩ " ) ") ⟨#[10]⟩ " ") = _
  rw [Tk.replace_lst,Tk.replace_lst,Tk.replace_lst,← Tk.gap_eq]
  rfl
theorem toks_split (z:Str):((Txt.split (apart z) " ").filter fun p => !decide (V.str p = V.str "")).map cps = Tk.toks (cps z):=by
  have h:=Tk.split_lst (apart z) 32
  have e:(Txt.split (apart z) " ").map cps = Tk.spl 32 ((cps z).flatMap Tk.gap):=by
    rw [← apart_cps]
    exact h
  unfold Tk.toks
  rw [← e]
  generalize Txt.split (apart z) " " = l
  induction l with
  | nil => rfl
  | cons p r ih =>
    rw [List.map_cons,List.filter_cons,List.filter_cons]
    have hp:(!decide (V.str p = V.str "")) = decide (cps p ≠ []):=by
      by_cases q:p = ""
      · subst q; rfl
      · have q1:¬ V.str p = V.str "":=fun z => q (V.str.inj z)
        have q2:cps p ≠ []:=fun z => q (Tk.lst_inj (z.trans (show ([]:List Nat) = Tk.lst "" from rfl)))
        rw [decide_eq_false q1,decide_eq_true q2]
        rfl
    rw [hp]
    split
    · rw [List.map_cons,ih]
    · exact ih
section
variable {P:Program} {w:World} {K:PySem.W.Frag} {mg:Str → Option Value} {base:Heap}
theorem scPcs:FnScope ["text","apart"] ["text"] (defScope sPiecesOf):=⟨rfl,rfl,rfl,by decide +kernel,rfl,by decide +kernel,by decide +kernel⟩
set_option maxHeartbeats 0 in
theorem ok_pcs {f:Addr} {fd:FuncData} (F:Fun K "pieces_of" "pieces_of" sPiecesOf f fd):FnOk P w K mg base CX0 1 f fd ["text"] spPcs:=by
  refine F.okP scPcs rfl (fun vs H Q E h => ?_) (fun cdv A outer s H vs Q E hr h => ?_)
  · obtain ⟨z,rfl,_⟩:=h
    rfl
  obtain ⟨z,rfl,hz,q⟩:=h
  refine ⟨_,psp_cons (psp_set (i:=1) scPcs.nd rfl (Or.inl rfl) (pep_replace (pep_replace (pep_replace (pep_var (i:=0) rfl rfl) (by decide +kernel) (by decide +kernel)) (by decide +kernel) (by decide +kernel)) (by decide +kernel) (by decide +kernel)))
    (pss_one (ps_ret (pe_comp_if (own:=["piece"]) (caps:=[]) (κ:=[]) (cl:=[]) rfl ⟨rfl,by decide +kernel,by decide +kernel,rfl,rfl,(fun y hy => nomatch hy),(fun y hy => nomatch hy)⟩ rfl (pi_list (pe_bm PySem.F.plainAttrs_str PySem.F.slot_str_split PySem.F.type_str_split mt_split (pv 1) (pa_cons pe_str pa_nil)))
      (fun _ _ _ _ => pg_name (i:=0) (show (["piece"]:List Str).Nodup from by decide +kernel) rfl (Or.inl rfl)) (fun _ _ _ _ => pt_cmpR op_ne (pv 0) pe_str (nomark _)) (fun _ _ _ _ => pv 0)))),?_⟩
  have l1:(cps (Txt.replace z "(" " ( ")).length ≤ 300000:=by
    show (Tk.lst (Txt.replace z ⟨#[40]⟩ " ( ")).length ≤ _
    rw [Tk.replace_lst]
    have:=rep_len 40 (Tk.lst " ( ") (by decide +kernel) (by decide +kernel) (cps z)
    rw [cps_len] at this
    exact Nat.le_trans this (by omega)
  have l2:(cps (Txt.replace (Txt.replace z "(" " ( ") ")" " ) ")).length ≤ 900000:=by
    show (Tk.lst (Txt.replace (Txt.replace z "(" " ( ") ⟨#[41]⟩ " ) ")).length ≤ _
    rw [Tk.replace_lst]
    have:=rep_len 41 (Tk.lst " ) ") (by decide +kernel) (by decide +kernel) (cps (Txt.replace z "(" " ( "))
    exact Nat.le_trans this (by omega)
  have l3:(apart z).length ≤ 900000:=by
    rw [← cps_len]
    show (Tk.lst (Txt.replace (Txt.replace (Txt.replace z "(" " ( ") ")" " ) ") ⟨#[10]⟩ " ")).length ≤ _
    rw [Tk.replace_lst,rep1_len 10 (Tk.lst " ") (by decide +kernel)]
    exact l2
  rw [cps_len] at l1 l2
  have l4:(Txt.split (apart z) " ").length ≤ 1000000:=by
    have:=PyProof.Rows.split_le (apart z) " "
    omega
  refine ⟨_,rfl,z,rfl,by omega,_,rfl,by omega,_,rfl,by omega,?_⟩
  refine ⟨_,rfl,rfl,apart z," ",rfl,rfl,by decide +kernel,by omega,l4,fun l hl => ⟨l,rfl,⟨_,SqL.of upd_same⟩,?_⟩⟩
  have sl:=same_new hl (.lst ((Txt.split (apart z) " ").map V.str))
  have hk:∀ (n:Nat) (u:V),((Txt.split (apart z) " ").map V.str)[n]? = some u → ∃ y,u = V.str y ∧ (Txt.split (apart z) " ")[n]? = some y:=fun n u e => by
    rw [List.getElem?_map] at e
    obtain ⟨y,hy,rfl⟩:=Option.map_eq_some_iff.mp e
    exact ⟨y,rfl,hy⟩
  refine comp_by (J:=Itl K l) (xs:=(Txt.split (apart z) " ").map V.str) (fun n ys H3 => H3 = upd H l (.lst ((Txt.split (apart z) " ").map V.str)) ∧ ys = (((Txt.split (apart z) " ").take n).filter fun p => !decide (V.str p = V.str "")).map V.str) ⟨rfl,rfl⟩ (Nat.le_of_lt (mid (by rw [List.length_map]; exact l4))) ?_ ?_ ?_ ?_ ?_ ?_
  · rintro n ys H3 ⟨_,rfl⟩
    rw [List.length_map]
    refine Nat.le_trans (List.length_filter_le _ _) ?_
    rw [List.length_take]
    exact Nat.min_le_left _ _
  · rintro n u ys H3 hu ⟨rfl,_⟩
    exact ⟨_,_,SqL.of upd_same,hu⟩
  · rintro n ys u H3 H' hn ⟨rfl,_⟩ hy
    exact ⟨hy.1,hy.2 _ (SqL.of upd_same)⟩
  · rintro ys H3 ⟨rfl,_⟩
    exact ⟨_,SqL.of upd_same,Nat.le_refl _⟩
  · rintro n u ys H3 N hN hu ⟨rfl,rfl⟩
    obtain ⟨y,rfl,hy⟩:=hk n u hu
    refine ⟨rfl,_,rfl,rfl,_,rfl,?_⟩
    have et:(((Txt.split (apart z) " ").take (n + 1)).filter fun p => !decide (V.str p = V.str "")).map V.str = (((Txt.split (apart z) " ").take n).filter fun p => !decide (V.str p = V.str "")).map V.str ++ (if (!decide (V.str y = V.str "")) = true then [V.str y] else []):=by
      rw [List.take_add_one,hy,List.filter_append,List.map_append]
      congr 1
      show (([y].filter fun p => !decide (V.str p = V.str "")).map V.str) = _
      rw [List.filter_cons]
      split <;> rfl
    refine ite2 (fun c => ?_) (fun c => ?_)
    · have c':(!decide (V.str y = V.str "")) = true:=c
      exact ⟨_,rfl,hN _ _ ⟨rfl,by rw [et,if_pos c']⟩⟩
    · have c':¬ (!decide (V.str y = V.str "")) = true:=c
      exact hN _ _ ⟨rfl,by rw [et,if_neg c',List.append_nil]⟩
  · rintro ys H3 D ⟨rfl,rfl⟩ hD
    rw [List.length_map,List.take_length]
    have hD0:H D = none:=Same.free sl hD
    exact q _ D _ (sl.trans (same_new hD _)) hD0 upd_same (toks_split z)
end
end K17
namespace K17
open PySem L2
noncomputable def hgt:Nat → List (List Nat) → Option Nat
  | h,[] => some h
  | h,p :: r => if p = [40] then (if h = 30 then none else hgt (h + 1) r) else if p = [41] then (if h = 0 then none else hgt (h - 1) r) else hgt h r
noncomputable def stFlat:List (Addr × List Tr) → List Tr → List (List Nat)
  | [],ts => flats ts
  | (_,us) :: st,ts => flats us ++ [40] :: stFlat st ts
theorem stFlat_snoc (a:Addr) (us vs:List Tr):∀ st:List (Addr × List Tr),stFlat (st ++ [(a,us)]) vs = stFlat st us ++ [40] :: flats vs
  | [] => rfl
  | (b,xs) :: st => by
    have ih:=stFlat_snoc a us vs st
    show flats xs ++ [40] :: stFlat (st ++ [(a,us)]) vs = (flats xs ++ [40] :: stFlat st us) ++ [40] :: flats vs
    rw [ih]
    simp
theorem stFlat_app (us vs:List Tr):∀ st:List (Addr × List Tr),stFlat st (us ++ vs) = stFlat st us ++ flats vs
  | [] => flats_app us vs
  | (b,xs) :: st => by
    have ih:=stFlat_app us vs st
    show flats xs ++ [40] :: stFlat st (us ++ vs) = (flats xs ++ [40] :: stFlat st us) ++ flats vs
    rw [ih]
    simp
noncomputable def spTrees (K:PySem.W.Frag):Sp:=fun vs H Q _ => ∃ z:Str,vs = [.str z] ∧ z.length ≤ 90000 ∧ hgt 0 (Tk.toks (cps z)) = some 0 ∧
  (∀ H' (l:Addr) (xs:List V) (ts:List Tr),Same H H' → H l = none → H' l = some (.lst xs) → TrsAt K H' xs ts → oks ts → flats ts = Tk.toks (cps z) → Q (.ref l) H')
structure Mid (K:PySem.W.Frag) (H H3:Hp) (P O T:Addr) (ws:List Str) (st:List (Addr × List Tr)) (ts:List Tr) (ps:List (List Nat)) (i:Nat):Prop where
  same:Same H H3
  pl:H3 P = some (.lst (ws.map V.str))
  ol:H3 O = some (.lst (st.map fun p => .ref p.1))
  tl:∃ xs,H3 T = some (.lst xs) ∧ TrsAt K H3 xs ts
  sl:∀ p ∈ st,∃ ys,H3 p.1 = some (.lst ys) ∧ TrsAt K H3 ys p.2
  nd:(P :: O :: T :: st.map (·.1)).Nodup
  new:∀ a ∈ O :: T :: st.map (·.1),H a = none
  ok:oks ts
  oks:∀ p ∈ st,oks p.2
  hg:hgt st.length (ps.drop i) = hgt 0 ps
  fl:stFlat st ts = ps.take i
  l1:ts.length ≤ i
  l2:∀ p ∈ st,p.2.length ≤ i
  l3:st.length ≤ 30
theorem tup_upd {H:Hp} {l a:Addr} {ys xs:List V} {o:HO} (h:H l = some (.lst ys)) (t:H a = some (.tup xs)):upd H l o a = some (.tup xs):=by
  rw [upd_ne (fun e => by rw [e,h] at t; cases t)]
  exact t
theorem tup_new {H:Hp} {l a:Addr} {xs:List V} {o:HO} (h:H l = none) (t:H a = some (.tup xs)):upd H l o a = some (.tup xs):=by
  rw [upd_ne (ne_of_none t h)]
  exact t
section
variable {P:Program} {w:World} {K:PySem.W.Frag} {mg:Str → Option Value} {base:Heap}
theorem scTrees:FnScope ["text","outer","trees","piece","closed"] ["text"] (defScope sTrees):=⟨rfl,rfl,rfl,by decide +kernel,rfl,by decide +kernel,by decide +kernel⟩
set_option maxHeartbeats 0 in
theorem ok_trees {f fp:Addr} {fd fdp:FuncData} {tk:Tok} (F:Fun K "trees_of" "trees_of" sTrees f fd) (GP:FnOk P w K mg base CX0 1 fp fdp ["text"] spPcs) (bP:Binds K fdp ["text"] []) (kP:PySem.W.keepIn K (.ref fp) = true) (mP:mg "pieces_of" = some (.ref fp))
    (mD:mg "DEEPEST" = some (.int 30 tk)) (ml:mg "len" = none) (mt:mg "tuple" = none):FnOk P w K mg base CX0 2 f fd ["text"] (spTrees K):=by
  refine F.ok scTrees (fun vs H Q E h => ?_) (fun cdv A outer s H vs Q E hr h => ?_)
  · obtain ⟨z,rfl,_⟩:=h
    rfl
  obtain ⟨z,rfl,hz,h0,qQ⟩:=h
  have glD:∀ {X:Cx} {pos:Pos},Gl X "DEEPEST" → X.mg = mg → PE X (.Name "DEEPEST" pos) (tC (.int 30)):=fun {X pos} hg hm => pe_glob hg (by rw [hm]; exact mD) (v:=.int 30) ⟨tk,rfl⟩
  refine ⟨_,pss_cons (ps_set (i:=1) scTrees.nd rfl (Or.inl rfl) (pe_lst pa_nil))
    (pss_cons (ps_set (i:=2) scTrees.nd rfl (Or.inl rfl) (pe_lst pa_nil))
    (pss_cons (ps_for PassesOwn.never rfl (pi_list (pe_call GP hr rfl mP kP bP .nil pass0 (pa_cons (pv 0) pa_nil))) (pg_name (i:=3) scTrees.nd rfl (Or.inl rfl))
      (pss_one (ps_if (pt_cmpR op_eq (pv 3) pe_str (nomark _))
        (pss_cons (ps_if (pt_cmpR op_eq (pe_callB call_len_seq rfl ml PySem.boot_len (pa_cons (pv 1) pa_nil)) (glD rfl rfl) (nomark _)) pss_no pss_nil)
        (pss_cons (ps_expr (pe_bm PySem.F.plainAttrs_list PySem.F.slot_list_append PySem.F.type_list_append mt_append (pv 1) (pa_cons (pv 2) pa_nil)))
        (pss_one (ps_set (i:=2) scTrees.nd rfl (Or.inl rfl) (pe_lst pa_nil)))))
        (pss_one (ps_if (pt_cmpR op_eq (pv 3) pe_str (nomark _))
          (pss_cons (ps_if (pt_cmpR op_eq (pe_callB call_len_seq rfl ml PySem.boot_len (pa_cons (pv 1) pa_nil)) pe_int (nomark _)) pss_no pss_nil)
          (pss_cons (ps_set (i:=4) scTrees.nd rfl (Or.inl rfl) (pe_callTy call_tuple_of rfl mt bootTuple (pa_cons (pv 2) pa_nil)))
          (pss_cons (ps_set (i:=2) scTrees.nd rfl (Or.inl rfl) (pe_bm0 PySem.F.plainAttrs_list PySem.F.slot_list_pop PySem.F.type_list_pop mt_pop (pv 1)))
          (pss_one (ps_expr (pe_bm PySem.F.plainAttrs_list PySem.F.slot_list_append PySem.F.type_list_append mt_append (pv 2) (pa_cons (pv 4) pa_nil)))))))
          (pss_one (ps_expr (pe_bm PySem.F.plainAttrs_list PySem.F.slot_list_append PySem.F.type_list_append mt_append (pv 2) (pa_cons (pv 3) pa_nil)))))))))
    (pss_cons (ps_if (pt_cmpR op_gt (pe_callB call_len_seq rfl ml PySem.boot_len (pa_cons (pv 1) pa_nil)) pe_int (nomark _)) pss_no pss_nil)
    (pss_one (ps_ret (pv 2)))))),?_⟩
  refine ⟨(by show 0 ≤ sizeLine; decide),fun O hO => ⟨(by show 0 ≤ sizeLine; decide),fun T0 hT0 => ?_⟩⟩
  have hTO:T0 ≠ O:=fun e => by rw [e,upd_same] at hT0; cases hT0
  have hT0':H T0 = none:=by rw [upd_ne hTO] at hT0; exact hT0
  have s0:=(same_new hO (.lst [])).trans (same_new hT0 (.lst []))
  refine ⟨_,rfl,z,rfl,by omega,fun H1 Pl ws s1 hPn hPl hws => ?_⟩
  have sH1:Same H H1:=s0.trans s1
  have hO1:H1 O = some (.lst []):=s1 _ _ (by rw [upd_ne (Ne.symm hTO)]; exact upd_same)
  have hT1:H1 T0 = some (.lst []):=s1 _ _ upd_same
  have hPO:Pl ≠ O:=fun e => by rw [e,upd_ne (Ne.symm hTO),upd_same] at hPn; cases hPn
  have hPT:Pl ≠ T0:=fun e => by rw [e,upd_same] at hPn; cases hPn
  have wl:ws.length ≤ 90000:=by
    have e1:=congrArg List.length hws
    rw [List.length_map] at e1
    have e2:=toks_len (cps z)
    rw [cps_len] at e2
    omega
  have hpc:∀ (i:Nat) (p:Str),ws[i]? = some p → (Tk.toks (cps z))[i]? = some (cps p) ∧ Pc (cps p):=fun i p hp => by
    have e:(Tk.toks (cps z))[i]? = some (cps p):=by rw [← hws,List.getElem?_map,hp]; rfl
    exact ⟨e,(toks_facts _ _ (Nat.le_refl _)).1 _ (List.mem_of_getElem? e)⟩
  refine ⟨Pl,rfl,⟨_,SqL.of hPl⟩,for_list (K:=K) (xs:=ws.map V.str) (fun i σ H3 => ∃ (T:Addr) (st:List (Addr × List Tr)) (ts:List Tr) (v3 v4:Option V),σ = [some (.str z),some (.ref O),some (.ref T),v3,v4] ∧ Mid K H H3 Pl O T ws st ts (Tk.toks (cps z)) i)
    ⟨T0,[],[],none,none,rfl,⟨sH1,hPl,hO1,⟨[],hT1,.nil⟩,(fun p hp => nomatch hp),?_,?_,True.intro,(fun p hp => nomatch hp),rfl,rfl,Nat.le_refl _,(fun p hp => nomatch hp),Nat.zero_le _⟩⟩ ?_ ?_ ?_⟩
  · simp only [List.map_nil,List.nodup_cons,List.mem_cons,List.not_mem_nil,or_false,not_or,List.nodup_nil,not_false_eq_true,and_true]
    exact ⟨⟨hPO,hPT⟩,Ne.symm hTO⟩
  · intro a ha
    simp only [List.map_nil,List.mem_cons,List.not_mem_nil,or_false] at ha
    rcases ha with rfl | rfl
    · exact hO
    · exact hT0'
  · rintro i σ H3 _ ⟨T,st,ts,v3,v4,rfl,M⟩
    exact SqL.of M.pl
  · rintro i y σ H3 hy ⟨T,st,ts,v3,v4,rfl,M⟩
    rw [List.getElem?_map] at hy
    obtain ⟨p,hp,rfl⟩:=Option.map_eq_some_iff.mp hy
    obtain ⟨hpi,hPc⟩:=hpc i p hp
    have hil:i < ws.length:=(List.getElem?_eq_some_iff.mp hp).1
    have hil2:i < (Tk.toks (cps z)).length:=(List.getElem?_eq_some_iff.mp hpi).1
    obtain ⟨xs,hT,hxs⟩:=M.tl
    have hdrop:(Tk.toks (cps z)).drop i = cps p :: (Tk.toks (cps z)).drop (i + 1):=by rw [List.drop_eq_getElem_cons hil2]; congr 1; exact Option.some.inj ((List.getElem?_eq_getElem hil2).symm.trans hpi)
    have htake:(Tk.toks (cps z)).take (i + 1) = (Tk.toks (cps z)).take i ++ [cps p]:=by rw [List.take_add_one,hpi]; rfl
    have hg:=M.hg
    rw [hdrop] at hg
    have nd:=M.nd
    simp only [List.nodup_cons,List.mem_cons,not_or] at nd
    obtain ⟨⟨nPO,nPT,nPs⟩,⟨nOT,nOs⟩,nTs,nss⟩:=nd
    have hOn:H O = none:=M.new O (.head _)
    have hTn:H T = none:=M.new T (.tail _ (.head _))
    have stl:(st.map fun p => V.ref p.1).length = st.length:=List.length_map _
    have tsl:xs.length = ts.length:=hxs.length
    have l1:=M.l1
    have l3:=M.l3
    refine ⟨_,rfl,rfl,_,rfl,ite2 (fun c1 => ?_) (fun c1 => ?_)⟩
    · have e1:p = "(":=V.str.inj (of_decide_eq_true c1)
      have ec:cps p = [40]:=by rw [e1]; rfl
      rw [ec,hgt,if_pos rfl] at hg
      refine ⟨_,rfl,O,_,rfl,.inl (SqL.of M.ol),rfl,_,rfl,ite2 (fun c2 => ?_) (fun c2 => ?_)⟩
      · have e2:((st.map fun p => V.ref p.1).length:Int) = 30:=V.int.inj (of_decide_eq_true c2)
        have e3:st.length = 30:=by rw [stl] at e2; omega
        rw [if_pos e3] at hg
        exact absurd h0 (by rw [← hg]; intro z; cases z)
      · have e3:st.length ≠ 30:=fun e => c2 (decide_eq_true (by rw [stl,e]; rfl))
        rw [if_neg e3] at hg
        refine ⟨_,rfl,.inl ⟨rfl,_,SqL.of M.ol⟩,_,rfl,O,_,_,rfl,rfl,M.ol,mid (by rw [stl]; omega),?_⟩
        refine ⟨(by show 0 ≤ sizeLine; decide),fun T2 hT2 => ?_⟩
        have nT2O:T2 ≠ O:=fun e => by rw [e,upd_same] at hT2; cases hT2
        have hT2':H3 T2 = none:=by rw [upd_ne nT2O] at hT2; exact hT2
        have keep:∀ a us,H3 a = some (.tup us) → upd (upd H3 O (.lst ((st.map fun p => V.ref p.1) ++ [.ref T]))) T2 (.lst []) a = some (.tup us):=fun a us h => tup_new hT2 (tup_upd M.ol h)
        have hold:∀ {b:Addr} {u:HO},b ≠ O → H3 b = some u → upd (upd H3 O (.lst ((st.map fun p => V.ref p.1) ++ [.ref T]))) T2 (.lst []) b = some u:=fun {b u} nb h => by
          rw [upd_ne (ne_of_none h hT2'),upd_ne nb]
          exact h
        refine ⟨T2,st ++ [(T,ts)],[],_,_,rfl,⟨?_,hold nPO M.pl,?_,⟨[],upd_same,.nil⟩,fun q hq => ?_,?_,fun a ha => ?_,True.intro,fun q hq => ?_,?_,?_,Nat.zero_le _,fun q hq => ?_,?_⟩⟩
        · exact sput (sput M.same hOn) (Same.free M.same hT2')
        · rw [upd_ne (Ne.symm nT2O),upd_same,List.map_append]
          rfl
        · rcases List.mem_append.mp hq with hq | hq
          · obtain ⟨ys,h1,h2⟩:=M.sl q hq
            exact ⟨ys,hold (fun e => nOs (e ▸ List.mem_map_of_mem (f:=(·.1)) hq)) h1,h2.keep keep⟩
          · rw [List.mem_singleton.mp hq]
            exact ⟨xs,hold (Ne.symm nOT) hT,hxs.keep keep⟩
        · have nT2:∀ b,(∃ u,H3 b = some u) → T2 ≠ b:=fun b hb e => by
            obtain ⟨u,hu⟩:=hb
            rw [← e,hT2'] at hu
            cases hu
          rw [List.map_append]
          show (Pl :: O :: T2 :: (st.map (·.1) ++ [T])).Nodup
          simp only [List.nodup_cons,List.mem_cons,List.mem_append,List.not_mem_nil,or_false,not_or,List.nodup_append,List.nodup_nil,not_false_eq_true,and_true,true_and]
          refine ⟨⟨nPO,Ne.symm (nT2 Pl ⟨_,M.pl⟩),nPs,nPT⟩,⟨Ne.symm nT2O,nOs,nOT⟩,⟨fun hm => ?_,nT2 T ⟨_,hT⟩⟩,nss,fun a ha b hb => ?_⟩
          · obtain ⟨q,hq,e⟩:=List.mem_map.mp hm
            obtain ⟨ys,h1,_⟩:=M.sl q hq
            exact nT2 q.1 ⟨_,h1⟩ e.symm
          · rw [hb]
            exact fun e => nTs (e ▸ ha)
        · rw [List.map_append] at ha
          simp only [List.mem_cons,List.mem_append,List.map_cons,List.map_nil,List.not_mem_nil,or_false] at ha
          rcases ha with rfl | rfl | ha | rfl
          · exact hOn
          · exact Same.free M.same hT2'
          · exact M.new a (.tail _ (.tail _ ha))
          · exact hTn
        · rcases List.mem_append.mp hq with hq | hq
          · exact M.oks q hq
          · rw [List.mem_singleton.mp hq]
            exact M.ok
        · rw [List.length_append]
          exact hg
        · rw [stFlat_snoc,M.fl,htake,ec]
          rfl
        · rcases List.mem_append.mp hq with hq | hq
          · exact Nat.le_succ_of_le (M.l2 q hq)
          · rw [List.mem_singleton.mp hq]
            exact Nat.le_succ_of_le l1
        · rw [List.length_append]
          show st.length + 1 ≤ 30
          omega
    · have n1:cps p ≠ [40]:=fun e => c1 (decide_eq_true (congrArg V.str (Tk.lst_inj (e.trans (show ([40]:List Nat) = Tk.lst "(" from rfl)))))
      rw [hgt,if_neg n1] at hg
      refine ⟨_,rfl,rfl,_,rfl,ite2 (fun c2 => ?_) (fun c2 => ?_)⟩
      · have e1:p = ")":=V.str.inj (of_decide_eq_true c2)
        have ec:cps p = [41]:=by rw [e1]; rfl
        rw [ec,if_pos rfl] at hg
        refine ⟨_,rfl,O,_,rfl,.inl (SqL.of M.ol),rfl,_,rfl,ite2 (fun c3 => ?_) (fun c3 => ?_)⟩
        · have e2:((st.map fun p => V.ref p.1).length:Int) = 0:=V.int.inj (of_decide_eq_true c3)
          have e3:st.length = 0:=by rw [stl] at e2; omega
          rw [if_pos e3] at hg
          exact absurd h0 (by rw [← hg]; intro z; cases z)
        · have e3:st.length ≠ 0:=fun e => c3 (decide_eq_true (by rw [stl,e]; rfl))
          rw [if_neg e3] at hg
          have hne:st ≠ []:=fun e => e3 (by rw [e]; rfl)
          obtain ⟨st',⟨T2,us⟩,rfl⟩:∃ st' q,st = st' ++ [q]:=⟨_,_,(List.dropLast_concat_getLast hne).symm⟩
          obtain ⟨ys,hT2,hys⟩:=M.sl (T2,us) (List.mem_append_right _ (.head _))
          refine ⟨_,rfl,T,xs,rfl,.inl ⟨SqL.of hT,fun ta hta => ?_⟩⟩
          have sA:=same_new hta (.tup xs)
          have ol':upd H3 ta (.tup xs) O = some (.lst ((st'.map fun p => V.ref p.1) ++ [.ref T2])):=by
            have:=sA _ _ M.ol
            rw [List.map_append] at this
            exact this
          refine ⟨_,rfl,.inl ⟨rfl,_,SqL.of ol'⟩,O,_,.ref T2,rfl,rfl,ol',snoc_get,?_⟩
          rw [List.dropLast_concat]
          have nOT2:T2 ≠ O:=fun e => nOs (by rw [List.map_append]; exact List.mem_append_right _ (by rw [← e]; exact .head _))
          have hT2':upd (upd H3 ta (.tup xs)) O (.lst (st'.map fun p => V.ref p.1)) T2 = some (.lst ys):=by rw [upd_ne nOT2]; exact sA _ _ hT2
          have hul:ys.length ≤ 90000:=by
            have e:=M.l2 (T2,us) (List.mem_append_right _ (.head _))
            have e2:=hys.length
            have e3:us.length ≤ i:=e
            omega
          refine ⟨_,rfl,.inl ⟨rfl,_,SqL.of hT2'⟩,_,rfl,T2,_,_,rfl,rfl,hT2',mid (by omega),?_⟩
          have keep:∀ a zs,upd H3 ta (.tup xs) a = some (.tup zs) → upd (upd (upd H3 ta (.tup xs)) O (.lst (st'.map fun p => V.ref p.1))) T2 (.lst (ys ++ [.ref ta])) a = some (.tup zs):=fun a zs h => tup_upd hT2' (tup_upd ol' h)
          have keep0:∀ a zs,H3 a = some (.tup zs) → upd (upd (upd H3 ta (.tup xs)) O (.lst (st'.map fun p => V.ref p.1))) T2 (.lst (ys ++ [.ref ta])) a = some (.tup zs):=fun a zs h => keep a zs (sA _ _ h)
          have hold:∀ {b:Addr} {u:HO},b ≠ O → b ≠ T2 → H3 b = some u → upd (upd (upd H3 ta (.tup xs)) O (.lst (st'.map fun p => V.ref p.1))) T2 (.lst (ys ++ [.ref ta])) b = some u:=fun {b u} nb nb2 h => by
            rw [upd_ne nb2,upd_ne nb]
            exact sA _ _ h
          have hT2n:H T2 = none:=M.new T2 (.tail _ (.tail _ (by rw [List.map_append]; exact List.mem_append_right _ (.head _))))
          have nPT2:Pl ≠ T2:=fun e => nPs (by rw [List.map_append]; exact List.mem_append_right _ (by rw [e]; exact .head _))
          have ndS:(st'.map (·.1)).Nodup ∧ T2 ∉ st'.map (·.1):=by
            have h:=nss
            rw [List.map_append,List.nodup_append] at h
            exact ⟨h.1,fun hm => h.2.2 T2 hm T2 (.head _) rfl⟩
          refine ⟨T2,st',us ++ [.n ts],_,_,rfl,⟨?_,hold nPO nPT2 M.pl,?_,⟨ys ++ [.ref ta],upd_same,(hys.keep keep0).append (.cons (.n (keep _ _ upd_same) (hxs.keep keep0)) .nil)⟩,fun q hq => ?_,?_,fun a ha => ?_,?_,fun q hq => ?_,?_,?_,?_,fun q hq => ?_,?_⟩⟩
          · exact sput (sput (M.same.trans sA) hOn) hT2n
          · rw [upd_ne (Ne.symm nOT2),upd_same]
          · obtain ⟨zs,h1,h2⟩:=M.sl q (List.mem_append_left _ hq)
            exact ⟨zs,hold (fun e => nOs (by rw [List.map_append,← e]; exact List.mem_append_left _ (List.mem_map_of_mem (f:=(·.1)) hq))) (fun e => ndS.2 (e ▸ List.mem_map_of_mem (f:=(·.1)) hq)) h1,h2.keep keep0⟩
          · simp only [List.nodup_cons,List.mem_cons,not_or]
            refine ⟨⟨nPO,nPT2,fun hm => nPs (by rw [List.map_append]; exact List.mem_append_left _ hm)⟩,⟨Ne.symm nOT2,fun hm => nOs (by rw [List.map_append]; exact List.mem_append_left _ hm)⟩,ndS.2,ndS.1⟩
          · simp only [List.mem_cons] at ha
            rcases ha with rfl | rfl | ha
            · exact hOn
            · exact hT2n
            · exact M.new a (.tail _ (.tail _ (by rw [List.map_append]; exact List.mem_append_left _ ha)))
          · exact oks_app (M.oks (T2,us) (List.mem_append_right _ (.head _))) ⟨M.ok,True.intro⟩
          · exact M.oks q (List.mem_append_left _ hq)
          · rw [List.length_append] at hg
            exact hg
          · rw [stFlat_app,flats_one,htake,ec,← M.fl,stFlat_snoc]
            show _ ++ [40] :: (flats ts ++ [[41]]) = _
            simp
          · have e:=M.l2 (T2,us) (List.mem_append_right _ (.head _))
            have e2:us.length ≤ i:=e
            rw [List.length_append]
            show us.length + 1 ≤ i + 1
            omega
          · exact Nat.le_succ_of_le (M.l2 q (List.mem_append_left _ hq))
          · rw [List.length_append] at l3
            exact Nat.le_trans (Nat.le_add_right _ _) l3
      · have n2:cps p ≠ [41]:=fun e => c2 (decide_eq_true (congrArg V.str (Tk.lst_inj (e.trans (show ([41]:List Nat) = Tk.lst ")" from rfl)))))
        rw [if_neg n2] at hg
        have hW:Tk.Word (cps p):=hPc.elim (fun e => absurd e n1) fun h => h.elim (fun e => absurd e n2) id
        refine ⟨_,rfl,.inl ⟨rfl,_,SqL.of hT⟩,_,rfl,T,_,_,rfl,rfl,hT,mid (by omega),?_⟩
        have keep:∀ a zs,H3 a = some (.tup zs) → upd H3 T (.lst (xs ++ [.str p])) a = some (.tup zs):=fun a zs h => tup_upd hT h
        have hold:∀ {b:Addr} {u:HO},b ≠ T → H3 b = some u → upd H3 T (.lst (xs ++ [.str p])) b = some u:=fun {b u} nb h => by rw [upd_ne nb]; exact h
        refine ⟨T,st,ts ++ [.w p],_,_,rfl,⟨sput M.same hTn,hold nPT M.pl,hold nOT M.ol,⟨xs ++ [.str p],upd_same,(hxs.keep keep).append (.cons (.w p) .nil)⟩,fun q hq => ?_,M.nd,M.new,oks_app (b:=[.w p]) M.ok ⟨hW,True.intro⟩,M.oks,hg,?_,?_,fun q hq => Nat.le_succ_of_le (M.l2 q hq),l3⟩⟩
        · obtain ⟨zs,h1,h2⟩:=M.sl q hq
          exact ⟨zs,hold (fun e => nTs (e ▸ List.mem_map_of_mem (f:=(·.1)) hq)) h1,h2.keep keep⟩
        · rw [stFlat_app,flats_one,M.fl,htake]
          rfl
        · rw [List.length_append]
          exact Nat.succ_le_succ l1
  · rintro σ H3 ⟨T,st,ts,v3,v4,rfl,M⟩
    have ew:(ws.map V.str).length = (Tk.toks (cps z)).length:=by
      rw [List.length_map,← hws,List.length_map]
    have M2:=M
    rw [ew] at M2
    obtain ⟨xs,hT,hxs⟩:=M2.tl
    have hg:=M2.hg
    rw [List.drop_length] at hg
    have hg':some st.length = hgt 0 (Tk.toks (cps z)):=hg
    have stl:(st.map fun p => V.ref p.1).length = st.length:=List.length_map _
    refine ⟨_,rfl,O,_,rfl,.inl (SqL.of M2.ol),_,_,rfl,rfl,_,rfl,ite2 (fun c => ?_) (fun c => ?_)⟩
    · have c':(0:Int) < ((st.map fun p => V.ref p.1).length:Int):=of_decide_eq_true c
      rw [stl] at c'
      exact absurd h0 (by rw [← hg']; intro z; have:=Option.some.inj z; omega)
    · have c':¬ (0:Int) < ((st.map fun p => V.ref p.1).length:Int):=of_decide_eq_false (Bool.eq_false_iff.mpr c)
      rw [stl] at c'
      have e0:st = []:=List.length_eq_zero_iff.mp (by omega)
      subst e0
      refine ⟨_,rfl,qQ H3 T xs ts M2.same (M2.new T (.tail _ (.head _))) hT hxs M2.ok ?_⟩
      have:=M2.fl
      rw [List.take_length] at this
      exact this
end
end K17
namespace K17
open PySem L2
mutual
noncomputable def Tr.dep:Tr → Nat
  | .w _ => 0
  | .n ts => 1 + deps ts
noncomputable def deps:List Tr → Nat
  | [] => 0
  | t :: ts => max t.dep (deps ts)
end
theorem word_ne {s:Str} (hw:Tk.Word (cps s)):cps s ≠ [40] ∧ cps s ≠ [41] :=
  ⟨fun z => (hw.2 40 (by rw [z]; exact .head _)).1 rfl,fun z => (hw.2 41 (by rw [z]; exact .head _)).2.1 rfl⟩
theorem dep_mem:∀ {ts:List Tr} {t:Tr},t ∈ ts → t.dep ≤ deps ts
  | u :: r,t,h => by
    show _ ≤ max u.dep (deps r)
    rcases List.mem_cons.mp h with rfl | z
    · omega
    · have:=dep_mem z
      omega
noncomputable def Shut (a:List Nat):Prop:=∀ b,Tk.toks (a ++ b) = Tk.toks a ++ Tk.toks b
theorem shut_nil:Shut []:=fun b => rfl
theorem shut_end {a:List Nat} {c:Nat} (h:c = 40 ∨ c = 41 ∨ c = 10 ∨ c = 32):Shut (a ++ [c]):=fun b => by
  rw [List.append_assoc]
  show Tk.toks (a ++ c :: b) = Tk.toks (a ++ c :: []) ++ Tk.toks b
  rcases h with rfl | rfl | rfl | rfl
  · rw [Tk.toks_op,Tk.toks_op,List.append_assoc]
    rfl
  · rw [Tk.toks_cl,Tk.toks_cl,List.append_assoc]
    rfl
  · rw [Tk.toks_nl,Tk.toks_nl,List.append_assoc]
    rfl
  · rw [Tk.toks_sp,Tk.toks_sp,List.append_assoc]
    rfl
noncomputable def Blank (g:List Nat):Prop:=∀ c ∈ g,c = 10 ∨ c = 32
theorem blank_end {a:List Nat}:∀ {g:List Nat},Blank g → Tk.toks (a ++ g) = Tk.toks a ∧ (g ≠ [] → Shut (a ++ g)):=by
  intro g
  induction g generalizing a with
  | nil =>
    intro _
    rw [List.append_nil]
    exact ⟨rfl,fun h => absurd rfl h⟩
  | cons c r ih =>
    intro h
    have hc:=h c List.mem_cons_self
    have sc:Shut (a ++ [c]):=shut_end (by omega)
    have e1:Tk.toks (a ++ [c]) = Tk.toks a:=by
      rcases hc with rfl | rfl
      · rw [Tk.toks_nl]
        exact List.append_nil _
      · rw [Tk.toks_sp]
        exact List.append_nil _
    obtain ⟨i1,i2⟩:=ih (a:=a ++ [c]) fun d hd => h d (List.mem_cons_of_mem _ hd)
    have ea:(a ++ [c]) ++ r = a ++ c :: r:=by rw [List.append_assoc]; rfl
    rw [ea] at i1 i2
    refine ⟨by rw [i1,e1],fun _ => ?_⟩
    by_cases hr:r = []
    · subst hr
      exact sc
    · exact i2 hr
theorem toks_next {a p:List Nat} (hp:Pc p) (h:Tk.Word p → Shut a):Tk.toks (a ++ p) = Tk.toks a ++ [p]:=by
  rcases hp with rfl | rfl | hw
  · rw [Tk.toks_op]
    rfl
  · rw [Tk.toks_cl]
    rfl
  · rw [h hw,Tk.toks_word hw]
end K17
namespace K17
open PySem L2
theorem at_ex {α:Type} {xs:List α} {i:Int} (h0:0 ≤ i) (h1:i < xs.length):∃ v,atI xs i = some v:=by
  have hk:i.toNat < xs.length:=by omega
  have e:i = ((i.toNat:Nat):Int):=by omega
  have q:atI xs ((i.toNat:Nat):Int) = some xs[i.toNat]:=atI_nat (by simp)
  rw [← e] at q
  exact ⟨_,q⟩
theorem at_int {ns:List Int} {i:Int} (h0:0 ≤ i) (h1:i < ns.length):∃ v:Int,atI (ns.map V.int) i = some (.int v):=by
  have hk:i.toNat < ns.length:=by omega
  have e:i = ((i.toNat:Nat):Int):=by omega
  have q:atI (ns.map V.int) ((i.toNat:Nat):Int) = some (.int ns[i.toNat]):=atI_nat (by simp [hk])
  rw [← e] at q
  exact ⟨_,q⟩
theorem mem_at {α:Type} {xs:List α} {i:Int} {g:α} (hm:atI xs i = some g):g ∈ xs:=by
  obtain ⟨j,_,h⟩:=Option.bind_eq_some_iff.mp (show ((ixN xs.length i).bind fun j => xs[j]?) = some g from hm)
  exact List.mem_of_getElem? h
noncomputable def TokL (s:Str):Prop:=s.length ≤ 25 ∧ Pc (cps s) ∧ ∀ c ∈ cps s,c < 0x110000
theorem len_app (a b:Str):(a ++ b).length = a.length + b.length:=by
  show (a.cps ++ b.cps).size = _
  rw [Array.size_append] <;> rfl
theorem cps_app (a b:Str):cps (a ++ b) = cps a ++ cps b:=Tk.lst_app a b
section
variable {P:Program} {w:World} {K:PySem.W.Frag} {mg:Str → Option Value} {base:Heap}
theorem scCell:FnScope ["_law_script","_law_k","_law_number"] ["_law_script","_law_k"] (defScope sCell):=⟨rfl,rfl,rfl,by decide +kernel,rfl,by decide +kernel,by decide +kernel⟩
end
theorem not_in_word {s:Str} (h:Tk.Word (cps s)):(!(Builtin.Str.occurrences (Str.ofString "()") s 0 (Str.ofString "()").length 1).isEmpty) = false:=by
  rw [Bool.eq_false_iff]
  intro z
  obtain ⟨i,_,hs⟩:=(StrLaws.found_iff _ _).mp z
  rw [StrLaws.subAt_eq,beq_iff_eq] at hs
  cases hc:cps s with
  | nil => exact h.1 hc
  | cons c r =>
    have m0:c ∈ s.cps.toList:=by
      show c ∈ cps s
      rw [hc]
      exact .head _
    rw [← hs] at m0
    have m:=List.mem_of_mem_drop (List.mem_of_mem_take m0)
    have w:=h.2 c (by rw [hc]; exact .head _)
    have k:∀ c ∈ (Str.ofString "()").cps.toList,c = 40 ∨ c = 41:=by decide +kernel
    have:=k c m
    omega
noncomputable def spLoose (K:PySem.W.Frag):Sp:=fun vs H Q _ => ∃ (p:Addr) (ws:List Str) (c:Int),vs = [.ref p,.int c] ∧ SqL K H p (ws.map V.str) ∧ ws.length ≤ 1900 ∧ (∀ s ∈ ws,TokL s) ∧ ∀ H' (z:Str),Same H H' → Tk.toks (cps z) = ws.map cps → z.length ≤ 90000 → Q (.str z) H'
theorem gap4 {i:Int} {v:V} (h:atI [V.str "",V.str " ",V.str "\n",V.str "  "] i = some v):∃ g:Str,v = .str g ∧ Blank (cps g) ∧ g.length ≤ 2:=by
  have m:=mem_at h
  simp only [List.mem_cons,List.mem_nil_iff,or_false] at m
  rcases m with rfl | rfl | rfl | rfl
  · exact ⟨_,rfl,(by unfold Blank; decide +kernel),by decide +kernel⟩
  · exact ⟨_,rfl,(by unfold Blank; decide +kernel),by decide +kernel⟩
  · exact ⟨_,rfl,(by unfold Blank; decide +kernel),by decide +kernel⟩
  · exact ⟨_,rfl,(by unfold Blank; decide +kernel),by decide +kernel⟩
theorem head3 {i:Int} {v:V} (h:atI [V.str "",V.str " ",V.str "\n "] i = some v):∃ g:Str,v = .str g ∧ Blank (cps g) ∧ g.length ≤ 2:=by
  have m:=mem_at h
  simp only [List.mem_cons,List.mem_nil_iff,or_false] at m
  rcases m with rfl | rfl | rfl
  · exact ⟨_,rfl,(by unfold Blank; decide +kernel),by decide +kernel⟩
  · exact ⟨_,rfl,(by unfold Blank; decide +kernel),by decide +kernel⟩
  · exact ⟨_,rfl,(by unfold Blank; decide +kernel),by decide +kernel⟩
theorem end3 {i:Int} {v:V} (h:atI [V.str "",V.str "\n",V.str " "] i = some v):∃ g:Str,v = .str g ∧ Blank (cps g) ∧ g.length ≤ 2:=by
  have m:=mem_at h
  simp only [List.mem_cons,List.mem_nil_iff,or_false] at m
  rcases m with rfl | rfl | rfl
  · exact ⟨_,rfl,(by unfold Blank; decide +kernel),by decide +kernel⟩
  · exact ⟨_,rfl,(by unfold Blank; decide +kernel),by decide +kernel⟩
  · exact ⟨_,rfl,(by unfold Blank; decide +kernel),by decide +kernel⟩
section
variable {P:Program} {w:World} {K:PySem.W.Frag} {mg:Str → Option Value} {base:Heap}
theorem scLoose:FnScope ["_law_tokens_here","_law_cell_here","_law_text","_law_k","_law_gap"] ["_law_tokens_here","_law_cell_here"] (defScope sLoose):=⟨rfl,rfl,rfl,by decide +kernel,rfl,by decide +kernel,by decide +kernel⟩
set_option maxHeartbeats 0 in
theorem ok_loose {f:Addr} {fd:FuncData} (F:Fun K "_law_loose" "_law_loose" sLoose f fd) (ml:mg "len" = none) (mr:mg "range" = none):FnOk P w K mg base CX0 1 f fd ["_law_tokens_here","_law_cell_here"] (spLoose K):=by
  refine F.ok scLoose (fun vs H Q E h => ?_) (fun cdv A outer s H vs Q E hr h => ?_)
  · obtain ⟨p,ws,c,rfl,_⟩:=h
    rfl
  obtain ⟨p,ws,c,rfl,hp,hl,htk,q⟩:=h
  refine ⟨_,pss_cons (ps_set (i:=2) scLoose.nd rfl (Or.inl rfl) (pe_ix ix_list (pe_lst (pa_cons pe_str (pa_cons pe_str (pa_cons pe_str pa_nil)))) (pe_op op_mod (pv 1) pe_int) (fun _ _ => rfl)))
    (pss_cons (ps_for PassesOwn.never rfl (pi_range1 rfl mr (pa_cons (pe_callB call_len_seq rfl ml PySem.boot_len (pa_cons (pv 0) pa_nil)) pa_nil)) (pg_name (i:=3) scLoose.nd rfl (Or.inl rfl))
      (pss_cons (ps_set (i:=4) scLoose.nd rfl (Or.inl rfl) (pe_ix ix_list (pe_lst (pa_cons pe_str (pa_cons pe_str (pa_cons pe_str (pa_cons pe_str pa_nil))))) (pe_op op_mod (pe_op op_add (pe_op op_fdiv (pv 1) pe_int) (pe_op op_mul (pv 3) (pe_op op_add pe_int (pe_op op_mod (pe_op op_fdiv (pv 1) pe_int) pe_int)))) pe_int) (fun _ _ => rfl)))
      (pss_cons (ps_if (PW.pt (pw_and (pt_cmpR op_eq (pv 4) pe_str (nomark _)) (pw_and (pt_cmpR op_gt (pv 3) pe_int (nomark _)) (pw_and (pt_cmpR op_notIn_str (pe_ix ix_list (pv 0) (pe_op op_sub (pv 3) pe_int) (fun _ _ => rfl)) pe_str (by with_unfolding_all rfl)) (pw_and1 (pt_cmpR op_notIn_str (pe_ix ix_list (pv 0) (pv 3) (fun _ _ => rfl)) pe_str (by with_unfolding_all rfl)))))))
        (pss_one (ps_set (i:=4) scLoose.nd rfl (Or.inl rfl) pe_str)) pss_nil)
      (pss_one (ps_set (i:=2) scLoose.nd rfl (Or.inl rfl) (pe_op op_add_str (pe_op op_add_str (pv 2) (pv 4)) (pe_ix ix_list (pv 0) (pv 3) (fun _ _ => rfl))))))))
    (pss_one (ps_ret (pe_op op_add_str (pv 2) (pe_ix ix_list (pe_lst (pa_cons pe_str (pa_cons pe_str (pa_cons pe_str pa_nil)))) (pe_op op_mod (pe_op op_fdiv (pv 1) pe_int) pe_int) (fun _ _ => rfl)))))),?_⟩
  have wl:(ws.map V.str).length = ws.length:=List.length_map _
  refine ⟨(by show 3 ≤ sizeLine; decide),fun l1 hl1 => ?_⟩
  have s1:=same_new hl1 (.lst [V.str "",V.str " ",V.str "\n "])
  obtain ⟨v0,e0⟩:=at_ex (xs:=[V.str "",V.str " ",V.str "\n "]) (i:=c % 3) (Int.emod_nonneg _ (by decide)) (Int.lt_of_lt_of_le (Int.emod_lt_of_pos _ (by decide)) (by decide))
  obtain ⟨g0,rfl,b0,n0⟩:=head3 e0
  refine ⟨_,rfl,_,_,rfl,rfl,(by show (0:Int) < 3; decide),l1,_,_,_,rfl,rfl,SqL.of upd_same,e0,?_⟩
  refine ⟨_,rfl,p,_,rfl,.inl (s1.seq hp),_,rfl,by omega,by omega,for_range (lo:=0) (n:=(((ws.map V.str).length:Nat):Int).toNat) (fun i σ H3 => ∃ (z:Str) (v3 v4:Option V),σ = [some (.ref p),some (.int c),some (.str z),v3,v4] ∧ Same H H3 ∧ Tk.toks (cps z) = (ws.take i).map cps ∧ z.length ≤ 2 + 27 * i ∧ ((∀ j p0,i = j + 1 → ws[j]? = some p0 → ¬ Tk.Word (cps p0)) → Shut (cps z)))
    ⟨g0,none,none,rfl,s1,?_,n0,fun _ => ?_⟩ ?_ ?_⟩
  · have:=(blank_end (a:=[]) b0).1
    exact this
  · by_cases h:cps g0 = []
    · rw [h]
      exact shut_nil
    · exact (blank_end (a:=[]) b0).2 h
  · rintro i σ H3 hi ⟨z,v3,v4,rfl,s3,ht,hzl,hsh⟩
    rw [Int.toNat_natCast,wl] at hi
    obtain ⟨p',hp'⟩:∃ p',ws[i]? = some p':=⟨_,List.getElem?_eq_getElem hi⟩
    obtain ⟨tl,tpc,_⟩:=htk p' (List.mem_of_getElem? hp')
    have hat:atI (ws.map V.str) (0 + (i:Int)) = some (.str p'):=by
      rw [Int.zero_add]
      exact atI_nat (by rw [List.getElem?_map,hp']; rfl)
    refine ⟨(by show 4 ≤ sizeLine; decide),fun l2 hl2 => ?_⟩
    have s2:=same_new hl2 (.lst [V.str "",V.str " ",V.str "\n",V.str "  "])
    have hsq2:=(s3.trans s2).seq hp
    obtain ⟨vg,eg⟩:=at_ex (xs:=[V.str "",V.str " ",V.str "\n",V.str "  "]) (i:=(c / 3 + (0 + (i:Int)) * (1 + c / 7 % 11)) % 4) (Int.emod_nonneg _ (by decide)) (Int.lt_of_lt_of_le (Int.emod_lt_of_pos _ (by decide)) (by decide))
    obtain ⟨g,rfl,bg,ng⟩:=gap4 eg
    refine ⟨_,rfl,_,_,rfl,rfl,⟨by decide,by decide⟩,_,rfl,_,rfl,_,_,rfl,rfl,⟨by decide,by decide⟩,_,_,rfl,rfl,(by show (0:Int) < 11; decide),_,_,rfl,rfl,_,_,rfl,rfl,.inl ⟨by omega,by omega⟩,_,_,rfl,rfl,?_⟩
    refine ⟨_,_,rfl,rfl,(by show (0:Int) < 4; decide),l2,_,_,_,rfl,rfl,SqL.of upd_same,eg,?_⟩
    have fin:∀ (g':Str),Blank (cps g') → g'.length ≤ 2 → (Tk.Word (cps p') → Shut (cps z ++ cps g')) → (z.length + g'.length ≤ sizeLine ∧ (z ++ g').length + p'.length ≤ sizeLine) ∧ ∃ (z2:Str) (v3 v4:Option V),([some (.ref p),some (.int c),some (.str ((z ++ g') ++ p')),some (.int (0 + (i:Int))),some (.str g')]:St) = [some (.ref p),some (.int c),some (.str z2),v3,v4] ∧ Same H (upd H3 l2 (.lst [V.str "",V.str " ",V.str "\n",V.str "  "])) ∧ Tk.toks (cps z2) = (ws.take (i + 1)).map cps ∧ z2.length ≤ 2 + 27 * (i + 1) ∧ ((∀ j p0,i + 1 = j + 1 → ws[j]? = some p0 → ¬ Tk.Word (cps p0)) → Shut (cps z2)):=fun g' bg' ng' sh => by
      have ec:cps ((z ++ g') ++ p') = (cps z ++ cps g') ++ cps p':=by rw [cps_app,cps_app]
      refine ⟨⟨Nat.le_of_lt (mid (by omega)),Nat.le_of_lt (mid (by rw [len_app]; omega))⟩,(z ++ g') ++ p',_,_,rfl,s3.trans s2,?_,?_,fun hn => ?_⟩
      · rw [ec,toks_next tpc sh,(blank_end bg').1,ht,List.take_add_one,hp',List.map_append]
        rfl
      · rw [len_app,len_app]
        omega
      · rw [ec]
        rcases tpc with e | e | hw
        · rw [e]
          exact shut_end (.inl rfl)
        · rw [e]
          exact shut_end (.inr (.inl rfl))
        · exact absurd hw (hn i p' rfl hp')
    refine ⟨_,rfl,rfl,_,rfl,ite2 (fun c1 => ?_) (fun c1 => iteF ?_)⟩
    · have eg0:g = "":=V.str.inj (of_decide_eq_true c1)
      have ec0:cps z ++ cps g = cps z:=by rw [eg0]; exact List.append_nil _
      refine ⟨_,rfl,_,_,rfl,rfl,_,rfl,ite2 (fun c2 => ?_) (fun c2 => iteF ?_)⟩
      · have c2':(0:Int) + (i:Int) > 0:=of_decide_eq_true c2
        obtain ⟨j,rfl⟩:∃ j,i = j + 1:=⟨i - 1,by omega⟩
        obtain ⟨p0,hp0⟩:∃ p0,ws[j]? = some p0:=⟨_,List.getElem?_eq_getElem (by omega)⟩
        have hat0:atI (ws.map V.str) ((0 + ((j + 1:Nat):Int)) - 1) = some (.str p0):=by
          rw [show (0 + ((j + 1:Nat):Int)) - 1 = (j:Int) by omega]
          exact atI_nat (by rw [List.getElem?_map,hp0]; rfl)
        refine ⟨_,rfl,_,rfl,_,_,rfl,rfl,p,_,_,_,rfl,rfl,hsq2,hat0,p0,_,rfl,rfl,_,rfl,ite2 (fun c3 => ?_) (fun c3 => iteF ?_)⟩
        · refine ⟨_,rfl,_,rfl,p,_,_,_,rfl,rfl,hsq2,hat,p',_,rfl,rfl,_,rfl,ite2 (fun c4 => ?_) (fun c4 => ?_)⟩
          · obtain ⟨FL,fi⟩:=fin " " (by unfold Blank; decide +kernel) (by decide +kernel) fun _ => shut_end (a:=cps z) (c:=32) (.inr (.inr (.inr rfl)))
            exact ⟨_,rfl,_,rfl,z," ",rfl,rfl,FL.1,_,rfl,_,rfl,p,_,_,_,rfl,rfl,hsq2,hat,_,p',rfl,rfl,FL.2,fi⟩
          · have nw:¬ Tk.Word (cps p'):=fun hw => c4 (by
              show (!(!(Builtin.Str.occurrences (Str.ofString "()") p' 0 (Str.ofString "()").length 1).isEmpty)) = true
              rw [not_in_word hw]
              rfl)
            obtain ⟨FL,fi⟩:=fin g bg ng fun hw => absurd hw nw
            exact ⟨_,rfl,_,rfl,z,g,rfl,rfl,FL.1,_,rfl,_,rfl,p,_,_,_,rfl,rfl,hsq2,hat,_,p',rfl,rfl,FL.2,fi⟩
        · have nw:¬ Tk.Word (cps p0):=fun hw => c3 (by
            show (!(!(Builtin.Str.occurrences (Str.ofString "()") p0 0 (Str.ofString "()").length 1).isEmpty)) = true
            rw [not_in_word hw]
            rfl)
          obtain ⟨FL,fi⟩:=fin g bg ng fun _ => by
            rw [ec0]
            refine hsh fun j' q' ej hq => ?_
            obtain rfl:j = j':=Nat.succ.inj ej
            rw [hp0] at hq
            exact Option.some.inj hq ▸ nw
          exact ⟨_,rfl,_,rfl,z,g,rfl,rfl,FL.1,_,rfl,_,rfl,p,_,_,_,rfl,rfl,hsq2,hat,_,p',rfl,rfl,FL.2,fi⟩
      · have i0:i = 0:=by
          have:¬ ((0:Int) + (i:Int) > 0):=of_decide_eq_false (Bool.eq_false_iff.mpr c2)
          omega
        obtain ⟨FL,fi⟩:=fin g bg ng fun _ => by
          rw [ec0]
          refine hsh fun j' q' ej _ => ?_
          omega
        exact ⟨_,rfl,_,rfl,z,g,rfl,rfl,FL.1,_,rfl,_,rfl,p,_,_,_,rfl,rfl,hsq2,hat,_,p',rfl,rfl,FL.2,fi⟩
    · have gne:cps g ≠ []:=fun e => c1 (decide_eq_true (congrArg V.str (Tk.lst_inj (e.trans (show ([]:List Nat) = Tk.lst "" from rfl)))))
      obtain ⟨FL,fi⟩:=fin g bg ng fun _ => (blank_end bg).2 gne
      exact ⟨_,rfl,_,rfl,z,g,rfl,rfl,FL.1,_,rfl,_,rfl,p,_,_,_,rfl,rfl,hsq2,hat,_,p',rfl,rfl,FL.2,fi⟩
  · rintro σ H3 ⟨z,v3,v4,rfl,s3,ht,hzl,hsh⟩
    rw [Int.toNat_natCast,wl] at ht hzl
    refine ⟨_,rfl,(by show 3 ≤ sizeLine; decide),fun l2 hl2 => ?_⟩
    have s2:=same_new hl2 (.lst [V.str "",V.str "\n",V.str " "])
    obtain ⟨vg,eg⟩:=at_ex (xs:=[V.str "",V.str "\n",V.str " "]) (i:=c / 5 % 3) (Int.emod_nonneg _ (by decide)) (Int.lt_of_lt_of_le (Int.emod_lt_of_pos _ (by decide)) (by decide))
    obtain ⟨g,rfl,bg,ng⟩:=end3 eg
    refine ⟨_,rfl,_,_,rfl,rfl,⟨by decide,by decide⟩,_,_,rfl,rfl,(by show (0:Int) < 3; decide),l2,_,_,_,rfl,rfl,SqL.of upd_same,eg,z,g,rfl,rfl,Nat.le_of_lt (mid (by omega)),?_⟩
    refine q _ (z ++ g) (s3.trans s2) ?_ ?_
    · rw [cps_app,(blank_end bg).1,ht,List.take_length]
    · rw [len_app]
      omega
end
noncomputable def End (r:List (List Nat)):Prop:=r = [] ∨ ∃ r1,r = [41] :: r1
mutual
theorem tree_inj:∀ {t u:Tr},t.ok → u.ok → ∀ {x y:List (List Nat)},t.flat ++ x = u.flat ++ y → t = u ∧ x = y
  | .w s,.w s',_,_,x,y,e => by
    have e':cps s :: x = cps s' :: y:=e
    have h:=List.cons.inj e'
    exact ⟨by rw [Tk.lst_inj h.1],h.2⟩
  | .w s,.n us,hs,_,x,y,e => by
    have e':cps s :: x = [40] :: ((flats us ++ [[41]]) ++ y):=e
    exact absurd (List.cons.inj e').1 (word_ne (s:=s) hs).1
  | .n ts,.w s,_,hs,x,y,e => by
    have e':[40] :: ((flats ts ++ [[41]]) ++ x) = cps s :: y:=e
    exact absurd (List.cons.inj e').1.symm (word_ne (s:=s) hs).1
  | .n ts,.n us,ht,hu,x,y,e => by
    have e':[40] :: ((flats ts ++ [[41]]) ++ x) = [40] :: ((flats us ++ [[41]]) ++ y):=e
    have h:=(List.cons.inj e').2
    rw [List.append_assoc,List.append_assoc] at h
    obtain ⟨h1,h2⟩:=flats_inj (a:=ts) (b:=us) ht hu (.inr ⟨x,rfl⟩) (.inr ⟨y,rfl⟩) h
    rw [h1]
    exact ⟨rfl,(List.cons.inj h2).2⟩
theorem flats_inj:∀ {a b:List Tr},oks a → oks b → ∀ {r r':List (List Nat)},End r → End r' → flats a ++ r = flats b ++ r' → a = b ∧ r = r'
  | [],[],_,_,r,r',_,_,e => ⟨rfl,e⟩
  | [],u :: b,_,hb,r,r',hr,_,e => by
    have e':r = (u.flat ++ flats b) ++ r':=e
    cases u with
    | w s =>
      have e2:r = cps s :: (flats b ++ r'):=e'
      rcases hr with rfl | ⟨r1,rfl⟩
      · cases e2
      · exact absurd (List.cons.inj e2).1.symm (word_ne (s:=s) hb.1).2
    | n us =>
      have e2:r = [40] :: (((flats us ++ [[41]]) ++ flats b) ++ r'):=e'
      rcases hr with rfl | ⟨r1,rfl⟩
      · cases e2
      · exact absurd (List.cons.inj e2).1 (by decide)
  | t :: a,[],ha,_,r,r',_,hr,e => by
    have e':(t.flat ++ flats a) ++ r = r':=e
    cases t with
    | w s =>
      have e2:cps s :: (flats a ++ r) = r':=e'
      rcases hr with rfl | ⟨r1,rfl⟩
      · cases e2
      · exact absurd (List.cons.inj e2).1 (word_ne (s:=s) ha.1).2
    | n us =>
      have e2:[40] :: (((flats us ++ [[41]]) ++ flats a) ++ r) = r':=e'
      rcases hr with rfl | ⟨r1,rfl⟩
      · cases e2
      · exact absurd (List.cons.inj e2).1 (by decide)
  | t :: a,u :: b,⟨h1,h2⟩,⟨h3,h4⟩,r,r',hr,hr',e => by
    have e':(t.flat ++ flats a) ++ r = (u.flat ++ flats b) ++ r':=e
    rw [List.append_assoc,List.append_assoc] at e'
    obtain ⟨e1,e2⟩:=tree_inj h1 h3 e'
    obtain ⟨e3,e4⟩:=flats_inj h2 h4 hr hr' e2
    rw [e1,e3]
    exact ⟨rfl,e4⟩
end
theorem one_reading {a b:List Tr} (ha:oks a) (hb:oks b) (e:flats a = flats b):a = b :=
  (flats_inj (r:=[]) (r':=[]) ha hb (.inl rfl) (.inl rfl) (by rw [e])).1
theorem flat_len:∀ {ts:List Tr} {t:Tr},t ∈ ts → t.flat.length ≤ (flats ts).length
  | u :: r,t,h => by
    show _ ≤ (u.flat ++ flats r).length
    rw [List.length_append]
    rcases List.mem_cons.mp h with rfl | z
    · omega
    · have:=flat_len z
      omega
theorem kit_tt (K:PySem.W.Frag):PySem.W.kitOne K (.type "tuple") (.type "tuple") = some true:=rfl
theorem two_of {α:Type} {a b:α} {p:α → Prop} (ha:p a) (hb:p b):∀ y ∈ [a,b],p y:=fun y hy => by
  rcases List.mem_cons.mp hy with rfl | hy
  · exact ha
  · rw [List.mem_singleton.mp hy]
    exact hb
theorem all_true (n:Nat):(List.replicate n true).all id = true:=by
  rw [List.all_eq_true]
  intro x hx
  rw [List.eq_of_mem_replicate hx]
  rfl
theorem str_iff {s:Str} {c:Nat}:s = ⟨#[c]⟩ ↔ cps s = [c] :=
  ⟨fun h => by rw [h],fun h => Tk.lst_inj (h.trans (show ([c]:List Nat) = Tk.lst ⟨#[c]⟩ from rfl))⟩
end K17
namespace K17
open PySem L2
noncomputable def abc:Str:="abcdefghijklmnopqrstuvwxyz"
noncomputable def takenS:List Str:=["num","pair","lit","as","if","let","two","first","second"]
noncomputable def takenV:List V:=takenS.map V.str
noncomputable def inL (c:Nat):Bool:=!(Builtin.Str.occurrences abc ⟨#[c]⟩ 0 abc.length 1).isEmpty
noncomputable def allL (w:Str):Bool:=(w.cps.toList.map inL).all id
noncomputable def fits (w:Str):Bool:=decide (1 ≤ w.length) && decide (w.length ≤ 12) && !inV (.str w) takenV
noncomputable def nameOk (w:Str):Bool:=fits w && allL w
theorem len_list (w:Str):w.cps.toList.length = w.length:=by simp [Str.length]
theorem flat_taken:takenV.all flatV = true:=by decide +kernel
noncomputable def spName:Sp:=fun vs H Q _ => ∃ w,vs = [.str w] ∧ w.length ≤ 1000 ∧ ∀ H',Same H H' → Q (.bl (nameOk w)) H'
noncomputable def figT:Str:="0123456789"
noncomputable def zero:Str:="0"
noncomputable def inF (c:Nat):Bool:=!(Builtin.Str.occurrences figT ⟨#[c]⟩ 0 figT.length 1).isEmpty
noncomputable def allF (w:Str):Bool:=(w.cps.toList.map inF).all id
noncomputable def first0 (c:Nat):Bool:=decide (V.str ⟨#[c]⟩ = V.str zero)
noncomputable def numOk (w:Str):Bool:=decide (1 ≤ w.length) && decide (w.length ≤ 19) && allF w && (decide (w.length = 1) || !(w.cps.toList.head?.any first0))
theorem head_at {w:Str} {c:Nat} (h:atI w.cps.toList 0 = some c):w.cps.toList.head? = some c:=by
  have h':atI w.cps.toList ((0:Nat):Int) = some c:=h
  cases e:w.cps.toList with
  | nil => rw [e] at h'; cases h'
  | cons x r =>
    rw [e] at h'
    have q:atI (x :: r) ((0:Nat):Int) = some x:=atI_nat (by simp)
    rw [q] at h'
    rw [← h']
    rfl
theorem one_text {w:Str} {c:Nat} (h:w.cps.toList.head? = some c) (h1:w.length = 1):w = ⟨#[c]⟩:=by
  obtain ⟨⟨l⟩⟩:=w
  have hl:l.length = 1:=h1
  match l,hl with
  | [x],_ =>
    have q:some x = some c:=h
    cases q
    rfl
theorem same_test {w:Str} {c:Nat} (h:w.cps.toList.head? = some c):(first0 c && !decide (V.str w = V.str zero)) = !(decide (w.length = 1) || !(w.cps.toList.head?.any first0)):=by
  rw [h]
  show (first0 c && _) = !(decide (w.length = 1) || !(first0 c))
  cases e:first0 c with
  | false => simp
  | true =>
    have e':(⟨#[c]⟩:Str) = zero:=V.str.inj (of_decide_eq_true e)
    have q:(V.str w = V.str zero) ↔ w.length = 1:=by
      constructor
      · intro z
        have z':w = zero:=V.str.inj z
        rw [z',← e']
        rfl
      · intro z
        rw [one_text h z,e']
    by_cases hw:w.length = 1
    · simp [hw,q.mpr hw]
    · have q2:¬ V.str w = V.str zero:=fun z => hw (q.mp z)
      rw [decide_eq_false q2,decide_eq_false hw] <;> rfl
noncomputable def spNum:Sp:=fun vs H Q _ => ∃ w,vs = [.str w] ∧ w.length ≤ 1000 ∧ ∀ H',Same H H' → Q (.bl (numOk w)) H'
theorem num_short {w:Str} (h:¬ (1 ≤ w.length ∧ w.length ≤ 19)):numOk w = false:=by
  unfold numOk
  by_cases h1:1 ≤ w.length
  · have h2:¬ w.length ≤ 19:=fun z => h ⟨h1,z⟩
    simp [h2]
  · simp [h1]
theorem num_bad {w:Str} (h:allF w = false):numOk w = false:=by
  unfold numOk
  simp [h]
theorem num_ok {w:Str} (h1:1 ≤ w.length) (h2:w.length ≤ 19) (h:allF w = true):numOk w = (decide (w.length = 1) || !(w.cps.toList.head?.any first0)):=by
  unfold numOk
  rw [decide_eq_true h1,decide_eq_true h2,h] <;> rfl
section
variable {P:Program} {w:World} {K:PySem.W.Frag} {mg:Str → Option Value} {base:Heap}
theorem scName:FnScope ["word","fits"] ["word"] (defScope sName):=⟨rfl,rfl,rfl,by decide +kernel,rfl,by decide +kernel,by decide +kernel⟩
theorem ok_name {f pT:Addr} {fd:FuncData} {tL tN:Tok} (F:Fun K "is_name" "is_name" sName f fd) (ml:mg "len" = none) (mall:mg "all" = none) (mL:mg "LETTERS" = some (.str "abcdefghijklmnopqrstuvwxyz" tL)) (mN:mg "LONGEST_NAME" = some (.int 12 tN)) (mT:mg "NO_NAMES" = some (.ref pT)) (hT:∀ H,SqT K H pT takenV) :
    FnOk P w K mg base CX0 1 f fd ["word"] spName:=by
  refine F.ok scName (fun vs H Q E h => ?_) (fun cdv A outer s H vs Q E hr h => ?_)
  · obtain ⟨z,rfl,_⟩:=h
    rfl
  obtain ⟨z,rfl,hz,q⟩:=h
  have hzz:=small hz
  obtain ⟨u1,d1,k1⟩:∃ t,PSs (cxOf CX0 P w K mg base ["word","fits"] "is_name" (defScope sName) f cdv A outer s H E).nox (List.drop 1 (defBody sName)) t ∧ ∀ b:Bool,fits z = b → t { nx:=fun _ H' => Q .non H',rt:=Q } [some (.str z),some (.bl b)] H:=by
    refine ⟨_,pss_one (ps_ret (pe_and (pv 1) (pe_one (pe_callB (call_allB rfl) rfl mall bootAll (pa_cons (pe_comp (own:=["sign"]) (caps:=[]) (κ:=[]) (cl:=[]) rfl ⟨rfl,by decide +kernel,by decide +kernel,rfl,rfl,(fun y hy => nomatch hy),(fun y hy => nomatch hy)⟩ rfl (pi_str (pv 0))
      (fun _ _ _ _ => pg_name (i:=0) (show (["sign"]:List Str).Nodup from by decide +kernel) rfl (Or.inl rfl)) (fun _ _ _ _ => pe_cmpR op_in_str (pv 0) (pe_glob rfl mL (v:=.str "abcdefghijklmnopqrstuvwxyz") ⟨tL,rfl⟩) (by with_unfolding_all rfl))) pa_nil))))),fun b hb => ?_⟩
    refine ⟨_,rfl,b,rfl,?_⟩
    cases b with
    | false =>
      refine iteF ?_
      have q':=q H (Same.refl _)
      rw [show nameOk z = false from by unfold nameOk; rw [hb] <;> rfl] at q'
      exact q'
    | true =>
      refine iteT ⟨_,rfl,z,rfl,?_⟩
      refine comp_by (J:=Its z) (xs:=signsV z) (fun i ys H2 => i ≤ z.length ∧ ys = ((z.cps.toList.take i).map inL).map V.bl ∧ H2 = H) ⟨Nat.zero_le _,rfl,rfl⟩ (by rw [signsV_len]; exact hzz) ?_ ?_ ?_ ?_ ?_ ?_
      · rintro i ys H3 ⟨hi,rfl,_⟩
        rw [List.length_map,List.length_map,List.length_take]
        omega
      · rintro i x ys H3 hx _
        exact its_go i x hx
      · rintro i ys x H3 H' hi _ hy
        exact its_yld i x H' hy
      · rintro ys H3 _
        exact its_stop
      · rintro i x ys H3 N hN hx ⟨hi,rfl,rfl⟩
        obtain ⟨c,hc,rfl⟩:=signsV_get.mp hx
        have hc':z.cps.toList[i]? = some c:=by simpa using hc
        have hlt:i < z.length:=by
          have:=(List.getElem?_eq_some_iff.mp hx).1
          rw [signsV_len] at this
          exact this
        refine ⟨rfl,tYes_go ⟨_,rfl,_,_,rfl,rfl,hN _ _ ⟨hlt,?_,rfl⟩⟩⟩
        rw [List.take_add_one,hc',List.map_append,List.map_append]
        rfl
      · rintro ys H3 D ⟨hi,rfl,rfl⟩ hD
        refine ⟨D,z.cps.toList.map inL,rfl,SqL.of ?_,?_⟩
        · rw [upd_same,signsV_len,List.take_of_length_le (by rw [len_list]; exact Nat.le_refl _)]
        · have q':=q _ (same_new hD (.lst (((z.cps.toList.take (signsV z).length).map inL).map V.bl)))
          rw [show nameOk z = (z.cps.toList.map inL).all id from by unfold nameOk; rw [hb] <;> rfl] at q'
          exact q'
  refine ⟨_,pss_cons (ps_set (i:=1) scName.nd rfl (Or.inl rfl) (pe_and (pe_chain op_le op_le pe_int (pe_callB call_len_str rfl ml PySem.boot_len (pa_cons (pv 0) pa_nil)) (pe_glob rfl mN (v:=.int 12) ⟨tN,rfl⟩)) (pe_one (pe_cmpR op_notIn_seq (pv 0) (pe_glob rfl mT (v:=.ref pT) rfl) (by with_unfolding_all rfl))))) d1,?_⟩
  refine ⟨_,rfl,z,rfl,hzz,_,_,rfl,rfl,_,rfl,?_⟩
  refine ite2 (fun c => ?_) (fun c => ?_)
  · have c1:(1:Int) ≤ (z.length:Int):=of_decide_eq_true c
    refine ⟨_,_,rfl,rfl,_,rfl,?_⟩
    refine ite2 (fun d => ?_) (fun d => ?_)
    · have d1:(z.length:Int) ≤ 12:=of_decide_eq_true d
      refine ⟨_,rfl,pT,takenV,rfl,.inr (hT H),rfl,flat_taken,k1 _ ?_⟩
      unfold fits
      rw [decide_eq_true (by omega),decide_eq_true (by omega)] <;> rfl
    · have d1:¬ (z.length:Int) ≤ 12:=of_decide_eq_false (Bool.eq_false_iff.mpr d)
      refine k1 _ ?_
      unfold fits
      rw [decide_eq_false (p:=z.length ≤ 12) (by omega),Bool.and_false] <;> rfl
  · have c1:¬ (1:Int) ≤ (z.length:Int):=of_decide_eq_false (Bool.eq_false_iff.mpr c)
    refine ⟨_,rfl,iteF (k1 _ ?_)⟩
    unfold fits
    rw [decide_eq_false (p:=1 ≤ z.length) (by omega)] <;> rfl
theorem scNum:FnScope ["word"] ["word"] (defScope sNum):=⟨rfl,rfl,rfl,by decide +kernel,rfl,by decide +kernel,by decide +kernel⟩
theorem ok_num {f:Addr} {fd:FuncData} {tF tN:Tok} (F:Fun K "is_number" "is_number" sNum f fd) (ml:mg "len" = none) (mall:mg "all" = none) (mF:mg "FIGURES" = some (.str "0123456789" tF)) (mN:mg "LONGEST_NUMBER" = some (.int 19 tN)) :
    FnOk P w K mg base CX0 1 f fd ["word"] spNum:=by
  refine F.ok scNum (fun vs H Q E h => ?_) (fun cdv A outer s H vs Q E hr h => ?_)
  · obtain ⟨z,rfl,_⟩:=h
    rfl
  obtain ⟨z,rfl,hz,q⟩:=h
  have hzz:=small hz
  refine ⟨_,pss_cons (ps_if (pt_not (pt_chain op_le op_le pe_int (pe_callB call_len_str rfl ml PySem.boot_len (pa_cons (pv 0) pa_nil)) (pe_glob rfl mN (v:=.int 19) ⟨tN,rfl⟩))) (pss_one (ps_ret pe_bl)) pss_nil)
    (pss_cons (ps_if (PW.pt (pw_and (pt_cmpR op_eq (pe_ix ix_str (pv 0) pe_int (fun _ _ => rfl)) pe_str (nomark _)) (pw_and1 (pt_cmpR op_ne (pv 0) pe_str (nomark _))))) (pss_one (ps_ret pe_bl)) pss_nil)
    (pss_one (ps_ret (pe_callB (call_allB rfl) rfl mall bootAll (pa_cons (pe_comp (own:=["sign"]) (caps:=[]) (κ:=[]) (cl:=[]) rfl ⟨rfl,by decide +kernel,by decide +kernel,rfl,rfl,(fun y hy => nomatch hy),(fun y hy => nomatch hy)⟩ rfl (pi_str (pv 0))
      (fun _ _ _ _ => pg_name (i:=0) (show (["sign"]:List Str).Nodup from by decide +kernel) rfl (Or.inl rfl)) (fun _ _ _ _ => pe_cmpR op_in_str (pv 0) (pe_glob rfl mF (v:=.str "0123456789") ⟨tF,rfl⟩) (by with_unfolding_all rfl))) pa_nil))))),?_⟩
  have bad:∀ {b:Bool} {H':Hp},Same H H' → numOk z = b → Q (.bl b) H':=fun hs e => e ▸ q _ hs
  have done:∀ {H':Hp} {c0:Nat},Same H H' → 1 ≤ z.length → z.length ≤ 19 → z.cps.toList.head? = some c0 → (first0 c0 && !decide (V.str z = V.str zero)) = false → Q (.bl ((z.cps.toList.map inF).all id)) H':=fun {H' c0} hs h1 h2 h0 hk => by
    refine bad hs ?_
    cases e:allF z with
    | false => rw [num_bad e]; exact e.symm
    | true =>
      rw [num_ok h1 h2 e,show (z.cps.toList.map inF).all id = true from e]
      rw [same_test h0] at hk
      cases hh:(decide (z.length = 1) || !(z.cps.toList.head?.any first0)) with
      | true => rfl
      | false =>
        rw [hh] at hk
        cases hk
  refine ⟨_,rfl,z,rfl,hzz,_,_,rfl,rfl,_,rfl,?_⟩
  refine ite2 (fun c => ?_) (fun c => ?_)
  · have c1:(1:Int) ≤ (z.length:Int):=of_decide_eq_true c
    refine ⟨_,_,rfl,rfl,_,rfl,?_⟩
    refine ite2 (fun d => ?_) (fun d => ?_)
    · have d1:¬ (z.length:Int) ≤ 19:=fun y => by
        rw [decide_eq_true y] at d
        cases d
      exact bad (Same.refl _) (num_short (by omega))
    have d1:(z.length:Int) ≤ 19:=by
      refine Int.not_lt.mp fun y => d ?_
      rw [decide_eq_false (by omega)]
      rfl
    obtain ⟨c0,hc0⟩:=at_ex (xs:=z.cps.toList) (i:=0) (by omega) (by rw [len_list]; omega)
    have h0:=head_at hc0
    refine ⟨_,rfl,z,_,c0,rfl,rfl,hzz,hc0,rfl,_,rfl,?_⟩
    have hret:(first0 c0 && !decide (V.str z = V.str zero)) = false → CompRun 1 [] (gName 0) tYes (tOp (fun x y H Q => ∃ i j,x = .str i ∧ y = .str j ∧ Q (.bl (!(Builtin.Str.occurrences j i 0 j.length 1).isEmpty)) H) (tVar 0) (tC (.str figT))) [some (.str z)] (Its z) H
        (fun x H2 => ∃ (p:Addr) (bs:List Bool),[x] = [V.ref p] ∧ SqL K H2 p (bs.map V.bl) ∧ Q (.bl (bs.all id)) H2):=by
      intro hk
      refine comp_by (J:=Its z) (xs:=signsV z) (fun i ys H2 => i ≤ z.length ∧ ys = ((z.cps.toList.take i).map inF).map V.bl ∧ H2 = H) ⟨Nat.zero_le _,rfl,rfl⟩ (by rw [signsV_len]; exact hzz) ?_ ?_ ?_ ?_ ?_ ?_
      · rintro i ys H3 ⟨hi,rfl,_⟩
        rw [List.length_map,List.length_map,List.length_take]
        omega
      · rintro i x ys H3 hx _
        exact its_go i x hx
      · rintro i ys x H3 H' hi _ hy
        exact its_yld i x H' hy
      · rintro ys H3 _
        exact its_stop
      · rintro i x ys H3 N hN hx ⟨hi,rfl,rfl⟩
        obtain ⟨c,hc,rfl⟩:=signsV_get.mp hx
        have hc':z.cps.toList[i]? = some c:=by simpa using hc
        have hlt:i < z.length:=by
          have:=(List.getElem?_eq_some_iff.mp hx).1
          rw [signsV_len] at this
          exact this
        refine ⟨rfl,tYes_go ⟨_,rfl,_,_,rfl,rfl,hN _ _ ⟨hlt,?_,rfl⟩⟩⟩
        rw [List.take_add_one,hc',List.map_append,List.map_append]
        rfl
      · rintro ys H3 D ⟨hi,rfl,rfl⟩ hD
        refine ⟨D,z.cps.toList.map inF,rfl,SqL.of ?_,done (same_new hD _) (by omega) (by omega) h0 hk⟩
        rw [upd_same,signsV_len,List.take_of_length_le (by rw [len_list]; exact Nat.le_refl _)]
    refine ite2 (fun e => ?_) (fun e => ?_)
    · refine ⟨_,rfl,rfl,_,rfl,?_⟩
      refine ite2 (fun g => ?_) (fun g => ?_)
      · have hk:(first0 c0 && !decide (V.str z = V.str zero)) = true:=by
          rw [show first0 c0 = true from e]
          exact g
        rw [same_test h0] at hk
        refine bad (Same.refl _) ?_
        cases e2:allF z with
        | false => exact num_bad e2
        | true =>
          rw [num_ok (by omega) (by omega) e2]
          cases hh:(decide (z.length = 1) || !(z.cps.toList.head?.any first0)) with
          | false => rfl
          | true =>
            rw [hh] at hk
            cases hk
      · have hk:(first0 c0 && !decide (V.str z = V.str zero)) = false:=by
          rw [show first0 c0 = true from e]
          exact Bool.eq_false_iff.mpr g
        exact ⟨_,rfl,z,rfl,hret hk⟩
    · have hk:(first0 c0 && !decide (V.str z = V.str zero)) = false:=by
        rw [show first0 c0 = false from Bool.eq_false_iff.mpr e]
        rfl
      exact iteF ⟨_,rfl,z,rfl,hret hk⟩
  · have c1:¬ (1:Int) ≤ (z.length:Int):=of_decide_eq_false (Bool.eq_false_iff.mpr c)
    exact ⟨_,rfl,iteT (bad (Same.refl _) (num_short (by omega)))⟩
end
end K17
namespace K17
open PySem L2
noncomputable abbrev numS (n:Nat):Str:=Str.ofString (toString (n:Int))
noncomputable def nearW (q t:Str):Str:=if q = "" then t else (q ++ ".") ++ t
theorem abc_all:∀ c ∈ abc.cps.toList,97 ≤ c ∧ c ≤ 122:=by decide +kernel
theorem name_facts {s:Str} (h:nameOk s = true):1 ≤ s.length ∧ s.length ≤ 12 ∧ ∀ c ∈ cps s,97 ≤ c ∧ c ≤ 122:=by
  unfold nameOk fits at h
  rw [Bool.and_eq_true,Bool.and_eq_true,Bool.and_eq_true] at h
  obtain ⟨⟨⟨h1,h2⟩,_⟩,h3⟩:=h
  refine ⟨of_decide_eq_true h1,of_decide_eq_true h2,fun c hc => ?_⟩
  unfold allL at h3
  rw [List.all_eq_true] at h3
  have h4:inL c = true:=h3 (inL c) (List.mem_map_of_mem hc)
  unfold inL at h4
  rw [StrLaws.found_one] at h4
  exact abc_all c (of_decide_eq_true h4)
theorem near_cps {q t:Str} (h:q ≠ ""):cps (nearW q t) = cps q ++ 46 :: cps t:=by
  unfold nearW
  rw [if_neg h,cps_app,cps_app]
  show (cps q ++ [46]) ++ cps t = _
  rw [List.append_assoc]
  rfl
theorem name_ne {s:Str} (h:nameOk s = true):s ≠ "":=fun e => by
  have:=(name_facts h).1
  rw [e] at this
  exact absurd this (by decide +kernel)
theorem near_word {q t:Str} (ht:nameOk t = true) (hq:q = "" ∨ nameOk q = true):Tk.Word (cps (nearW q t)) ∧ (nearW q t).length ≤ 25 ∧ ∀ c ∈ cps (nearW q t),c < 0x110000:=by
  obtain ⟨t1,t2,t3⟩:=name_facts ht
  by_cases h:q = ""
  · have e:nearW q t = t:=if_pos h
    rw [e]
    refine ⟨⟨fun z => ?_,fun c hc => ?_⟩,by omega,fun c hc => ?_⟩
    · have:=cps_len t
      rw [z] at this
      have h0:([]:List Nat).length = 0:=rfl
      omega
    · have:=t3 c hc
      omega
    · have:=t3 c hc
      omega
  · obtain ⟨q1,q2,q3⟩:=name_facts (hq.resolve_left h)
    have e:=near_cps (t:=t) h
    have all:∀ c ∈ cps (nearW q t),46 ≤ c ∧ c ≤ 122:=fun c hc => by
      rw [e] at hc
      rcases List.mem_append.mp hc with z | z
      · have:=q3 c z
        omega
      · rcases List.mem_cons.mp z with rfl | z
        · omega
        · have:=t3 c z
          omega
    refine ⟨⟨fun z => ?_,fun c hc => ?_⟩,?_,fun c hc => ?_⟩
    · rw [e] at z
      exact absurd z (by simp)
    · have:=all c hc
      omega
    · have:=congrArg List.length e
      rw [cps_len,List.length_append,List.length_cons,cps_len,cps_len] at this
      omega
    · have:=all c hc
      omega
theorem num_tx {n:Nat} (h:n ≤ 1000000000000000000):NumTx (cps (numS n)) ∧ numOf (cps (numS n)) = n ∧ (numS n).length ≤ 19:=by
  have e:cps (numS n) = figs n:=figs_of n
  refine ⟨?_,?_,?_⟩
  · rw [e]
    exact figs_num (Nat.lt_of_le_of_lt h (by decide))
  · rw [e,numOf_figs]
  · exact PyProof.Rows.toString_length_le (by omega) (k:=19) (by decide) (by omega)
theorem figT_all {c:Nat} (h:48 ≤ c ∧ c ≤ 57):inF c = true:=by
  unfold inF
  rw [StrLaws.found_one]
  have:c = 48 ∨ c = 49 ∨ c = 50 ∨ c = 51 ∨ c = 52 ∨ c = 53 ∨ c = 54 ∨ c = 55 ∨ c = 56 ∨ c = 57:=by omega
  rcases this with rfl | rfl | rfl | rfl | rfl | rfl | rfl | rfl | rfl | rfl <;> decide +kernel
theorem num_is {n:Nat} (h1:1 ≤ n) (h:n ≤ 1000000000000000000):numOk (numS n) = true:=by
  obtain ⟨a,_,l⟩:=num_tx h
  obtain ⟨ha,_⟩:=a.all
  obtain ⟨c0,r,e,h0,hr⟩:=figs_head n h1
  have ec:cps (numS n) = c0 :: r:=(figs_of n).trans e
  have l1:1 ≤ (numS n).length:=by
    rw [← cps_len,ec,List.length_cons]
    omega
  have al:allF (numS n) = true:=by
    unfold allF
    rw [List.all_eq_true]
    intro x hx
    obtain ⟨c,hc,rfl⟩:=List.mem_map.mp hx
    exact figT_all (ha c hc)
  rw [num_ok l1 l al]
  have eh:(numS n).cps.toList.head? = some c0:=by
    show (cps (numS n)).head? = _
    rw [ec]
    rfl
  rw [eh]
  have f0:first0 c0 = false:=by
    unfold first0
    refine decide_eq_false fun z => ?_
    have z':(⟨#[c0]⟩:Str) = zero:=V.str.inj z
    have z2:=congrArg cps z'
    have z3:[c0] = [48]:=z2
    have:=(List.cons.inj z3).1
    omega
  show (decide _ || !(first0 c0)) = true
  rw [f0]
  simp
theorem num_word {n:Nat} (h:n ≤ 1000000000000000000):Tk.Word (cps (numS n)) ∧ ∀ c ∈ cps (numS n),c < 0x110000:=by
  obtain ⟨a,_,l⟩:=num_tx h
  obtain ⟨ha,_⟩:=a.all
  refine ⟨⟨fun z => ?_,fun c hc => ?_⟩,fun c hc => ?_⟩
  · rcases a with e | ⟨_,_,e,_⟩ <;> rw [z] at e <;> cases e
  · have:=ha c hc
    omega
  · have:=ha c hc
    omega
noncomputable def TokC (p:List Nat):Prop:=p.length ≤ 25 ∧ Pc p ∧ ∀ c ∈ p,c < 0x110000
theorem tokc_word {p:List Nat} (h:Tk.Word p) (l:p.length ≤ 25) (c:∀ c ∈ p,c < 0x110000):TokC p:=⟨l,.inr (.inr h),c⟩
theorem tokc_op:TokC [40]:=⟨by decide,.inl rfl,by decide⟩
theorem tokc_cl:TokC [41]:=⟨by decide,.inr (.inl rfl),by decide⟩
mutual
theorem hgt_in:∀ {t:Tr},t.ok → ∀ {h:Nat} {r:List (List Nat)},h + t.dep ≤ 30 → hgt h (t.flat ++ r) = hgt h r
  | .w s,hw,h,r,hl => by
    obtain ⟨n1,n2⟩:=word_ne (s:=s) hw
    show hgt h (cps s :: r) = _
    rw [hgt,if_neg n1,if_neg n2]
  | .n ts,ho,h,r,hl => by
    have hl':h + (1 + deps ts) ≤ 30:=hl
    show hgt h ([40] :: ((flats ts ++ [[41]]) ++ r)) = _
    rw [hgt,if_pos rfl,if_neg (by omega),List.append_assoc,hgt_ins (ts:=ts) ho (by omega)]
    show hgt (h + 1) ([41] :: r) = _
    rw [hgt,if_neg (by decide),if_pos rfl,if_neg (by omega)]
    rfl
theorem hgt_ins:∀ {ts:List Tr},oks ts → ∀ {h:Nat} {r:List (List Nat)},h + deps ts ≤ 30 → hgt h (flats ts ++ r) = hgt h r
  | [],_,h,r,hl => rfl
  | t :: ts,⟨h1,h2⟩,h,r,hl => by
    have hl':h + max t.dep (deps ts) ≤ 30:=hl
    show hgt h ((t.flat ++ flats ts) ++ r) = _
    rw [List.append_assoc,hgt_in h1 (by omega),hgt_ins h2 (by omega)]
end
noncomputable def spBracket (K:PySem.W.Frag):Sp:=fun vs H Q _ => ∃ (p:Addr) (xs:List V) (m:Int) (v:V),vs = [.ref p,.int m,v] ∧ H p = some (.tup xs) ∧ m ≤ xs.length ∧ (v = .non ∨ ∃ j:Int,v = .int j ∧ xs.length ≤ j) ∧ Q (.ref p) H
noncomputable def spAhead:Sp:=fun vs H Q _ => ∃ (p:Addr) (z:Str) (xs:List V),vs = [.ref p] ∧ H p = some (.tup (.str z :: xs)) ∧ Q (.str z) H
noncomputable def spSizeOf:Sp:=fun vs H Q _ => ∃ n:Nat,vs = [.str (numS n)] ∧ (1 ≤ n ∧ n ≤ 1000000000000000000) ∧ ∀ H',Same H H' → Q (.int n) H'
noncomputable def spNearFar:Sp:=fun vs H Q _ => ∃ q t:Str,vs = [.str (nearW q t)] ∧ (nameOk t = true ∧ (q = "" ∨ nameOk q = true)) ∧ ∀ H' (p:Addr),Same H H' → H' p = some (.tup [.str q,.str t]) → Q (.ref p) H'
theorem kit_st (K:PySem.W.Frag):PySem.W.kitOne K (.type "str") (.type "tuple") = some false:=rfl
theorem far_split {q t:Str} (hq:nameOk q = true) (ht:nameOk t = true):Txt.split (nearW q t) "." = [q,t]:=by
  have e:(Txt.split (nearW q t) ⟨#[46]⟩).map Tk.lst = [cps q,cps t]:=by
    rw [Tk.split_lst]
    show Tk.spl 46 (cps (nearW q t)) = _
    rw [near_cps (name_ne hq),Tk.spl_app,Tk.spl_free (fun h => by have:=(name_facts hq).2.2 46 h; omega),Tk.spl_free (fun h => by have:=(name_facts ht).2.2 46 h; omega)]
    rfl
  have e2:∀ ws:List Str,ws.map Tk.lst = [cps q,cps t] → ws = [q,t]:=fun ws h => by
    match ws,h with
    | [],h => cases h
    | [a],h => simp at h
    | a :: b :: c :: r,h => simp at h
    | [a,b],h =>
      have h1:=List.cons.inj h
      have h2:=List.cons.inj h1.2
      rw [Tk.lst_inj h1.1,Tk.lst_inj h2.1]
  exact e2 _ e
theorem far_no {q t:Str} (hq:q ≠ ""):nameOk (nearW q t) = false:=by
  unfold nameOk
  rw [Bool.and_eq_false_iff]
  refine .inr ?_
  unfold allL
  rw [Bool.eq_false_iff]
  intro h
  rw [List.all_eq_true] at h
  have h4:inL 46 = true:=h (inL 46) (List.mem_map_of_mem (by show 46 ∈ cps _; rw [near_cps hq]; exact List.mem_append_right _ (.head _)))
  unfold inL at h4
  rw [StrLaws.found_one] at h4
  exact absurd (abc_all 46 (of_decide_eq_true h4)).1 (by decide)
theorem lines_wt:∀ ts:List Tr,(lines ts).length ≤ ((flats ts).map List.length).sum + wts ts
  | [] => Nat.zero_le _
  | [t] => by
    have h1:=text_wt t
    show t.text.length ≤ ((t.flat ++ []).map List.length).sum + (t.wt + 1 + 0)
    rw [List.append_nil]
    omega
  | t :: u :: r => by
    have h1:=text_wt t
    have h2:=lines_wt (u :: r)
    show (t.text ++ 10 :: lines (u :: r)).length ≤ ((t.flat ++ flats (u :: r)).map List.length).sum + (t.wt + 1 + wts (u :: r))
    rw [List.length_append,List.length_cons,List.map_append,List.sum_append]
    omega
theorem flats_mem:∀ {ts:List Tr} {t:Tr},t ∈ ts → t.flat.length ≤ (flats ts).length ∧ (t.flat.map List.length).sum ≤ ((flats ts).map List.length).sum
  | u :: r,t,h => by
    show _ ≤ (u.flat ++ flats r).length ∧ _ ≤ ((u.flat ++ flats r).map List.length).sum
    rw [List.length_append,List.map_append,List.sum_append]
    rcases List.mem_cons.mp h with rfl | z
    · omega
    · have:=flats_mem z
      omega
theorem text_fits {ts:List Tr} (f1:(flats ts).length ≤ 1900) (f2:((flats ts).map List.length).sum ≤ 60000):ts.length ≤ 9000 ∧ (∀ t ∈ ts,t.wt ≤ 9000 ∧ t.text.length ≤ 100000) ∧ (lines ts).length ≤ 100000:=by
  have f3:=wts_flat ts
  refine ⟨by have:=len_wts ts; omega,fun t ht => ?_,by have:=lines_wt ts; omega⟩
  obtain ⟨g1,g2⟩:=flats_mem ht
  have g3:=wt_flat t
  have g4:=text_wt t
  exact ⟨by omega,by omega⟩
theorem sum_le:∀ {ps:List (List Nat)},(∀ p ∈ ps,p.length ≤ 25) → (ps.map List.length).sum ≤ 25 * ps.length
  | [],_ => Nat.le_refl _
  | p :: r,h => by
    have h1:=sum_le (ps:=r) fun q hq => h q (List.mem_cons_of_mem _ hq)
    have h2:=h p List.mem_cons_self
    rw [List.map_cons,List.sum_cons,List.length_cons]
    omega
noncomputable def spNearFarW:Sp:=fun vs H Q _ => ∃ q t:Str,vs = [.str q,.str t] ∧ q.length ≤ 1000 ∧ t.length ≤ 1000 ∧ Q (.str (nearW q t)) H
theorem allL_of {w:Str} (h:∀ c ∈ w.cps.toList,inL c = true):allL w = true:=by
  unfold allL
  rw [List.all_eq_true]
  intro b hb
  obtain ⟨c,hc,rfl⟩:=List.mem_map.mp hb
  exact h c hc
theorem name_ok {w:Str} (h1:1 ≤ w.length) (h2:w.length ≤ 12) (h:allL w = true):nameOk w = !inV (.str w) takenV:=by
  unfold nameOk fits
  rw [decide_eq_true h1,decide_eq_true h2,h,Bool.and_true] <;> rfl
theorem taken_x:∀ z ∈ takenS,nameOk (z ++ "x") = true:=by decide +kernel
theorem taken_in {z:Str} (h:inV (.str z) takenV = true):z ∈ takenS:=by
  unfold inV takenV at h
  rw [List.any_eq_true] at h
  obtain ⟨y,hy,e⟩:=h
  obtain ⟨s,hs,rfl⟩:=List.mem_map.mp hy
  have e':s = z:=by simpa [eqV] using e
  rw [← e']
  exact hs
theorem abc_in:∀ c ∈ abc.cps.toList,inL c = true:=by decide +kernel
theorem abc_len:((abc.cps.toList.length:Nat):Int) = 26:=by decide +kernel
noncomputable def spNameL:Sp:=fun vs H Q _ => ∃ c:Int,vs = [.int c] ∧ ∀ H' (z:Str),Same H H' → nameOk z = true → Q (.str z) H'
noncomputable def spSizeL:Sp:=fun vs H Q _ => ∃ c:Int,vs = [.int c] ∧ ∀ n:Nat,1 ≤ n → n ≤ 1000000000000000000 → Q (.int n) H
noncomputable def spTokens (K:PySem.W.Frag) (n:Nat):Sp:=fun vs H Q _ => ∃ (x:V) (t:Tr),vs = [x] ∧ TrAt K H x t ∧ t.dep < n ∧ t.flat.length ≤ 1900 ∧ ∀ H' (l:Addr) (ws:List Str),Same H H' → H l = none → H' l = some (.lst (ws.map V.str)) → ws.map cps = t.flat → Q (.ref l) H'
theorem flats_take:∀ {ts:List Tr} {i:Nat} {t:Tr},ts[i]? = some t → flats (ts.take (i + 1)) = flats (ts.take i) ++ t.flat:=fun {ts i t} h => by
  rw [List.take_add_one,h,flats_app]
  show _ ++ flats [t] = _
  rw [flats_one]
theorem flats_split (ts:List Tr) (i:Nat):(flats (ts.take i)).length ≤ (flats ts).length:=by
  have e:flats ts = flats (ts.take i) ++ flats (ts.drop i):=by rw [← flats_app,List.take_append_drop]
  rw [e,List.length_append]
  omega
noncomputable def w1:Bool → List (List Nat) → List Nat
  | _,[] => []
  | b,p :: r => (if b = true ∨ p = [41] then [] else [32]) ++ p ++ w1 (decide (p = [40])) r
mutual
theorem w1_tree:∀ {t:Tr},t.ok → ∀ (b:Bool) (r:List (List Nat)),w1 b (t.flat ++ r) = (if b = true then [] else [32]) ++ (t.text ++ w1 false r)
  | .w s,hw,b,r => by
    obtain ⟨n1,n2⟩:=word_ne (s:=s) hw
    show w1 b (cps s :: r) = _ ++ (cps s ++ _)
    rw [w1,decide_eq_false n1,List.append_assoc]
    cases b
    · rw [if_neg (show ¬ (false = true ∨ cps s = [41]) by simp [n2]),if_neg (show ¬ (false = true) by decide)]
    · rw [if_pos (.inl rfl),if_pos rfl]
  | .n ts,ho,b,r => by
    show w1 b ([40] :: ((flats ts ++ [[41]]) ++ r)) = _ ++ ((40 :: (inner ts ++ [41])) ++ _)
    rw [w1,List.append_assoc (flats ts),show decide (([40]:List Nat) = [40]) = true from rfl,w1_inner (ts:=ts) ho]
    have e:∀ b',w1 b' ([[41]] ++ r) = 41 :: w1 false r:=fun b' => by
      show w1 b' ([41] :: r) = _
      rw [w1,if_pos (.inr rfl)]
      rfl
    rw [e]
    cases b
    · rw [if_neg (show ¬ (false = true ∨ ([40]:List Nat) = [41]) by decide),if_neg (show ¬ (false = true) by decide)]
      simp
    · rw [if_pos (.inl rfl),if_pos rfl]
      simp
theorem w1_inner:∀ {ts:List Tr},oks ts → ∀ (r:List (List Nat)),w1 true (flats ts ++ r) = inner ts ++ w1 ts.isEmpty r
  | [],_,r => rfl
  | t :: ts,⟨h1,h2⟩,r => by
    show w1 true ((t.flat ++ flats ts) ++ r) = (t.text ++ tails ts) ++ w1 false r
    rw [List.append_assoc,w1_tree h1,w1_tails h2,if_pos rfl]
    simp
theorem w1_tails:∀ {ts:List Tr},oks ts → ∀ (r:List (List Nat)),w1 false (flats ts ++ r) = tails ts ++ w1 false r
  | [],_,r => rfl
  | t :: ts,⟨h1,h2⟩,r => by
    show w1 false ((t.flat ++ flats ts) ++ r) = (32 :: (t.text ++ tails ts)) ++ w1 false r
    rw [List.append_assoc,w1_tree h1,w1_tails h2,if_neg (by decide)]
    simp
end
theorem w1_text {t:Tr} (h:t.ok):w1 true t.flat = t.text:=by
  have:=w1_tree h true []
  rw [List.append_nil,if_pos rfl] at this
  rw [this]
  show [] ++ (t.text ++ []) = _
  simp
noncomputable def bAt (ps:List (List Nat)):Nat → Bool
  | 0 => true
  | j + 1 => decide (ps[j]? = some [40])
noncomputable def spWritten (K:PySem.W.Frag):Sp:=fun vs H Q _ => ∃ (p:Addr) (ws:List Str) (t:Tr),vs = [.ref p] ∧ SqL K H p (ws.map V.str) ∧ ws.map cps = t.flat ∧ t.ok ∧ ws.length ≤ 1900 ∧ t.text.length ≤ 100000 ∧ ∀ z:Str,cps z = t.text → Q (.str z) H
theorem num_is0 {n:Nat} (h:n ≤ 1000000000000000000):numOk (numS n) = true:=by
  by_cases z:n = 0
  · rw [z]
    decide +kernel
  · exact num_is (by omega) h
noncomputable def spNumberOf:Sp:=fun vs H Q _ => ∃ (n:Nat) (lo hi:Int),vs = [.str (numS n),.int lo,.int hi] ∧ (lo ≤ n ∧ (n:Int) ≤ hi ∧ n ≤ 1000000000000000000) ∧ ∀ H',Same H H' → Q (.int n) H'
noncomputable def spNameOf:Sp:=fun vs H Q _ => ∃ z:Str,vs = [.str z] ∧ nameOk z = true ∧ ∀ H',Same H H' → Q (.str z) H'
section
variable {P:Program} {w:World} {K:PySem.W.Frag} {mg:Str → Option Value} {base:Heap}
theorem scBracket:FnScope ["tree","least","most"] ["tree","least","most"] (defScope sBracket):=⟨rfl,rfl,rfl,by decide +kernel,rfl,by decide +kernel,by decide +kernel⟩
theorem ok_bracket {f:Addr} {fd:FuncData} (F:Fun K "bracket" "bracket" sBracket f fd) (ml:mg "len" = none) (mi:mg "isinstance" = none) (mt:mg "tuple" = none):FnOk P w K mg base CX0 1 f fd ["tree","least","most"] (spBracket K):=by
  refine F.ok scBracket (fun vs H Q E h => ?_) (fun cdv A outer s H vs Q E hr h => ?_)
  · obtain ⟨p,xs,m,v,rfl,_⟩:=h
    rfl
  obtain ⟨p,xs,m,v,rfl,hp,hm,hv,q⟩:=h
  refine ⟨_,pss_cons (ps_if (pt_not (pt_val (pe_callB call_isi rfl mi bootIsi (pa_cons (pv 0) (pa_cons (pe_bltn rfl mt bootTuple (v:=.ty "tuple") rfl) pa_nil))))) pss_no pss_nil)
    (pss_cons (ps_if (PW.pt (pw_or (pt_cmpR op_lt (pe_callB call_len_seq rfl ml PySem.boot_len (pa_cons (pv 0) pa_nil)) (pv 1) (nomark _)) (pw_or1 (PW.pt (pw_and (pt_cmpR op_notN (pv 2) pe_non (nomark _)) (pw_and1 (pt_cmpR op_gt (pe_callB call_len_seq rfl ml PySem.boot_len (pa_cons (pv 0) pa_nil)) (pv 2) (nomark _)))))))) pss_no pss_nil)
    (pss_one (ps_ret (pv 0)))),?_⟩
  refine ⟨_,rfl,.ref p,"tuple",_,true,rfl,.tup hp,kit_tt K,true,rfl,iteF ?_⟩
  refine ⟨_,rfl,p,_,rfl,.inr (SqT.of hp),_,rfl,_,_,rfl,rfl,_,rfl,ite2 (fun c => ?_) (fun _ => ?_)⟩
  · have:=of_decide_eq_true c
    omega
  rcases hv with rfl | ⟨j,rfl,hj⟩
  · exact ⟨_,rfl,rfl,_,rfl,iteF (iteF ⟨_,rfl,q⟩)⟩
  · refine ⟨_,rfl,rfl,_,rfl,iteT ⟨_,rfl,p,_,rfl,.inr (SqT.of hp),_,rfl,_,_,rfl,rfl,_,rfl,ite2 (fun c => ?_) (fun _ => ⟨_,rfl,q⟩)⟩⟩
    have:=of_decide_eq_true c
    omega
theorem scAhead:FnScope ["tree","ahead"] ["tree"] (defScope sAhead):=⟨rfl,rfl,rfl,by decide +kernel,rfl,by decide +kernel,by decide +kernel⟩
theorem ok_ahead {f fb:Addr} {fd fdb:FuncData} (F:Fun K "word_ahead" "word_ahead" sAhead f fd)
    (GB:FnOk P w K mg base CX0 1 fb fdb ["tree","least","most"] (spBracket K)) (bB:Binds K fdb ["tree","least","most"] []) (kB:PySem.W.keepIn K (.ref fb) = true) (mB:mg "bracket" = some (.ref fb))
    (mi:mg "isinstance" = none) (ms:mg "str" = none):FnOk P w K mg base CX0 2 f fd ["tree"] spAhead:=by
  refine F.ok scAhead (fun vs H Q E h => ?_) (fun cdv A outer s H vs Q E hr h => ?_)
  · obtain ⟨p,z,xs,rfl,_⟩:=h
    rfl
  obtain ⟨p,z,xs,rfl,hp,q⟩:=h
  refine ⟨_,pss_cons (ps_set (i:=1) scAhead.nd rfl (Or.inl rfl) (pe_ix ix_tup (pe_call GB hr rfl mB kB bB .nil pass0 (pa_cons (pv 0) (pa_cons pe_int (pa_cons pe_non pa_nil)))) pe_int (fun _ _ => rfl)))
    (pss_cons (ps_if (pt_not (pt_val (pe_callB call_isi rfl mi bootIsi (pa_cons (pv 1) (pa_cons (pe_bltn rfl ms bootStr (v:=.ty "str") rfl) pa_nil))))) pss_no pss_nil)
    (pss_one (ps_ret (pv 1)))),?_⟩
  refine ⟨_,rfl,p,_,1,.non,rfl,hp,by rw [List.length_cons]; omega,.inl rfl,p,_,_,.str z,rfl,rfl,SqT.of hp,?_,?_⟩
  · have:atI (V.str z :: xs) ((0:Nat):Int) = some (.str z):=atI_nat rfl
    exact this
  · exact ⟨_,rfl,.str z,"str",_,true,rfl,.str z,kit_ss K,true,rfl,iteF ⟨_,rfl,q⟩⟩
theorem scNumberOf:FnScope ["tree","least","most","number"] ["tree","least","most"] (defScope sNumberOf):=⟨rfl,rfl,rfl,by decide +kernel,rfl,by decide +kernel,by decide +kernel⟩
theorem ok_numberOf {f fn:Addr} {fd fdn:FuncData} (F:Fun K "number_of_tree" "number_of_tree" sNumberOf f fd)
    (GN:FnOk P w K mg base CX0 1 fn fdn ["word"] spNum) (bN:Binds K fdn ["word"] []) (kN:PySem.W.keepIn K (.ref fn) = true) (mN:mg "is_number" = some (.ref fn))
    (mi:mg "isinstance" = none) (ms:mg "str" = none) (mI:mg "int" = none):FnOk P w K mg base CX0 2 f fd ["tree","least","most"] spNumberOf:=by
  refine F.ok scNumberOf (fun vs H Q E h => ?_) (fun cdv A outer s H vs Q E hr h => ?_)
  · obtain ⟨n,lo,hi,rfl,_⟩:=h
    rfl
  obtain ⟨n,lo,hi,rfl,⟨hn1,hn2,hn3⟩,q⟩:=h
  obtain ⟨x1,x2,x3⟩:=num_tx hn3
  refine ⟨_,pss_cons (ps_if (PW.pt (pw_or (pt_not (pt_val (pe_callB call_isi rfl mi bootIsi (pa_cons (pv 0) (pa_cons (pe_bltn rfl ms bootStr (v:=.ty "str") rfl) pa_nil))))) (pw_or1 (pt_not (pt_val (pe_call GN hr rfl mN kN bN .nil pass0 (pa_cons (pv 0) pa_nil))))))) pss_no pss_nil)
    (pss_cons (ps_set (i:=3) scNumberOf.nd rfl (Or.inl rfl) (pe_callTy call_intT rfl mI bootInt (pa_cons (pv 0) pa_nil)))
    (pss_cons (ps_if (PW.pt (pw_or (pt_cmpR op_lt (pv 3) (pv 1) (nomark _)) (pw_or1 (pt_cmpR op_gt (pv 3) (pv 2) (nomark _))))) pss_no pss_nil)
    (pss_one (ps_ret (pv 3))))),?_⟩
  refine ⟨_,rfl,.str (numS n),"str",_,true,rfl,.str _,kit_ss K,true,rfl,iteF ⟨_,rfl,numS n,rfl,by omega,fun H1 s1 => ?_⟩⟩
  rw [num_is0 hn3]
  refine ⟨true,rfl,iteF ⟨_,rfl,numS n,rfl,x1,?_⟩⟩
  show (_:Prop)
  have e:numOf (numS n).cps.toList = n:=x2
  rw [e]
  refine ⟨_,rfl,_,rfl,_,_,rfl,rfl,_,rfl,ite2 (fun c => ?_) (fun _ => ⟨_,rfl,_,rfl,_,_,rfl,rfl,_,rfl,ite2 (fun c => ?_) (fun _ => ⟨_,rfl,q _ s1⟩)⟩)⟩
  · have:=of_decide_eq_true c
    omega
  · have:=of_decide_eq_true c
    omega
theorem scSizeOf:FnScope ["tree"] ["tree"] (defScope sSizeOf):=⟨rfl,rfl,rfl,by decide +kernel,rfl,by decide +kernel,by decide +kernel⟩
theorem ok_sizeOf {f fn:Addr} {fd fdn:FuncData} {tG:Tok} (F:Fun K "size_of_tree" "size_of_tree" sSizeOf f fd)
    (GN:FnOk P w K mg base CX0 2 fn fdn ["tree","least","most"] spNumberOf) (bN:Binds K fdn ["tree","least","most"] []) (kN:PySem.W.keepIn K (.ref fn) = true) (mN:mg "number_of_tree" = some (.ref fn))
    (mG:mg "GREATEST" = some (.int 1000000000000000000 tG)):FnOk P w K mg base CX0 3 f fd ["tree"] spSizeOf:=by
  refine F.ok scSizeOf (fun vs H Q E h => ?_) (fun cdv A outer s H vs Q E hr h => ?_)
  · obtain ⟨n,rfl,_⟩:=h
    rfl
  obtain ⟨n,rfl,hn,q⟩:=h
  exact ⟨_,pss_one (ps_ret (pe_call GN hr rfl mN kN bN .nil pass0 (pa_cons (pv 0) (pa_cons pe_int (pa_cons (pe_glob rfl mG (v:=.int 1000000000000000000) ⟨tG,rfl⟩) pa_nil))))),_,rfl,n,1,1000000000000000000,rfl,⟨by omega,by omega,hn.2⟩,q⟩
theorem scNearFar:FnScope ["word","names"] ["word"] (defScope sNearFar):=⟨rfl,rfl,rfl,by decide +kernel,rfl,by decide +kernel,by decide +kernel⟩
theorem ok_nearFar {f fn:Addr} {fd fdn:FuncData} (F:Fun K "near_or_far" "near_or_far" sNearFar f fd)
    (GN:FnOk P w K mg base CX0 1 fn fdn ["word"] spName) (bN:Binds K fdn ["word"] []) (kN:PySem.W.keepIn K (.ref fn) = true) (mN:mg "is_name" = some (.ref fn)) (ml:mg "len" = none):FnOk P w K mg base CX0 2 f fd ["word"] spNearFar:=by
  refine F.ok scNearFar (fun vs H Q E h => ?_) (fun cdv A outer s H vs Q E hr h => ?_)
  · obtain ⟨a,t,rfl,_⟩:=h
    rfl
  obtain ⟨a,t,rfl,⟨ht,ha⟩,q⟩:=h
  obtain ⟨w1,w2,w3⟩:=near_word ht ha
  refine ⟨_,pss_cons (ps_if (pt_val (pe_call GN hr rfl mN kN bN .nil pass0 (pa_cons (pv 0) pa_nil))) (pss_one (ps_ret (pe_tup (pa_cons pe_str (pa_cons (pv 0) pa_nil))))) pss_nil)
    (pss_cons (ps_set (i:=1) scNearFar.nd rfl (Or.inl rfl) (pe_bm PySem.F.plainAttrs_str PySem.F.slot_str_split PySem.F.type_str_split mt_split (pv 0) (pa_cons pe_str pa_nil)))
    (pss_cons (ps_if (PW.pt (pw_or (pt_cmpR op_ne (pe_callB call_len_seq rfl ml PySem.boot_len (pa_cons (pv 1) pa_nil)) pe_int (nomark _)) (pw_or (pt_not (pt_val (pe_call GN hr rfl mN kN bN .nil pass0 (pa_cons (pe_ix ix_list (pv 1) pe_int (fun _ _ => rfl)) pa_nil)))) (pw_or1 (pt_not (pt_val (pe_call GN hr rfl mN kN bN .nil pass0 (pa_cons (pe_ix ix_list (pv 1) pe_int (fun _ _ => rfl)) pa_nil)))))))) pss_no pss_nil)
    (pss_one (ps_ret (pe_tup (pa_cons (pe_ix ix_list (pv 1) pe_int (fun _ _ => rfl)) (pa_cons (pe_ix ix_list (pv 1) pe_int (fun _ _ => rfl)) pa_nil))))))),?_⟩
  refine ⟨_,rfl,nearW a t,rfl,by omega,fun H1 s1 => ?_⟩
  by_cases h:a = ""
  · subst h
    have e:nearW "" t = t:=if_pos rfl
    rw [e,ht]
    refine ⟨true,rfl,iteT ⟨_,rfl,(by show 2 ≤ sizeLine; decide),fun p hp => ?_⟩⟩
    exact q _ p (s1.trans (same_new hp _)) upd_same
  · have hq:=ha.resolve_left h
    rw [far_no h]
    refine ⟨false,rfl,iteF ⟨_,rfl,rfl,nearW a t,".",rfl,rfl,by decide +kernel,by omega,by rw [far_split hq ht]; show 2 ≤ 1000000; decide,fun l hl => ?_⟩⟩
    show (_:Prop)
    rw [far_split hq ht]
    have s2:=same_new hl (.lst [.str a,.str t])
    obtain ⟨_,a2,_⟩:=name_facts hq
    obtain ⟨_,t2,_⟩:=name_facts ht
    refine ⟨_,rfl,l,_,rfl,.inl (SqL.of upd_same),rfl,_,rfl,ite2 (fun c => ?_) (fun _ => ?_)⟩
    · have c':(!decide (V.int (2:Int) = V.int 2)) = true:=c
      exact absurd c' (by decide)
    refine ⟨_,rfl,l,_,_,.str a,rfl,rfl,SqL.of upd_same,rfl,a,rfl,by omega,fun H3 s3 => ?_⟩
    rw [hq]
    refine ⟨true,rfl,iteF ⟨_,rfl,l,_,_,.str t,rfl,rfl,SqL.of (s3 _ _ upd_same),rfl,t,rfl,by omega,fun H4 s4 => ?_⟩⟩
    rw [ht]
    have hl4:=s4 _ _ (s3 _ _ upd_same)
    refine ⟨true,rfl,iteF ⟨_,rfl,l,_,_,.str a,rfl,rfl,SqL.of hl4,rfl,_,rfl,l,_,_,.str t,rfl,rfl,SqL.of hl4,rfl,(by show 2 ≤ sizeLine; decide),fun p hp => ?_⟩⟩
    exact q _ p (s1.trans (s2.trans (s3.trans (s4.trans (same_new hp _))))) upd_same
theorem scNameOf:FnScope ["tree"] ["tree"] (defScope sNameOf):=⟨rfl,rfl,rfl,by decide +kernel,rfl,by decide +kernel,by decide +kernel⟩
theorem ok_nameOf {f fn:Addr} {fd fdn:FuncData} (F:Fun K "name_of_tree" "name_of_tree" sNameOf f fd)
    (GN:FnOk P w K mg base CX0 1 fn fdn ["word"] spName) (bN:Binds K fdn ["word"] []) (kN:PySem.W.keepIn K (.ref fn) = true) (mN:mg "is_name" = some (.ref fn))
    (mi:mg "isinstance" = none) (ms:mg "str" = none):FnOk P w K mg base CX0 2 f fd ["tree"] spNameOf:=by
  refine F.ok scNameOf (fun vs H Q E h => ?_) (fun cdv A outer s H vs Q E hr h => ?_)
  · obtain ⟨z,rfl,_⟩:=h
    rfl
  obtain ⟨z,rfl,hz,q⟩:=h
  refine ⟨_,pss_cons (ps_if (PW.pt (pw_or (pt_not (pt_val (pe_callB call_isi rfl mi bootIsi (pa_cons (pv 0) (pa_cons (pe_bltn rfl ms bootStr (v:=.ty "str") rfl) pa_nil))))) (pw_or1 (pt_not (pt_val (pe_call GN hr rfl mN kN bN .nil pass0 (pa_cons (pv 0) pa_nil))))))) pss_no pss_nil)
    (pss_one (ps_ret (pv 0))),?_⟩
  have zl:=(name_facts hz).2.1
  refine ⟨_,rfl,.str z,"str",_,true,rfl,.str _,kit_ss K,true,rfl,iteF ⟨_,rfl,z,rfl,by omega,fun H1 s1 => ?_⟩⟩
  rw [hz]
  exact ⟨true,rfl,iteF ⟨_,rfl,q _ s1⟩⟩
theorem scNearFarW:FnScope ["part","name"] ["part","name"] (defScope sNearFarW):=⟨rfl,rfl,rfl,by decide +kernel,rfl,by decide +kernel,by decide +kernel⟩
theorem ok_nearFarW {f:Addr} {fd:FuncData} (F:Fun K "near_or_far_word" "near_or_far_word" sNearFarW f fd):FnOk P w K mg base CX0 1 f fd ["part","name"] spNearFarW:=by
  refine F.ok scNearFarW (fun vs H Q E h => ?_) (fun cdv A outer s H vs Q E hr h => ?_)
  · obtain ⟨a,t,rfl,_⟩:=h
    rfl
  obtain ⟨a,t,rfl,la,lt,q⟩:=h
  refine ⟨_,pss_cons (ps_if (pt_cmpR op_eq (pv 0) pe_str (nomark _)) (pss_one (ps_ret (pv 1))) pss_nil) (pss_one (ps_ret (pe_fstrE (pje_cons (pe_fv (pv 0)) (pje_cons pe_str (pje_cons (pe_fv (pv 1)) pje_nil))) (by decide)))),?_⟩
  refine ⟨_,rfl,rfl,_,rfl,ite2 (fun c => ?_) (fun c => ?_)⟩
  · have e:a = "":=V.str.inj (of_decide_eq_true c)
    have e2:nearW a t = t:=if_pos e
    rw [e2] at q
    exact ⟨_,rfl,q⟩
  · have e:a ≠ "":=fun h => c (decide_eq_true (by rw [h]))
    refine ⟨_,rfl,.inl ⟨a,rfl,small la,a,rfl,by omega,_,rfl,by decide +kernel,_,rfl,.inl ⟨t,rfl,small lt,t,rfl,by omega,?_⟩⟩⟩
    have e2:((Str.empty ++ a) ++ Str.ofString ".") ++ t = nearW a t:=Tk.lst_inj (by
      show cps _ = cps _
      rw [near_cps e,cps_app,cps_app,cps_app]
      show (([] ++ cps a) ++ [46]) ++ cps t = _
      simp)
    show Q (.str (((Str.empty ++ a) ++ Str.ofString ".") ++ t)) H
    rw [e2]
    exact q
theorem scNameL:FnScope ["_law_cell_here","_law_number","_law_word","_law_k","_law_at"] ["_law_cell_here"] (defScope sNameL):=⟨rfl,rfl,rfl,by decide +kernel,rfl,by decide +kernel,by decide +kernel⟩
set_option maxHeartbeats 0 in
theorem ok_nameL {f:Addr} {fd:FuncData} (F:Fun K "_law_name" "_law_name" sNameL f fd) (mr:mg "range" = none):FnOk P w K mg base CX0 1 f fd ["_law_cell_here"] spNameL:=by
  refine F.ok scNameL (fun vs H Q E h => ?_) (fun cdv A outer s H vs Q E hr h => ?_)
  · obtain ⟨c,rfl,_⟩:=h
    rfl
  obtain ⟨c,rfl,q⟩:=h
  refine ⟨_,pss_cons (ps_set (i:=1) scNameL.nd rfl (Or.inl rfl) (pe_op op_mod (pv 0) pe_int))
    (pss_cons (ps_set (i:=2) scNameL.nd rfl (Or.inl rfl) pe_str)
    (pss_cons (ps_for PassesOwn.never rfl (pi_range1 rfl mr (pa_cons (pe_op op_add pe_int (pe_op op_mod (pv 1) pe_int)) pa_nil)) (pg_name (i:=3) scNameL.nd rfl (Or.inl rfl))
      (pss_cons (ps_set (i:=4) scNameL.nd rfl (Or.inl rfl) (pe_op op_add (pe_op op_fdiv (pv 1) (pe_op op_add (pv 3) pe_int)) (pe_op op_mul (pe_op op_mul pe_int (pv 3)) (pe_op op_fdiv (pv 1) pe_int))))
      (pss_one (ps_set (i:=2) scNameL.nd rfl (Or.inl rfl) (pe_op op_add_str (pv 2) (pe_ix ix_str pe_str (pe_op op_mod (pv 4) pe_int) (fun _ _ => rfl)))))))
    (pss_cons (ps_if (pt_cmpR op_in_seq (pv 2) (pe_tup (pa_cons pe_str (pa_cons pe_str (pa_cons pe_str (pa_cons pe_str (pa_cons pe_str (pa_cons pe_str (pa_cons pe_str (pa_cons pe_str (pa_cons pe_str pa_nil)))))))))) (by with_unfolding_all rfl)) (pss_one (ps_ret (pe_op op_add_str (pv 2) pe_str))) pss_nil)
    (pss_one (ps_ret (pv 2)))))),?_⟩
  refine ⟨_,rfl,_,_,rfl,rfl,(by show (0:Int) < 100003; decide),?_⟩
  have n0:0 ≤ c % 100003:=Int.emod_nonneg _ (by decide)
  have n1:c % 100003 < 100003:=Int.emod_lt_of_pos _ (by decide)
  have b0:0 ≤ c % 100003 % 12:=Int.emod_nonneg _ (by decide)
  have b1:c % 100003 % 12 < 12:=Int.emod_lt_of_pos _ (by decide)
  refine ⟨_,rfl,_,_,rfl,rfl,(by show (0:Int) < 12; decide),_,_,rfl,rfl,_,rfl,by omega,by omega,?_⟩
  refine for_range (lo:=0) (n:=(1 + c % 100003 % 12).toNat) (fun i σ H3 => ∃ (z:Str) (v3 v4:Option V),σ = [some (.int c),some (.int (c % 100003)),some (.str z),v3,v4] ∧ H3 = H ∧ z.length = i ∧ ∀ d ∈ cps z,d ∈ abc.cps.toList) ⟨"",none,none,rfl,rfl,by decide +kernel,by decide +kernel⟩ ?_ ?_
  · rintro i σ H3 hi ⟨z,v3,v4,rfl,rfl,hz,hd⟩
    refine ⟨_,rfl,_,rfl,_,_,rfl,rfl,_,_,rfl,rfl,⟨by omega,by omega⟩,_,rfl,_,_,rfl,rfl,.inl ⟨by decide,by decide⟩,_,rfl,_,_,rfl,rfl,⟨by decide,by decide⟩,_,_,rfl,rfl,.inr ⟨by omega,by omega⟩,_,_,rfl,rfl,?_⟩
    obtain ⟨d,ed⟩:=at_ex (xs:=abc.cps.toList) (i:=(c % 100003 / (0 + (i:Int) + 1) + 5 * (0 + (i:Int)) * (c % 100003 / 12)) % 26) (Int.emod_nonneg _ (by decide)) (by rw [abc_len]; exact Int.emod_lt_of_pos _ (by decide))
    have od:=mem_at ed
    refine ⟨_,rfl,_,rfl,_,_,rfl,rfl,(by show (0:Int) < 26; decide),abc,_,d,rfl,rfl,by decide +kernel,ed,z,⟨#[d]⟩,rfl,rfl,?_,?_⟩
    · have e1:Str.length ⟨#[d]⟩ = 1:=rfl
      rw [hz,e1]
      exact small (by omega)
    · refine ⟨z ++ ⟨#[d]⟩,_,_,rfl,rfl,?_,?_⟩
      · rw [len_app,hz]
        rfl
      · intro e he
        rw [cps_app] at he
        rcases List.mem_append.mp he with h | h
        · exact hd e h
        · rw [List.mem_singleton.mp (show e ∈ [d] from h)]
          exact od
  · rintro σ H3 ⟨z,v3,v4,rfl,rfl,hz,hd⟩
    have al:allL z = true:=allL_of fun c hc => abc_in c (hd c hc)
    have no:=name_ok (w:=z) (by omega) (by omega) al
    refine ⟨_,rfl,(by show 9 ≤ sizeLine; decide),fun p hp => ?_⟩
    have sp:=same_new hp (.tup takenV)
    refine ⟨p,takenV,rfl,.inr (SqT.of upd_same),rfl,flat_taken,_,rfl,ite2 (fun c => ?_) (fun c => ?_)⟩
    · have c':inV (.str z) takenV = true:=c
      have x1:(Str.ofString "x").length = 1:=by decide +kernel
      exact ⟨_,rfl,z,_,rfl,rfl,small (by rw [x1]; omega),q _ _ sp (taken_x z (taken_in c'))⟩
    · have c':¬ inV (.str z) takenV = true:=c
      rw [Bool.not_eq_true] at c'
      rw [c'] at no
      exact ⟨_,rfl,q _ _ sp no⟩
theorem scSizeL:FnScope ["_law_cell_here"] ["_law_cell_here"] (defScope sSizeL):=⟨rfl,rfl,rfl,by decide +kernel,rfl,by decide +kernel,by decide +kernel⟩
set_option maxHeartbeats 0 in
theorem ok_sizeL {f:Addr} {fd:FuncData} (F:Fun K "_law_size" "_law_size" sSizeL f fd):FnOk P w K mg base CX0 1 f fd ["_law_cell_here"] spSizeL:=by
  refine F.ok scSizeL (fun vs H Q E h => ?_) (fun cdv A outer s H vs Q E hr h => ?_)
  · obtain ⟨c,rfl,_⟩:=h
    rfl
  obtain ⟨c,rfl,q⟩:=h
  have go:∀ x:Int,1 ≤ x → x ≤ 1000000000000000000 → Q (.int x) H:=fun x h1 h2 => by
    have:=q x.toNat (by omega) (by omega)
    rw [Int.toNat_of_nonneg (by omega)] at this
    exact this
  refine ⟨_,pss_cons (ps_if (pt_cmpR op_eq (pe_op op_mod (pv 0) pe_int) pe_int (nomark _)) (pss_one (ps_ret (pe_op op_sub (pe_op op_pow pe_int pe_int) (pe_op op_mod (pe_op op_fdiv (pv 0) pe_int) pe_int)))) pss_nil)
    (pss_cons (ps_if (pt_cmpR op_eq (pe_op op_mod (pv 0) pe_int) pe_int (nomark _)) (pss_one (ps_ret (pe_op op_add pe_int (pe_op op_mod (pe_op op_fdiv (pv 0) pe_int) pe_int)))) pss_nil)
    (pss_one (ps_ret (pe_op op_add pe_int (pe_op op_mod (pe_op op_fdiv (pv 0) pe_int) (pe_op op_pow pe_int pe_int)))))),?_⟩
  have pw:(10:Int) ^ (18:Int).toNat = 1000000000000000000:=by decide
  refine ⟨_,rfl,_,_,rfl,rfl,(by show (0:Int) < 5; decide),rfl,_,rfl,ite2 (fun _ => ?_) (fun _ => ⟨_,rfl,_,_,rfl,rfl,(by show (0:Int) < 5; decide),rfl,_,rfl,ite2 (fun _ => ?_) (fun _ => ?_)⟩)⟩
  · refine ⟨_,_,rfl,rfl,⟨by decide,by decide,by decide⟩,_,rfl,_,_,rfl,rfl,⟨by decide,by decide⟩,_,_,rfl,rfl,(by show (0:Int) < 3; decide),_,_,rfl,rfl,?_⟩
    show Q (.int ((10:Int) ^ (18:Int).toNat - c / 5 % 3)) H
    rw [pw]
    exact go _ (by omega) (by omega)
  · refine ⟨_,rfl,_,_,rfl,rfl,⟨by decide,by decide⟩,_,_,rfl,rfl,(by show (0:Int) < 3; decide),_,_,rfl,rfl,go (1 + c / 5 % 3) (by omega) (by omega)⟩
  · refine ⟨_,rfl,_,_,rfl,rfl,⟨by decide,by decide⟩,_,_,rfl,rfl,⟨by decide,by decide,by decide⟩,_,_,rfl,rfl,(by show (0:Int) < (10:Int) ^ (18:Int).toNat; rw [pw]; decide),_,_,rfl,rfl,?_⟩
    show Q (.int (1 + c / 5 % (10:Int) ^ (18:Int).toNat)) H
    rw [pw]
    exact go _ (by omega) (by omega)
theorem scTokens:FnScope ["_law_tree","_law_found","_law_one"] ["_law_tree"] (defScope sTokens):=⟨rfl,rfl,rfl,by decide +kernel,rfl,by decide +kernel,by decide +kernel⟩
set_option maxHeartbeats 0 in
theorem ok_tokens {f:Addr} {fd:FuncData} (F:Fun K "_law_tokens" "_law_tokens" sTokens f fd) (bF:Binds K fd ["_law_tree"] []) (kF:PySem.W.keepIn K (.ref f) = true) (mF:mg "_law_tokens" = some (.ref f)) (mi:mg "isinstance" = none) (ms:mg "str" = none):∀ n,FnOk P w K mg base CX0 n f fd ["_law_tree"] (spTokens K n)
  | 0 => ⟨fun vs H Q E h => by obtain ⟨x,t,rfl,_⟩:=h; rfl,fun A outer s H args us vs Q E _ _ _ _ h => by
      obtain ⟨x,t,_,_,hd,_⟩:=h
      omega⟩
  | n + 1 => by
    have IH:=ok_tokens F bF kF mF mi ms n
    refine F.ok scTokens (fun vs H Q E h => ?_) (fun cdv A outer s H vs Q E hr h => ?_)
    · obtain ⟨x,t,rfl,_⟩:=h
      rfl
    obtain ⟨x,t,rfl,hx,hd,hfl,q⟩:=h
    refine ⟨_,pss_cons (ps_if (pt_val (pe_callB call_isi rfl mi bootIsi (pa_cons (pv 0) (pa_cons (pe_bltn rfl ms bootStr (v:=.ty "str") rfl) pa_nil)))) (pss_one (ps_ret (pe_lst (pa_cons (pv 0) pa_nil)))) pss_nil)
      (pss_cons (ps_set (i:=1) scTokens.nd rfl (Or.inl rfl) (pe_lst (pa_cons pe_str pa_nil)))
      (pss_cons (ps_for PassesOwn.never rfl (pi_tup (pv 0)) (pg_name (i:=2) scTokens.nd rfl (Or.inl rfl)) (pss_one (ps_expr (pe_bm PySem.F.plainAttrs_list PySem.F.slot_list_extend PySem.F.type_list_extend mt_extend (pv 1) (pa_cons (pe_call IH hr rfl mF kF bF .nil pass0 (pa_cons (pv 2) pa_nil)) pa_nil)))))
      (pss_cons (ps_expr (pe_bm PySem.F.plainAttrs_list PySem.F.slot_list_append PySem.F.type_list_append mt_append (pv 1) (pa_cons pe_str pa_nil)))
      (pss_one (ps_ret (pv 1)))))),?_⟩
    cases hx with
    | w s0 =>
      refine ⟨_,rfl,.str s0,"str",_,true,rfl,.str s0,kit_ss K,true,rfl,iteT ⟨_,rfl,(by show 1 ≤ sizeLine; decide),fun l hl => ?_⟩⟩
      exact q _ l [s0] (same_new hl _) hl upd_same rfl
    | @n a xs ts ha hxs =>
      have hd':1 + deps ts < n + 1:=hd
      have h2:([40] :: (flats ts ++ [[41]])).length ≤ 1900:=hfl
      rw [List.length_cons,List.length_append] at h2
      refine ⟨_,rfl,.ref a,"str",_,false,rfl,.tup ha,kit_ts K,false,rfl,iteF ?_⟩
      refine ⟨(by show 1 ≤ sizeLine; decide),fun l hl0 => ?_⟩
      have s1:=same_new hl0 (.lst [V.str "("])
      refine ⟨_,rfl,a,rfl,⟨_,SqT.of (s1 _ _ ha)⟩,for_tup (K:=K) (xs:=xs) (fun i σ H3 => ∃ (ws:List Str) (v2:Option V),σ = [some (.ref a),some (.ref l),v2] ∧ Same H H3 ∧ H3 l = some (.lst (ws.map V.str)) ∧ ws.map cps = [40] :: flats (ts.take i)) ⟨["("],none,rfl,s1,upd_same,rfl⟩ ?_ ?_ ?_⟩
      · rintro i σ H3 _ ⟨ws,v2,rfl,s3,_⟩
        exact SqT.of (s3 _ _ ha)
      · rintro i y σ H3 hy ⟨ws,v2,rfl,s3,hl3,hw⟩
        obtain ⟨t1,ht1,hy1⟩:=hxs.get hy
        have hm:=List.mem_of_getElem? ht1
        have d1:=dep_mem hm
        have d2:=flat_len hm
        have d3:=flats_split ts i
        refine ⟨_,rfl,.inl ⟨rfl,_,SqL.of hl3⟩,_,rfl,y,t1,rfl,hy1.same s3,by omega,by omega,fun H4 l4 us s4 hn4 hl4 hu => ?_⟩
        have wl:=congrArg List.length hw
        have ul:=congrArg List.length hu
        rw [List.length_map,List.length_cons] at wl
        rw [List.length_map] at ul
        have hl34:=s4 _ _ hl3
        refine ⟨l,l4,_,_,rfl,rfl,hl34,hl4,Nat.le_of_lt (mid (by rw [List.length_map,List.length_map]; omega)),?_⟩
        refine ⟨ws ++ us,_,rfl,sput (s3.trans s4) hl0,by rw [upd_same,List.map_append],?_⟩
        rw [List.map_append,hw,hu,flats_take ht1]
        rfl
      · rintro σ H3 ⟨ws,v2,rfl,s3,hl3,hw⟩
        have lx:=hxs.length
        rw [lx,List.take_length] at hw
        have wl:=congrArg List.length hw
        rw [List.length_map,List.length_cons] at wl
        refine ⟨_,rfl,.inl ⟨rfl,_,SqL.of hl3⟩,l,_,_,rfl,rfl,hl3,mid (by rw [List.length_map]; omega),?_⟩
        refine ⟨_,rfl,q _ l (ws ++ [Str.ofString ")"]) (sput s3 hl0) hl0 (by rw [upd_same,List.map_append]; rfl) ?_⟩
        rw [List.map_append,hw]
        rfl
theorem scWritten:FnScope ["_law_tokens_here","_law_text","_law_k"] ["_law_tokens_here"] (defScope sWritten):=⟨rfl,rfl,rfl,by decide +kernel,rfl,by decide +kernel,by decide +kernel⟩
set_option maxHeartbeats 0 in
theorem ok_written {f:Addr} {fd:FuncData} (F:Fun K "_law_written" "_law_written" sWritten f fd) (ml:mg "len" = none) (mr:mg "range" = none):FnOk P w K mg base CX0 1 f fd ["_law_tokens_here"] (spWritten K):=by
  refine F.ok scWritten (fun vs H Q E h => ?_) (fun cdv A outer s H vs Q E hr h => ?_)
  · obtain ⟨p,ws,t,rfl,_⟩:=h
    rfl
  obtain ⟨p,ws,t,rfl,hp,hps,hok,hl,hll,q⟩:=h
  refine ⟨_,pss_cons (ps_set (i:=1) scWritten.nd rfl (Or.inl rfl) pe_str)
    (pss_cons (ps_for PassesOwn.never rfl (pi_range1 rfl mr (pa_cons (pe_callB call_len_seq rfl ml PySem.boot_len (pa_cons (pv 0) pa_nil)) pa_nil)) (pg_name (i:=2) scWritten.nd rfl (Or.inl rfl))
      (pss_cons (ps_if (PW.pt (pw_and (pt_cmpR op_gt (pv 2) pe_int (nomark _)) (pw_and (pt_cmpR op_ne (pe_ix ix_list (pv 0) (pe_op op_sub (pv 2) pe_int) (fun _ _ => rfl)) pe_str (nomark _)) (pw_and1 (pt_cmpR op_ne (pe_ix ix_list (pv 0) (pv 2) (fun _ _ => rfl)) pe_str (nomark _))))))
        (pss_one (ps_set (i:=1) scWritten.nd rfl (Or.inl rfl) (pe_op op_add_str (pv 1) pe_str))) pss_nil)
      (pss_one (ps_set (i:=1) scWritten.nd rfl (Or.inl rfl) (pe_op op_add_str (pv 1) (pe_ix ix_list (pv 0) (pv 2) (fun _ _ => rfl)))))))
    (pss_one (ps_ret (pv 1)))),?_⟩
  have wl:(ws.map V.str).length = ws.length:=List.length_map _
  have pl:t.flat.length = ws.length:=by rw [← hps,List.length_map]
  refine ⟨_,rfl,p,_,rfl,.inl hp,_,rfl,by omega,by omega,for_range (lo:=0) (n:=(((ws.map V.str).length:Nat):Int).toNat) (fun i σ H3 => ∃ (z:Str) (v3:Option V),σ = [some (.ref p),some (.str z),v3] ∧ H3 = H ∧ cps z ++ w1 (bAt t.flat i) (t.flat.drop i) = t.text)
    ⟨"",none,rfl,rfl,w1_text hok⟩ ?_ ?_⟩
  · rintro i σ H3 hi ⟨z,v3,rfl,rfl,hw⟩
    rw [Int.toNat_natCast,wl] at hi
    obtain ⟨p',hp'⟩:∃ p',ws[i]? = some p':=⟨_,List.getElem?_eq_getElem hi⟩
    have hpi:t.flat[i]? = some (cps p'):=by rw [← hps,List.getElem?_map,hp']; rfl
    have hdrop:t.flat.drop i = cps p' :: t.flat.drop (i + 1):=by
      obtain ⟨hl2,e⟩:=List.getElem?_eq_some_iff.mp hpi
      rw [List.drop_eq_getElem_cons hl2,e]
    rw [hdrop,w1] at hw
    have hat:atI (ws.map V.str) (0 + (i:Int)) = some (.str p'):=by
      rw [Int.zero_add]
      exact atI_nat (by rw [List.getElem?_map,hp']; rfl)
    have fin:∀ (z':Str),cps z' = cps z ++ (if bAt t.flat i = true ∨ cps p' = [41] then [] else [32]) → z'.length + p'.length ≤ sizeLine ∧ ∃ (z2:Str) (v3:Option V),([some (.ref p),some (.str (z' ++ p')),some (.int (0 + (i:Int)))]:St) = [some (.ref p),some (.str z2),v3] ∧ H3 = H3 ∧ cps z2 ++ w1 (bAt t.flat (i + 1)) (t.flat.drop (i + 1)) = t.text:=fun z' ez => by
      have e1:cps (z' ++ p') ++ w1 (decide (cps p' = [40])) (t.flat.drop (i + 1)) = t.text:=by
        rw [cps_app,ez,← hw]
        simp only [List.append_assoc]
      refine ⟨?_,z' ++ p',some (.int (0 + (i:Int))),rfl,rfl,?_⟩
      · have:=congrArg List.length e1
        rw [List.length_append,cps_len,len_app] at this
        exact Nat.le_of_lt (mid (by omega))
      · have eb:bAt t.flat (i + 1) = decide (cps p' = [40]):=by
          show decide (t.flat[i]? = some [40]) = _
          rw [hpi]
          exact decide_eq_decide.mpr ⟨Option.some.inj,fun z => by rw [z]⟩
        rw [eb]
        exact e1
    refine ⟨_,rfl,_,_,rfl,rfl,_,rfl,ite2 (fun c1 => ?_) (fun c1 => iteF ?_)⟩
    · have c1':(0:Int) + (i:Int) > 0:=of_decide_eq_true c1
      obtain ⟨j,rfl⟩:∃ j,i = j + 1:=⟨i - 1,by omega⟩
      obtain ⟨p0,hp0⟩:∃ p0,ws[j]? = some p0:=⟨_,List.getElem?_eq_getElem (by omega)⟩
      have hpj:t.flat[j]? = some (cps p0):=by rw [← hps,List.getElem?_map,hp0]; rfl
      have hat0:atI (ws.map V.str) ((0 + ((j + 1:Nat):Int)) - 1) = some (.str p0):=by
        rw [show (0 + ((j + 1:Nat):Int)) - 1 = (j:Int) by omega]
        exact atI_nat (by rw [List.getElem?_map,hp0]; rfl)
      have eb:bAt t.flat (j + 1) = decide (cps p0 = [40]):=by
        show decide (t.flat[j]? = some [40]) = _
        rw [hpj]
        exact decide_eq_decide.mpr ⟨Option.some.inj,fun z => by rw [z]⟩
      refine ⟨_,rfl,_,rfl,_,_,rfl,rfl,p,_,_,_,rfl,rfl,hp,hat0,rfl,_,rfl,ite2 (fun c2 => ?_) (fun c2 => iteF ?_)⟩
      · have n0:cps p0 ≠ [40]:=fun z => by
          have c2':(!decide (V.str p0 = V.str "(")) = true:=c2
          rw [show p0 = "(" from str_iff.mpr z] at c2'
          exact absurd c2' (by decide)
        refine ⟨_,rfl,_,rfl,p,_,_,_,rfl,rfl,hp,hat,rfl,_,rfl,ite2 (fun c3 => ?_) (fun c3 => ?_)⟩
        · have n1:cps p' ≠ [41]:=fun z => by
            have c3':(!decide (V.str p' = V.str ")")) = true:=c3
            rw [show p' = ")" from str_iff.mpr z] at c3'
            exact absurd c3' (by decide)
          obtain ⟨FL,fi⟩:=fin (z ++ " ") (by
            rw [cps_app,if_neg]
            · rfl
            · rw [eb,decide_eq_true_iff]
              exact fun z => z.elim n0 n1)
          have gl:z.length + (Str.ofString " ").length ≤ sizeLine:=by rw [len_app] at FL; omega
          refine ⟨_,rfl,z,_,rfl,rfl,gl,?_⟩
          exact ⟨_,rfl,_,rfl,_,rfl,p,_,_,_,rfl,rfl,hp,hat,z ++ " ",p',rfl,rfl,FL,fi⟩
        · have e41:cps p' = [41]:=by
            have c3':¬ (!decide (V.str p' = V.str ")")) = true:=c3
            rw [Bool.not_eq_true',Bool.not_eq_false,decide_eq_true_iff] at c3'
            exact str_iff.mp (V.str.inj c3')
          obtain ⟨FL,fi⟩:=fin z (by rw [if_pos (.inr e41),List.append_nil])
          exact ⟨_,rfl,_,rfl,_,rfl,p,_,_,_,rfl,rfl,hp,hat,z,p',rfl,rfl,FL,fi⟩
      · have e40:cps p0 = [40]:=by
          have c2':¬ (!decide (V.str p0 = V.str "(")) = true:=c2
          rw [Bool.not_eq_true',Bool.not_eq_false,decide_eq_true_iff] at c2'
          exact str_iff.mp (V.str.inj c2')
        obtain ⟨FL,fi⟩:=fin z (by rw [if_pos (.inl (by rw [eb]; exact decide_eq_true e40)),List.append_nil])
        exact ⟨_,rfl,_,rfl,_,rfl,p,_,_,_,rfl,rfl,hp,hat,z,p',rfl,rfl,FL,fi⟩
    · have i0:i = 0:=by
        have:¬ ((0:Int) + (i:Int) > 0):=of_decide_eq_false (Bool.eq_false_iff.mpr c1)
        omega
      obtain ⟨FL,fi⟩:=fin z (by rw [i0,if_pos (.inl rfl),List.append_nil])
      exact ⟨_,rfl,_,rfl,_,rfl,p,_,_,_,rfl,rfl,hp,hat,z,p',rfl,rfl,FL,fi⟩
  · rintro σ H3 ⟨z,v3,rfl,rfl,hw⟩
    rw [Int.toNat_natCast,wl,← pl,List.drop_length] at hw
    refine ⟨_,rfl,q z ?_⟩
    rw [← hw]
    exact (List.append_nil _).symm
end
end K17
namespace K17
open PySem L2
inductive Fm where
  | lit (v n:Nat)
  | op (o:Str) (n:Nat)
  | test (o:Str)
  | as_ (n:Nat)
  | let_ (s:Str)
  | br (h:Str)
  | call (q t:Str)
inductive Ex where
  | var (s:Str)
  | node (f:Fm) (es:List Ex)
noncomputable abbrev big:Nat:=1000000000000000000
noncomputable def Fm.words:Fm → List Str
  | .lit v n => ["lit",numS v,numS n]
  | .op o n => [o,numS n]
  | .test o => [o]
  | .as_ n => ["as",numS n]
  | .let_ s => ["let",s]
  | .br h => [h]
  | .call q t => [nearW q t]
noncomputable def Fm.vals:Fm → List V
  | .lit v n => [.str "lit",.int v,.int n]
  | .op o n => [.str "op",.str o,.int n]
  | .test o => [.str "test",.str o]
  | .as_ n => [.str "as",.int n]
  | .let_ s => [.str "let",.str s]
  | .br h => [.str h]
  | .call q t => [.str "call",.str q,.str t]
noncomputable def Fm.isCall:Fm → Bool
  | .call _ _ => true
  | _ => false
noncomputable def Fm.fits:Fm → Nat → Prop
  | .lit v n,k => k = 0 ∧ v < n ∧ n ≤ big
  | .op o n,k => k = 2 ∧ (o = "+" ∨ o = "-" ∨ o = "*") ∧ 1 ≤ n ∧ n ≤ big
  | .test o,k => k = 2 ∧ (o = "=" ∨ o = "<")
  | .as_ n,k => k = 1 ∧ 1 ≤ n ∧ n ≤ big
  | .let_ s,k => k = 2 ∧ nameOk s = true
  | .br h,k => (h = "if" ∧ k = 3) ∨ (h = "two" ∧ k = 2) ∨ (h = "first" ∧ k = 1) ∨ (h = "second" ∧ k = 1)
  | .call q t,k => k ≤ 4 ∧ nameOk t = true ∧ (q = "" ∨ nameOk q = true)
mutual
noncomputable def Ex.tr:Ex → Tr
  | .var s => .w s
  | .node f es => .n (f.words.map Tr.w ++ trs es)
noncomputable def trs:List Ex → List Tr
  | [] => []
  | e :: es => e.tr :: trs es
end
mutual
noncomputable def Ex.ok:Ex → Prop
  | .var s => nameOk s = true
  | .node f es => f.fits es.length ∧ eoks es
noncomputable def eoks:List Ex → Prop
  | [] => True
  | e :: es => e.ok ∧ eoks es
end
mutual
noncomputable def Ex.dp:Ex → Nat
  | .var _ => 0
  | .node _ es => 1 + edps es
noncomputable def edps:List Ex → Nat
  | [] => 0
  | e :: es => max e.dp (edps es)
end
theorem fits_le {f:Fm} {k:Nat} (h:f.fits k):k ≤ 4:=by
  cases f with
  | lit => obtain ⟨rfl,_⟩:=h; decide
  | op => obtain ⟨rfl,_⟩:=h; decide
  | test => obtain ⟨rfl,_⟩:=h; decide
  | as_ => obtain ⟨rfl,_⟩:=h; decide
  | let_ => obtain ⟨rfl,_⟩:=h; decide
  | br => rcases h with ⟨_,rfl⟩ | ⟨_,rfl⟩ | ⟨_,rfl⟩ | ⟨_,rfl⟩ <;> decide
  | call => exact h.1
theorem trs_len:∀ es:List Ex,(trs es).length = es.length
  | [] => rfl
  | _ :: es => congrArg (· + 1) (trs_len es)
theorem trs_app:∀ as bs:List Ex,trs (as ++ bs) = trs as ++ trs bs
  | [],_ => rfl
  | a :: as,bs => by
    show a.tr :: trs (as ++ bs) = a.tr :: trs as ++ trs bs
    rw [trs_app as bs]
    rfl
theorem eoks_mem:∀ {es:List Ex} {e:Ex},eoks es → e ∈ es → e.ok
  | a :: as,e,⟨h1,h2⟩,h => by
    rcases List.mem_cons.mp h with rfl | z
    · exact h1
    · exact eoks_mem h2 z
theorem edps_mem:∀ {es:List Ex} {e:Ex},e ∈ es → e.dp ≤ edps es
  | a :: as,e,h => by
    show _ ≤ max a.dp (edps as)
    rcases List.mem_cons.mp h with rfl | z
    · omega
    · have:=edps_mem z
      omega
theorem words_tok {f:Fm} {k:Nat} (h:f.fits k):∀ s ∈ f.words,Tk.Word (cps s) ∧ s.length ≤ 25 ∧ ∀ c ∈ cps s,c < 0x110000:=by
  have nm:∀ n:Nat,n ≤ big → Tk.Word (cps (numS n)) ∧ (numS n).length ≤ 25 ∧ ∀ c ∈ cps (numS n),c < 0x110000:=fun n hn => by
    obtain ⟨_,_,x3⟩:=num_tx hn
    exact ⟨(num_word hn).1,by omega,(num_word hn).2⟩
  have na:∀ s:Str,nameOk s = true → Tk.Word (cps s) ∧ s.length ≤ 25 ∧ ∀ c ∈ cps s,c < 0x110000:=fun s hs => by
    have:=near_word (q:="") (t:=s) hs (.inl rfl)
    have e:nearW "" s = s:=if_pos rfl
    rw [e] at this
    exact this
  intro s hs
  cases f with
  | lit v n =>
    obtain ⟨_,h1,h2⟩:=h
    simp only [Fm.words,List.mem_cons,List.mem_nil_iff,or_false] at hs
    rcases hs with rfl | rfl | rfl
    · exact ⟨⟨by decide +kernel,by decide +kernel⟩,by decide +kernel,by decide +kernel⟩
    · exact nm v (by omega)
    · exact nm n h2
  | op o n =>
    obtain ⟨_,h1,h2,h3⟩:=h
    simp only [Fm.words,List.mem_cons,List.mem_nil_iff,or_false] at hs
    rcases hs with rfl | rfl
    · rcases h1 with rfl | rfl | rfl <;> exact ⟨⟨by decide +kernel,by decide +kernel⟩,by decide +kernel,by decide +kernel⟩
    · exact nm n h3
  | test o =>
    obtain ⟨_,h1⟩:=h
    simp only [Fm.words,List.mem_cons,List.mem_nil_iff,or_false] at hs
    subst hs
    rcases h1 with rfl | rfl <;> exact ⟨⟨by decide +kernel,by decide +kernel⟩,by decide +kernel,by decide +kernel⟩
  | as_ n =>
    obtain ⟨_,h2,h3⟩:=h
    simp only [Fm.words,List.mem_cons,List.mem_nil_iff,or_false] at hs
    rcases hs with rfl | rfl
    · exact ⟨⟨by decide +kernel,by decide +kernel⟩,by decide +kernel,by decide +kernel⟩
    · exact nm n h3
  | let_ z =>
    obtain ⟨_,h2⟩:=h
    simp only [Fm.words,List.mem_cons,List.mem_nil_iff,or_false] at hs
    rcases hs with rfl | rfl
    · exact ⟨⟨by decide +kernel,by decide +kernel⟩,by decide +kernel,by decide +kernel⟩
    · exact na _ h2
  | br z =>
    simp only [Fm.words,List.mem_cons,List.mem_nil_iff,or_false] at hs
    subst hs
    rcases h with ⟨rfl,_⟩ | ⟨rfl,_⟩ | ⟨rfl,_⟩ | ⟨rfl,_⟩ <;> exact ⟨⟨by decide +kernel,by decide +kernel⟩,by decide +kernel,by decide +kernel⟩
  | call q t =>
    obtain ⟨_,h1,h2⟩:=h
    simp only [Fm.words,List.mem_cons,List.mem_nil_iff,or_false] at hs
    subst hs
    exact near_word h1 h2
theorem words_len (f:Fm):f.words.length ≤ 3:=by cases f <;> simp [Fm.words]
theorem flats_words:∀ ws:List Str,flats (ws.map Tr.w) = ws.map cps
  | [] => rfl
  | w :: ws => by
    show [cps w] ++ flats (ws.map Tr.w) = cps w :: ws.map cps
    rw [flats_words ws]
    rfl
theorem oks_words:∀ {ws:List Str},(∀ s ∈ ws,Tk.Word (cps s)) → oks (ws.map Tr.w)
  | [],_ => True.intro
  | w :: ws,h => ⟨h w (.head _),oks_words fun s hs => h s (.tail _ hs)⟩
theorem deps_words:∀ ws:List Str,deps (ws.map Tr.w) = 0
  | [] => rfl
  | w :: ws => by
    show max 0 (deps (ws.map Tr.w)) = 0
    rw [deps_words ws]
    rfl
theorem deps_app:∀ as bs:List Tr,deps (as ++ bs) = max (deps as) (deps bs)
  | [],bs => by show deps bs = max 0 (deps bs); omega
  | a :: as,bs => by
    show max a.dep (deps (as ++ bs)) = max (max a.dep (deps as)) (deps bs)
    rw [deps_app as bs]
    omega
mutual
theorem ex_tr_ok:∀ {e:Ex},e.ok → e.tr.ok
  | .var s,h => by
    have:=near_word (q:="") (t:=s) h (.inl rfl)
    have e:nearW "" s = s:=if_pos rfl
    rw [e] at this
    exact this.1
  | .node f es,⟨h1,h2⟩ => oks_app (oks_words fun s hs => (words_tok h1 s hs).1) (exs_tr_ok h2)
theorem exs_tr_ok:∀ {es:List Ex},eoks es → oks (trs es)
  | [],_ => True.intro
  | e :: es,⟨h1,h2⟩ => ⟨ex_tr_ok h1,exs_tr_ok h2⟩
end
mutual
theorem ex_dep:∀ e:Ex,e.tr.dep = e.dp
  | .var s => rfl
  | .node f es => by
    show 1 + deps (f.words.map Tr.w ++ trs es) = 1 + edps es
    rw [deps_app,deps_words,exs_dep es]
    omega
theorem exs_dep:∀ es:List Ex,deps (trs es) = edps es
  | [] => rfl
  | e :: es => by
    show max e.tr.dep (deps (trs es)) = max e.dp (edps es)
    rw [ex_dep e,exs_dep es]
end
mutual
theorem ex_toks:∀ {e:Ex},e.ok → ∀ p ∈ e.tr.flat,TokC p
  | .var s,h,p,hp => by
    have:=near_word (q:="") (t:=s) h (.inl rfl)
    have e:nearW "" s = s:=if_pos rfl
    rw [e] at this
    rw [List.mem_singleton.mp (show p ∈ [cps s] from hp)]
    exact tokc_word this.1 (by rw [cps_len]; exact this.2.1) this.2.2
  | .node f es,⟨h1,h2⟩,p,hp => by
    have hp':p ∈ [40] :: (flats (f.words.map Tr.w ++ trs es) ++ [[41]]):=hp
    rw [flats_app,flats_words] at hp'
    simp only [List.mem_cons,List.mem_append,List.mem_nil_iff,or_false] at hp'
    rcases hp' with rfl | (hp' | hp') | rfl
    · exact tokc_op
    · obtain ⟨s,hs,rfl⟩:=List.mem_map.mp hp'
      obtain ⟨a,b,c⟩:=words_tok h1 s hs
      exact tokc_word a (by rw [cps_len]; exact b) c
    · exact exs_toks h2 p hp'
    · exact tokc_cl
theorem exs_toks:∀ {es:List Ex},eoks es → ∀ p ∈ flats (trs es),TokC p
  | [],_,p,hp => by cases hp
  | e :: es,⟨h1,h2⟩,p,hp => by
    rcases List.mem_append.mp (show p ∈ e.tr.flat ++ flats (trs es) from hp) with z | z
    · exact ex_toks h1 p z
    · exact exs_toks h2 p z
end
mutual
inductive ExAt (H:Hp):V → Ex → Prop
  | var {p:Addr} {s:Str}:H p = some (.tup [.str "var",.str s]) → ExAt H (.ref p) (.var s)
  | node {p:Addr} {f:Fm} {xs:List V} {es:List Ex}:f.isCall = false → H p = some (.tup (f.vals ++ xs)) → ExsAt H xs es → ExAt H (.ref p) (.node f es)
  | call {p p2:Addr} {q t:Str} {xs:List V} {es:List Ex}:H p = some (.tup [.str "call",.str q,.str t,.ref p2]) → H p2 = some (.tup xs) → ExsAt H xs es → ExAt H (.ref p) (.node (.call q t) es)
inductive ExsAt (H:Hp):List V → List Ex → Prop
  | nil:ExsAt H [] []
  | cons {x:V} {e:Ex} {xs:List V} {es:List Ex}:ExAt H x e → ExsAt H xs es → ExsAt H (x :: xs) (e :: es)
end
mutual
theorem ExAt.keep {H H':Hp} (k:∀ a xs,H a = some (.tup xs) → H' a = some (.tup xs)):∀ {x:V} {e:Ex},ExAt H x e → ExAt H' x e
  | _,_,.var h => .var (k _ _ h)
  | _,_,.node c h r => .node c (k _ _ h) (ExsAt.keep k r)
  | _,_,.call h h2 r => .call (k _ _ h) (k _ _ h2) (ExsAt.keep k r)
theorem ExsAt.keep {H H':Hp} (k:∀ a xs,H a = some (.tup xs) → H' a = some (.tup xs)):∀ {xs:List V} {es:List Ex},ExsAt H xs es → ExsAt H' xs es
  | _,_,.nil => .nil
  | _,_,.cons h r => .cons (ExAt.keep k h) (ExsAt.keep k r)
end
theorem ExAt.same {H H':Hp} (s:Same H H') {x:V} {e:Ex} (h:ExAt H x e):ExAt H' x e:=h.keep fun _ _ q => s _ _ q
theorem ExsAt.same {H H':Hp} (s:Same H H') {xs:List V} {es:List Ex} (h:ExsAt H xs es):ExsAt H' xs es:=h.keep fun _ _ q => s _ _ q
theorem ExsAt.append {H:Hp}:∀ {xs ys:List V} {es fs:List Ex},ExsAt H xs es → ExsAt H ys fs → ExsAt H (xs ++ ys) (es ++ fs)
  | _,_,_,_,.nil,h => h
  | _,_,_,_,.cons a r,h => .cons a (r.append h)
theorem ExsAt.length {H:Hp}:∀ {xs:List V} {es:List Ex},ExsAt H xs es → xs.length = es.length
  | _,_,.nil => rfl
  | _,_,.cons _ r => congrArg (· + 1) r.length
theorem ExsAt.get {H:Hp}:∀ {xs:List V} {es:List Ex},ExsAt H xs es → ∀ {i:Nat} {x:V},xs[i]? = some x → ∃ e,es[i]? = some e ∧ ExAt H x e
  | _,_,.cons h r,0,x,hx => by
    cases hx
    exact ⟨_,rfl,h⟩
  | _,_,.cons h r,i + 1,x,hx => r.get (i:=i) hx
end K17
namespace K17
open PySem L2
inductive Kd where
  | num (n:Nat)
  | name (q t:Str)
  | pair (a b:Kd)
noncomputable def Kd.tr:Kd → Tr
  | .num n => .n [.w "num",.w (numS n)]
  | .name q t => .w (nearW q t)
  | .pair a b => .n [.w "pair",a.tr,b.tr]
noncomputable def Kd.ok:Kd → Prop
  | .num n => 1 ≤ n ∧ n ≤ 1000000000000000000
  | .name q t => nameOk t = true ∧ (q = "" ∨ nameOk q = true)
  | .pair a b => a.ok ∧ b.ok
noncomputable def Kd.lv:Kd → Nat
  | .num _ => 1
  | .name _ _ => 1
  | .pair a b => a.lv + b.lv
noncomputable def Kd.dp:Kd → Nat
  | .num _ => 0
  | .name _ _ => 0
  | .pair a b => 1 + max a.dp b.dp
theorem lv_pos:∀ k:Kd,1 ≤ k.lv
  | .num _ => Nat.le_refl _
  | .name _ _ => Nat.le_refl _
  | .pair a b => by
    have:=lv_pos a
    show 1 ≤ a.lv + b.lv
    omega
theorem dp_lv:∀ k:Kd,k.dp < k.lv
  | .num _ => by show 0 < 1; decide
  | .name _ _ => by show 0 < 1; decide
  | .pair a b => by
    have h1:=dp_lv a
    have h2:=dp_lv b
    have h3:=lv_pos a
    have h4:=lv_pos b
    show 1 + max a.dp b.dp < a.lv + b.lv
    omega
theorem dep_lv:∀ k:Kd,k.tr.dep ≤ k.lv
  | .num _ => by show 1 + max 0 (max 0 0) ≤ 1; decide
  | .name _ _ => by show 0 ≤ 1; decide
  | .pair a b => by
    have h1:=dep_lv a
    have h2:=dep_lv b
    have h3:=lv_pos a
    have h4:=lv_pos b
    show 1 + max 0 (max a.tr.dep (max b.tr.dep 0)) ≤ a.lv + b.lv
    omega
theorem flat_lv:∀ k:Kd,k.tr.flat.length + 3 ≤ 7 * k.lv
  | .num _ => by show 4 + 3 ≤ 7; decide
  | .name _ _ => by show 1 + 3 ≤ 7; decide
  | .pair a b => by
    have h1:=flat_lv a
    have h2:=flat_lv b
    show ([40] :: (([cps "pair"] ++ (a.tr.flat ++ (b.tr.flat ++ []))) ++ [[41]])).length + 3 ≤ 7 * (a.lv + b.lv)
    simp only [List.length_cons,List.length_append,List.length_nil]
    omega
theorem tr_ok:∀ {k:Kd},k.ok → k.tr.ok
  | .num n,h => ⟨⟨by decide +kernel,by decide +kernel⟩,(num_word h.2).1,True.intro⟩
  | .name q t,h => (near_word h.1 h.2).1
  | .pair a b,h => ⟨⟨by decide +kernel,by decide +kernel⟩,tr_ok h.1,tr_ok h.2,True.intro⟩
theorem tr_toks:∀ {k:Kd},k.ok → ∀ p ∈ k.tr.flat,TokC p
  | .num n,h,p,hp => by
    have hp':p ∈ [[40],cps "num",cps (numS n),[41]]:=hp
    simp only [List.mem_cons,List.mem_nil_iff,or_false] at hp'
    rcases hp' with rfl | rfl | rfl | rfl
    · exact tokc_op
    · exact tokc_word ⟨by decide +kernel,by decide +kernel⟩ (by decide +kernel) (by decide +kernel)
    · exact tokc_word (num_word h.2).1 (by rw [cps_len]; have:=(num_tx h.2).2.2; omega) (num_word h.2).2
    · exact tokc_cl
  | .name q t,h,p,hp => by
    obtain rfl:=List.mem_singleton.mp (show p ∈ [cps (nearW q t)] from hp)
    obtain ⟨w1,w2,w3⟩:=near_word h.1 h.2
    exact tokc_word w1 (by rw [cps_len]; exact w2) w3
  | .pair a b,h,p,hp => by
    have hp':p ∈ [40] :: (([cps "pair"] ++ (a.tr.flat ++ (b.tr.flat ++ []))) ++ [[41]]):=hp
    simp only [List.mem_cons,List.mem_append,List.mem_nil_iff,or_false] at hp'
    rcases hp' with rfl | (rfl | hp' | hp') | rfl
    · exact tokc_op
    · exact tokc_word ⟨by decide +kernel,by decide +kernel⟩ (by decide +kernel) (by decide +kernel)
    · exact tr_toks h.1 p hp'
    · exact tr_toks h.2 p hp'
    · exact tokc_cl
inductive KdAt (K:PySem.W.Frag) (H:Hp):V → Kd → Prop
  | num {p:Addr} {n:Nat}:H p = some (.tup [.str "num",.int n]) → KdAt K H (.ref p) (.num n)
  | name {p:Addr} {q t:Str}:H p = some (.tup [.str "name",.str q,.str t]) → KdAt K H (.ref p) (.name q t)
  | pair {p:Addr} {x y:V} {a b:Kd}:H p = some (.tup [.str "pair",x,y]) → KdAt K H x a → KdAt K H y b → KdAt K H (.ref p) (.pair a b)
theorem KdAt.same {K:PySem.W.Frag} {H H':Hp} (e:Same H H'):∀ {x:V} {k:Kd},KdAt K H x k → KdAt K H' x k
  | _,_,.num h => .num (e _ _ h)
  | _,_,.name h => .name (e _ _ h)
  | _,_,.pair h a b => .pair (e _ _ h) (KdAt.same e a) (KdAt.same e b)
end K17
namespace K17
open PySem L2
noncomputable abbrev opsV:List V:=[.str "+",.str "-",.str "*"]
noncomputable abbrev tstV:List V:=[.str "=",.str "<"]
noncomputable abbrev brs:List (Str × Int):=[("if",3),("two",2),("first",1),("second",1)]
noncomputable abbrev heads:List Str:=["lit","+","-","*","=","<","as","let","if","two","first","second"]
theorem cut_from (xs:List V) (k:Nat):cutV xs (some (k:Int)) none = xs.drop k:=by
  unfold cutV
  rw [HT.sIx_nat,HT.sIx_none]
  by_cases h:k ≤ xs.length
  · rw [Nat.min_eq_left h,List.take_of_length_le (by rw [List.length_drop]; omega)]
  · rw [Nat.min_eq_right (by omega),List.drop_length,List.drop_eq_nil_of_le (by omega),List.take_nil]
theorem not_whole {n k:Nat} (h:1 ≤ k) (hn:1 ≤ n):¬ (HT.sIx n 0 (some (k:Int)) = 0 ∧ HT.sIx n n none = n):=fun z => by
  have:=z.1
  rw [HT.sIx_nat] at this
  omega
theorem heads_no:∀ w ∈ heads,nameOk w = false ∧ 46 ∉ cps w:=by decide +kernel
theorem near_not {q t:Str} (ht:nameOk t = true):∀ w ∈ heads,nearW q t ≠ w:=fun w hw e => by
  obtain ⟨h1,h2⟩:=heads_no w hw
  by_cases h:q = ""
  · have e2:nearW q t = t:=if_pos h
    rw [← e,e2,ht] at h1
    cases h1
  · refine h2 ?_
    rw [← e,near_cps h]
    exact List.mem_append_right _ (.head _)
theorem str_no {z w:Str} (h:z ≠ w):¬ (decide (V.str z = V.str w) = true):=fun c => h (V.str.inj (of_decide_eq_true c))
theorem inV_strs {z:Str}:∀ {ws:List Str},(∀ w ∈ ws,z ≠ w) → inV (.str z) (ws.map V.str) = false
  | [],_ => rfl
  | w :: ws,h => by
    unfold inV at *
    rw [List.map_cons,List.any_cons,Bool.or_eq_false_iff]
    refine ⟨?_,inV_strs (ws:=ws) fun x hx => h x (.tail _ hx)⟩
    rw [Bool.eq_false_iff]
    intro e
    have e':w = z:=by simpa [eqV] using e
    exact h w (.head _) e'.symm
theorem trs_get:∀ (es:List Ex) (i:Nat),(trs es)[i]? = es[i]?.map Ex.tr
  | [],_ => rfl
  | e :: es,0 => rfl
  | e :: es,i + 1 => trs_get es i
noncomputable def spExOf (K:PySem.W.Frag) (n:Nat):Sp:=fun vs H Q _ => ∃ (x:V) (e:Ex),vs = [x] ∧ TrAt K H x e.tr ∧ e.ok ∧ e.dp < n ∧ ∀ H' v,Same H H' → ExAt H' v e → Q v H'
noncomputable def spExsOf (K:PySem.W.Frag) (n:Nat):Sp:=fun vs H Q _ => ∃ (p:Addr) (xs:List V) (es:List Ex),vs = [.ref p] ∧ H p = some (.tup xs) ∧ TrsAt K H xs (trs es) ∧ eoks es ∧ (∀ e ∈ es,e.dp < n) ∧ es.length ≤ 4 ∧ ∀ H' (r:Addr) ys,Same H H' → H' r = some (.tup ys) → ExsAt H' ys es → Q (.ref r) H'
noncomputable def spLitOf (K:PySem.W.Frag):Sp:=fun vs H Q _ => ∃ (p:Addr) (a b:Nat),vs = [.ref p] ∧ H p = some (.tup [.str "lit",.str (numS a),.str (numS b)]) ∧ a < b ∧ b ≤ big ∧ ∀ H' v,Same H H' → ExAt H' v (.node (.lit a b) []) → Q v H'
noncomputable def spCallOf (K:PySem.W.Frag) (n:Nat):Sp:=fun vs H Q _ => ∃ (p:Addr) (q t:Str) (xs:List V) (es:List Ex),vs = [.ref p] ∧ H p = some (.tup (.str (nearW q t) :: xs)) ∧ TrsAt K H xs (trs es) ∧ (nameOk t = true ∧ (q = "" ∨ nameOk q = true)) ∧ eoks es ∧ (∀ e ∈ es,e.dp < n) ∧ es.length ≤ 4 ∧ ∀ H' v,Same H H' → ExAt H' v (.node (.call q t) es) → Q v H'
section
variable {P:Program} {w:World} {K:PySem.W.Frag} {mg:Str → Option Value} {base:Heap}
theorem scExsOf:FnScope ["trees"] ["trees"] (defScope sExsOf):=⟨rfl,rfl,rfl,by decide +kernel,rfl,by decide +kernel,by decide +kernel⟩
theorem ok_exsOf {f fe:Addr} {fd fde:FuncData} {n m:Nat} (F:Fun K "expressions_of" "expressions_of" sExsOf f fd)
    (GE:FnOk P w K mg base CX0 m fe fde ["tree"] (spExOf K n)) (bE:Binds K fde ["tree"] []) (kE:PySem.W.keepIn K (.ref fe) = true) (mE:mg "expression_of_tree" = some (.ref fe)) (mt:mg "tuple" = none):FnOk P w K mg base CX0 (m + 1) f fd ["trees"] (spExsOf K n):=by
  refine F.ok scExsOf (fun vs H Q E h => ?_) (fun cdv A outer s H vs Q E hr h => ?_)
  · obtain ⟨p,xs,es,rfl,_⟩:=h
    rfl
  obtain ⟨p,xs,es,rfl,hp,hxs,hok,hdp,h4,q⟩:=h
  refine ⟨_,pss_one (ps_ret (pe_callTy call_tuple_of rfl mt bootTuple (pa_cons (pe_comp (own:=["tree"]) (caps:=[]) (κ:=[]) (cl:=[]) rfl ⟨rfl,by decide +kernel,by decide +kernel,rfl,rfl,(fun y hy => nomatch hy),(fun y hy => nomatch hy)⟩ rfl (pi_tup (pv 0))
    (fun _ _ _ _ => pg_name (i:=0) (show (["tree"]:List Str).Nodup from by decide +kernel) rfl (Or.inl rfl)) (fun _ _ _ _ => pe_call GE hr rfl mE kE bE .nil pass0 (pa_cons (pv 0) pa_nil))) pa_nil))),?_⟩
  have xl:=hxs.length
  rw [trs_len] at xl
  refine ⟨_,rfl,p,rfl,⟨_,SqT.of hp⟩,?_⟩
  refine comp_by (J:=Itt K p) (xs:=xs) (fun i ys H3 => Same H H3 ∧ ExsAt H3 ys (es.take i)) ⟨Same.refl _,.nil⟩ (small (by omega)) ?_ ?_ ?_ ?_ ?_ ?_
  · rintro i ys H3 ⟨_,hy⟩
    rw [hy.length,List.length_take]
    omega
  · rintro i u ys H3 hu ⟨s3,_⟩
    exact ⟨_,_,SqT.of (s3 _ _ hp),hu⟩
  · rintro i ys u H3 H' hn ⟨s3,_⟩ hy
    exact ⟨hy.1,hy.2 _ (SqT.of (s3 _ _ hp))⟩
  · rintro ys H3 ⟨s3,_⟩
    exact ⟨_,SqT.of (s3 _ _ hp),Nat.le_refl _⟩
  · rintro i u ys H3 N hN hu ⟨s3,hy⟩
    obtain ⟨t,ht,hat⟩:=hxs.get hu
    rw [trs_get] at ht
    obtain ⟨e,he,rfl⟩:=Option.map_eq_some_iff.mp ht
    have hm:=List.mem_of_getElem? he
    refine ⟨rfl,tYes_go ⟨_,rfl,u,e,rfl,hat.same s3,eoks_mem hok hm,hdp e hm,fun H4 v s4 hv => hN _ _ ⟨s3.trans s4,?_⟩⟩⟩
    rw [List.take_add_one,he]
    exact (hy.same s4).append (.cons hv .nil)
  · rintro ys H3 D ⟨s3,hy⟩ hD
    rw [xl,List.take_length] at hy
    have sD:=same_new hD (.lst ys)
    exact ⟨D,ys,rfl,.inl ⟨SqL.of upd_same,fun l hl => q _ l ys (s3.trans (sD.trans (same_new hl _))) upd_same (hy.same (sD.trans (same_new hl _)))⟩⟩
theorem scLitOf:FnScope ["tree","size"] ["tree"] (defScope sLitOf):=⟨rfl,rfl,rfl,by decide +kernel,rfl,by decide +kernel,by decide +kernel⟩
theorem ok_litOf {f fb fs fn:Addr} {fd fdb fds fdn:FuncData} (F:Fun K "literal_of_tree" "literal_of_tree" sLitOf f fd)
    (GB:FnOk P w K mg base CX0 1 fb fdb ["tree","least","most"] (spBracket K)) (bB:Binds K fdb ["tree","least","most"] []) (kB:PySem.W.keepIn K (.ref fb) = true) (mB:mg "bracket" = some (.ref fb))
    (GS:FnOk P w K mg base CX0 3 fs fds ["tree"] spSizeOf) (bS:Binds K fds ["tree"] []) (kS:PySem.W.keepIn K (.ref fs) = true) (mS:mg "size_of_tree" = some (.ref fs))
    (GN:FnOk P w K mg base CX0 2 fn fdn ["tree","least","most"] spNumberOf) (bN:Binds K fdn ["tree","least","most"] []) (kN:PySem.W.keepIn K (.ref fn) = true) (mN:mg "number_of_tree" = some (.ref fn)):FnOk P w K mg base CX0 4 f fd ["tree"] (spLitOf K):=by
  refine F.ok scLitOf (fun vs H Q E h => ?_) (fun cdv A outer s H vs Q E hr h => ?_)
  · obtain ⟨p,a,b,rfl,_⟩:=h
    rfl
  obtain ⟨p,a,b,rfl,hp,hab,hb,q⟩:=h
  have hb':b ≤ 1000000000000000000:=hb
  have hr1:Room 1 _:=hr.mono (by decide)
  have hr2:Room 2 _:=hr.mono (by decide)
  refine ⟨_,pss_cons (ps_expr (pe_call GB hr1 rfl mB kB bB .nil pass0 (pa_cons (pv 0) (pa_cons pe_int (pa_cons pe_int pa_nil)))))
    (pss_cons (ps_set (i:=1) scLitOf.nd rfl (Or.inl rfl) (pe_call GS hr rfl mS kS bS .nil pass0 (pa_cons (pe_ix ix_tup (pv 0) pe_int (fun _ _ => rfl)) pa_nil)))
    (pss_one (ps_ret (pe_tup (pa_cons pe_str (pa_cons (pe_call GN hr2 rfl mN kN bN .nil pass0 (pa_cons (pe_ix ix_tup (pv 0) pe_int (fun _ _ => rfl)) (pa_cons pe_int (pa_cons (pe_op op_sub (pv 1) pe_int) pa_nil)))) (pa_cons (pv 1) pa_nil))))))),?_⟩
  refine ⟨_,rfl,p,_,3,.int 3,rfl,hp,by show (3:Int) ≤ 3; decide,.inr ⟨3,rfl,by show (3:Int) ≤ 3; decide⟩,?_⟩
  refine ⟨_,rfl,p,_,_,.str (numS b),rfl,rfl,SqT.of hp,rfl,b,rfl,⟨by omega,hb⟩,fun H2 s2 => ?_⟩
  refine ⟨_,rfl,p,_,_,.str (numS a),rfl,rfl,SqT.of (s2 _ _ hp),rfl,_,rfl,_,_,rfl,rfl,a,0,_,rfl,⟨by omega,by omega,by omega⟩,fun H3 s3 => ⟨_,rfl,(by show 3 ≤ sizeLine; decide),fun p2 hp2 => ?_⟩⟩
  exact q _ _ (s2.trans (s3.trans (same_new hp2 _))) (.node rfl upd_same .nil)
theorem scCallOf:FnScope ["tree","called"] ["tree"] (defScope sCallOf):=⟨rfl,rfl,rfl,by decide +kernel,rfl,by decide +kernel,by decide +kernel⟩
theorem ok_callOf {f fn fa fb fx:Addr} {fd fdn fda fdb fdx:FuncData} {n m:Nat} {tM:Tok} (F:Fun K "call_of_tree" "call_of_tree" sCallOf f fd)
    (GN:FnOk P w K mg base CX0 2 fn fdn ["word"] spNearFar) (bN:Binds K fdn ["word"] []) (kN:PySem.W.keepIn K (.ref fn) = true) (mN:mg "near_or_far" = some (.ref fn))
    (GA:FnOk P w K mg base CX0 2 fa fda ["tree"] spAhead) (bA:Binds K fda ["tree"] []) (kA:PySem.W.keepIn K (.ref fa) = true) (mA:mg "word_ahead" = some (.ref fa))
    (GB:FnOk P w K mg base CX0 1 fb fdb ["tree","least","most"] (spBracket K)) (bB:Binds K fdb ["tree","least","most"] []) (kB:PySem.W.keepIn K (.ref fb) = true) (mB:mg "bracket" = some (.ref fb))
    (GX:FnOk P w K mg base CX0 (m + 2) fx fdx ["trees"] (spExsOf K n)) (bX:Binds K fdx ["trees"] []) (kX:PySem.W.keepIn K (.ref fx) = true) (mX:mg "expressions_of" = some (.ref fx))
    (mM:mg "MOST_ARGUMENTS" = some (.int 4 tM)):FnOk P w K mg base CX0 (m + 3) f fd ["tree"] (spCallOf K n):=by
  refine F.ok scCallOf (fun vs H Q E h => ?_) (fun cdv A outer s H vs Q E hr h => ?_)
  · obtain ⟨p,a,t,xs,es,rfl,_⟩:=h
    rfl
  obtain ⟨p,a,t,xs,es,rfl,hp,hxs,hn,hok,hdp,h4,q⟩:=h
  have hr1:Room 1 _:=hr.mono (by omega)
  have hr2:Room 2 _:=hr.mono (by omega)
  refine ⟨_,pss_cons (ps_set (i:=1) scCallOf.nd rfl (Or.inl rfl) (pe_call GN hr2 rfl mN kN bN .nil pass0 (pa_cons (pe_call GA hr2 rfl mA kA bA .nil pass0 (pa_cons (pv 0) pa_nil)) pa_nil)))
    (pss_cons (ps_expr (pe_call GB hr1 rfl mB kB bB .nil pass0 (pa_cons (pv 0) (pa_cons pe_int (pa_cons (pe_op op_add pe_int (pe_glob rfl mM (v:=.int 4) ⟨tM,rfl⟩)) pa_nil)))))
    (pss_one (ps_ret (pe_op op_catT (pe_op op_catT (pe_tup (pa_cons pe_str pa_nil)) (pv 1)) (pe_tup (pa_cons (pe_call GX hr rfl mX kX bX .nil pass0 (pa_cons (pe_slice sl_tup (pv 0) (po_some pe_int) po_none) pa_nil)) pa_nil)))))),?_⟩
  have xl:=hxs.length
  rw [trs_len] at xl
  refine ⟨_,rfl,p,_,_,rfl,hp,a,t,rfl,hn,fun H1 p1 s1 hp1 => ?_⟩
  have hp':=s1 _ _ hp
  refine ⟨_,rfl,_,_,rfl,rfl,p,_,1,.int 5,rfl,hp',by show (1:Int) ≤ ((xs.length + 1:Nat):Int); omega,.inr ⟨5,rfl,by show ((xs.length + 1:Nat):Int) ≤ 5; omega⟩,?_⟩
  refine ⟨(by show 1 ≤ sizeLine; decide),fun p2 hp2 => ?_⟩
  have s2:=same_new hp2 (.tup [.str "call"])
  refine ⟨_,rfl,p2,p1,_,_,rfl,rfl,SqT.of upd_same,SqT.of (s2 _ _ hp1),by simp,(by show 3 ≤ sizeLine; decide),(fun e => by cases e),fun _ p3 hp3 => ?_⟩
  have s3:=same_new hp3 (.tup ([.str "call"] ++ [.str a,.str t]))
  have hp4:=s3 _ _ (s2 _ _ hp')
  refine ⟨_,rfl,_,rfl,p,_,rfl,SqT.of hp4,not_whole (k:=1) (Nat.le_refl _) (by simp),fun p5 hp5 => ?_⟩
  have s5:=same_new hp5 (.tup (cutV (.str (nearW a t) :: xs) (some 1) none))
  have e5:cutV (.str (nearW a t) :: xs) (some 1) none = xs:=cut_from _ 1
  have h5:∀ Hq:Hp,(upd Hq p5 (.tup (cutV (.str (nearW a t) :: xs) (some 1) none))) p5 = some (.tup xs):=fun Hq => by rw [upd_same,e5]
  refine ⟨p5,xs,es,rfl,h5 _,hxs.same (s1.trans (s2.trans (s3.trans s5))),hok,hdp,h4,fun H6 p6 ys s6 hp6 hys => ⟨(by show 1 ≤ sizeLine; decide),fun p7 hp7 => ?_⟩⟩
  have s7:=same_new hp7 (.tup [.ref p6])
  refine ⟨p3,p7,_,_,rfl,rfl,SqT.of (s7 _ _ (s6 _ _ (s5 _ _ upd_same))),SqT.of upd_same,by simp,(by show 4 ≤ sizeLine; decide),(fun e => by cases e),fun _ p8 hp8 => ?_⟩
  have s8:=same_new hp8 (.tup ([.str "call"] ++ [.str a,.str t] ++ [.ref p6]))
  exact q _ _ (s1.trans (s2.trans (s3.trans (s5.trans (s6.trans (s7.trans s8)))))) (.call upd_same (s8 _ _ (s7 _ _ hp6)) (hys.same (s7.trans s8)))
end
end K17
namespace K17
open PySem L2
theorem trs_split {K:PySem.W.Frag} {H:Hp}:∀ {ws:List Str} {ts:List Tr} {xs:List V},TrsAt K H xs (ws.map Tr.w ++ ts) → ∃ ys,xs = ws.map V.str ++ ys ∧ TrsAt K H ys ts
  | [],_,xs,h => ⟨xs,rfl,h⟩
  | w :: ws,ts,_,.cons h r => by
    cases h
    obtain ⟨ys,rfl,h2⟩:=trs_split (ws:=ws) r
    exact ⟨ys,rfl,h2⟩
theorem flat_ops:opsV.all flatV = true:=by decide +kernel
theorem flat_tst:tstV.all flatV = true:=by decide +kernel
theorem ops_in {o:Str} (h:o = "+" ∨ o = "-" ∨ o = "*"):inV (.str o) opsV = true ∧ o ≠ "lit":=by
  rcases h with rfl | rfl | rfl <;> decide +kernel
theorem tst_in {o:Str} (h:o = "=" ∨ o = "<"):inV (.str o) tstV = true ∧ inV (.str o) opsV = false ∧ o ≠ "lit":=by
  rcases h with rfl | rfl <;> decide +kernel
theorem br_in {o:Str} {k:Nat} (h:(o = "if" ∧ k = 3) ∨ (o = "two" ∧ k = 2) ∨ (o = "first" ∧ k = 1) ∨ (o = "second" ∧ k = 1)):inV (.str o) tstV = false ∧ inV (.str o) opsV = false ∧ o ≠ "lit" ∧ o ≠ "as" ∧ o ≠ "let" ∧ numAtS brs o = some (k:Int) ∧ 1 ≤ k ∧ k ≤ 3:=by
  rcases h with ⟨rfl,rfl⟩ | ⟨rfl,rfl⟩ | ⟨rfl,rfl⟩ | ⟨rfl,rfl⟩ <;> decide +kernel
theorem call_in {q t:Str} (ht:nameOk t = true):inV (.str (nearW q t)) tstV = false ∧ inV (.str (nearW q t)) opsV = false ∧ nearW q t ≠ "lit" ∧ nearW q t ≠ "as" ∧ nearW q t ≠ "let" ∧ numAtS brs (nearW q t) = none:=by
  have h:=near_not (q:=q) ht
  refine ⟨inV_strs (ws:=["=","<"]) fun w hw => h w ?_,inV_strs (ws:=["+","-","*"]) fun w hw => h w ?_,h _ (by decide +kernel),h _ (by decide +kernel),h _ (by decide +kernel),?_⟩
  · simp only [List.mem_cons,List.mem_nil_iff,or_false] at hw
    rcases hw with rfl | rfl <;> decide +kernel
  · simp only [List.mem_cons,List.mem_nil_iff,or_false] at hw
    rcases hw with rfl | rfl | rfl <;> decide +kernel
  · unfold numAtS
    rw [Option.map_eq_none_iff,List.find?_eq_none]
    intro p hp
    simp only [List.mem_cons,List.mem_nil_iff,or_false] at hp
    rcases hp with rfl | rfl | rfl | rfl
    · exact fun c => h "if" (by decide +kernel) (of_decide_eq_true c).symm
    · exact fun c => h "two" (by decide +kernel) (of_decide_eq_true c).symm
    · exact fun c => h "first" (by decide +kernel) (of_decide_eq_true c).symm
    · exact fun c => h "second" (by decide +kernel) (of_decide_eq_true c).symm
theorem no_of {b:Bool} (h:b = false):¬ (b = true):=by rw [h]; decide
section
variable {P:Program} {w:World} {K:PySem.W.Frag} {mg:Str → Option Value} {base:Heap}
noncomputable abbrev exN:List Str:=["tree","ahead","count"]
theorem scExOf:FnScope exN ["tree"] (defScope sExOf):=⟨rfl,rfl,rfl,by decide +kernel,rfl,by decide +kernel,by decide +kernel⟩
set_option maxHeartbeats 0 in
theorem ok_exOf {f fn fa fb fs fx fl fc pO pT pB:Addr} {fd fdn fda fdb fds fdx fdl fdc:FuncData} (F:Fun K "expression_of_tree" "expression_of_tree" sExOf f fd) (bF:Binds K fd ["tree"] []) (kF:PySem.W.keepIn K (.ref f) = true) (mF:mg "expression_of_tree" = some (.ref f))
    (GN:FnOk P w K mg base CX0 2 fn fdn ["tree"] spNameOf) (bN:Binds K fdn ["tree"] []) (kN:PySem.W.keepIn K (.ref fn) = true) (mN:mg "name_of_tree" = some (.ref fn))
    (GA:FnOk P w K mg base CX0 2 fa fda ["tree"] spAhead) (bA:Binds K fda ["tree"] []) (kA:PySem.W.keepIn K (.ref fa) = true) (mA:mg "word_ahead" = some (.ref fa))
    (GB:FnOk P w K mg base CX0 1 fb fdb ["tree","least","most"] (spBracket K)) (bB:Binds K fdb ["tree","least","most"] []) (kB:PySem.W.keepIn K (.ref fb) = true) (mB:mg "bracket" = some (.ref fb))
    (GS:FnOk P w K mg base CX0 3 fs fds ["tree"] spSizeOf) (bS:Binds K fds ["tree"] []) (kS:PySem.W.keepIn K (.ref fs) = true) (mS:mg "size_of_tree" = some (.ref fs))
    (GL:FnOk P w K mg base CX0 4 fl fdl ["tree"] (spLitOf K)) (bL:Binds K fdl ["tree"] []) (kL:PySem.W.keepIn K (.ref fl) = true) (mL:mg "literal_of_tree" = some (.ref fl))
    (GX:∀ n,FnOk P w K mg base CX0 (3 * n + 5) f fd ["tree"] (spExOf K n) → FnOk P w K mg base CX0 (3 * n + 6) fx fdx ["trees"] (spExsOf K n)) (bX:Binds K fdx ["trees"] []) (kX:PySem.W.keepIn K (.ref fx) = true) (mX:mg "expressions_of" = some (.ref fx))
    (GC:∀ n,FnOk P w K mg base CX0 (3 * n + 6) fx fdx ["trees"] (spExsOf K n) → FnOk P w K mg base CX0 (3 * n + 7) fc fdc ["tree"] (spCallOf K n)) (bC:Binds K fdc ["tree"] []) (kC:PySem.W.keepIn K (.ref fc) = true) (mC:mg "call_of_tree" = some (.ref fc))
    (mO:mg "OPERATORS" = some (.ref pO)) (hO:∀ H,SqT K H pO opsV) (mT:mg "TESTS" = some (.ref pT)) (hT:∀ H,SqT K H pT tstV) (mB2:mg "BRANCHES" = some (.ref pB)) (hB:DKt K w pB brs)
    (mi:mg "isinstance" = none) (ms:mg "str" = none):∀ n,FnOk P w K mg base CX0 (3 * n + 5) f fd ["tree"] (spExOf K n)
  | 0 => ⟨fun vs H Q E h => by obtain ⟨x,k,rfl,_⟩:=h; rfl,fun A outer s H args us vs Q E _ _ _ _ h => by
      obtain ⟨x,k,_,_,_,hd,_⟩:=h
      omega⟩
  | n + 1 => by
    have IH:=ok_exOf F bF kF mF GN bN kN mN GA bA kA mA GB bB kB mB GS bS kS mS GL bL kL mL GX bX kX mX GC bC kC mC mO hO mT hT mB2 hB mi ms n
    have GXn:=GX n IH
    have GCn:=GC n GXn
    rw [show 3 * (n + 1) + 5 = (3 * n + 7) + 1 by omega]
    refine F.ok scExOf (fun vs H Q E h => ?_) (fun cdv A outer s H vs Q E hr h => ?_)
    · obtain ⟨x,k,rfl,_⟩:=h
      rfl
    obtain ⟨x,k,rfl,hx,hk,hd,q⟩:=h
    have hr1:Room 1 _:=hr.mono (by omega)
    have hr2:Room 2 _:=hr.mono (by omega)
    have hr3:Room 3 _:=hr.mono (by omega)
    have hr4:Room 4 _:=hr.mono (by omega)
    have hr5:Room (3 * n + 5) _:=hr.mono (by omega)
    have hr6:Room (3 * n + 6) _:=hr.mono (by omega)
    refine ⟨_,pss_cons (ps_if (pt_val (pe_callB call_isi rfl mi bootIsi (pa_cons (pv 0) (pa_cons (pe_bltn rfl ms bootStr (v:=.ty "str") rfl) pa_nil)))) (pss_one (ps_ret (pe_tup (pa_cons pe_str (pa_cons (pe_call GN hr2 rfl mN kN bN .nil pass0 (pa_cons (pv 0) pa_nil)) pa_nil))))) pss_nil)
      (pss_cons (ps_set (i:=1) scExOf.nd rfl (Or.inl rfl) (pe_call GA hr2 rfl mA kA bA .nil pass0 (pa_cons (pv 0) pa_nil)))
      (pss_cons (ps_if (pt_cmpR op_eq (pv 1) pe_str (nomark _)) (pss_one (ps_ret (pe_call GL hr4 rfl mL kL bL .nil pass0 (pa_cons (pv 0) pa_nil)))) pss_nil)
      (pss_cons (ps_if (pt_cmpR op_in_seq (pv 1) (pe_glob rfl mO (v:=.ref pO) rfl) (by with_unfolding_all rfl)) (pss_cons (ps_expr (pe_call GB hr1 rfl mB kB bB .nil pass0 (pa_cons (pv 0) (pa_cons pe_int (pa_cons pe_int pa_nil)))))
        (pss_one (ps_ret (pe_op op_catT (pe_tup (pa_cons pe_str (pa_cons (pv 1) (pa_cons (pe_call GS hr3 rfl mS kS bS .nil pass0 (pa_cons (pe_ix ix_tup (pv 0) pe_int (fun _ _ => rfl)) pa_nil)) pa_nil)))) (pe_call GXn hr6 rfl mX kX bX .nil pass0 (pa_cons (pe_slice sl_tup (pv 0) (po_some pe_int) po_none) pa_nil)))))) pss_nil)
      (pss_cons (ps_if (pt_cmpR op_in_seq (pv 1) (pe_glob rfl mT (v:=.ref pT) rfl) (by with_unfolding_all rfl)) (pss_cons (ps_expr (pe_call GB hr1 rfl mB kB bB .nil pass0 (pa_cons (pv 0) (pa_cons pe_int (pa_cons pe_int pa_nil)))))
        (pss_one (ps_ret (pe_op op_catT (pe_tup (pa_cons pe_str (pa_cons (pv 1) pa_nil))) (pe_call GXn hr6 rfl mX kX bX .nil pass0 (pa_cons (pe_slice sl_tup (pv 0) (po_some pe_int) po_none) pa_nil)))))) pss_nil)
      (pss_cons (ps_if (pt_cmpR op_eq (pv 1) pe_str (nomark _)) (pss_cons (ps_expr (pe_call GB hr1 rfl mB kB bB .nil pass0 (pa_cons (pv 0) (pa_cons pe_int (pa_cons pe_int pa_nil)))))
        (pss_one (ps_ret (pe_tup (pa_cons pe_str (pa_cons (pe_call GS hr3 rfl mS kS bS .nil pass0 (pa_cons (pe_ix ix_tup (pv 0) pe_int (fun _ _ => rfl)) pa_nil)) (pa_cons (pe_call IH hr5 rfl mF kF bF .nil pass0 (pa_cons (pe_ix ix_tup (pv 0) pe_int (fun _ _ => rfl)) pa_nil)) pa_nil))))))) pss_nil)
      (pss_cons (ps_if (pt_cmpR op_eq (pv 1) pe_str (nomark _)) (pss_cons (ps_expr (pe_call GB hr1 rfl mB kB bB .nil pass0 (pa_cons (pv 0) (pa_cons pe_int (pa_cons pe_int pa_nil)))))
        (pss_one (ps_ret (pe_op op_catT (pe_tup (pa_cons pe_str (pa_cons (pe_call GN hr2 rfl mN kN bN .nil pass0 (pa_cons (pe_ix ix_tup (pv 0) pe_int (fun _ _ => rfl)) pa_nil)) pa_nil))) (pe_call GXn hr6 rfl mX kX bX .nil pass0 (pa_cons (pe_slice sl_tup (pv 0) (po_some pe_int) po_none) pa_nil)))))) pss_nil)
      (pss_cons (ps_if (pt_cmp (pc_dinK (pv 1) (pe_glob rfl mB2 (v:=.ref pB) rfl)) (by with_unfolding_all rfl)) (pss_cons (ps_set (i:=2) scExOf.nd rfl (Or.inl rfl) (pe_dgetK (pe_glob rfl mB2 (v:=.ref pB) rfl) (pv 1) (fun _ _ => rfl)))
        (pss_cons (ps_expr (pe_call GB hr1 rfl mB kB bB .nil pass0 (pa_cons (pv 0) (pa_cons (pe_op op_add pe_int (pv 2)) (pa_cons (pe_op op_add pe_int (pv 2)) pa_nil)))))
        (pss_one (ps_ret (pe_op op_catT (pe_tup (pa_cons (pv 1) pa_nil)) (pe_call GXn hr6 rfl mX kX bX .nil pass0 (pa_cons (pe_slice sl_tup (pv 0) (po_some pe_int) po_none) pa_nil))))))) pss_nil)
      (pss_one (ps_ret (pe_call GCn hr rfl mC kC bC .nil pass0 (pa_cons (pv 0) pa_nil))))))))))),?_⟩
    cases k with
    | var z =>
      cases hx
      refine ⟨_,rfl,.str z,"str",_,true,rfl,.str _,kit_ss K,true,rfl,iteT ?_⟩
      exact ⟨_,rfl,z,rfl,hk,fun H2 s2 => ⟨(by show 2 ≤ sizeLine; decide),fun p hp => q _ _ (s2.trans (same_new hp _)) (.var upd_same)⟩⟩
    | node fm es =>
      cases hx with
      | @n a xs _ ha hxs =>
        obtain ⟨ys,rfl,hys⟩:=trs_split hxs
        obtain ⟨hf,hes⟩:=hk
        have yl:=hys.length
        rw [trs_len] at yl
        have hd':∀ e ∈ es,e.dp < n:=fun e he => by
          have h1:1 + edps es < n + 1:=hd
          have h2:=edps_mem he
          omega
        have h4:=fits_le hf
        refine ⟨_,rfl,.ref a,"str",_,false,rfl,.tup ha,kit_ts K,false,rfl,iteF ?_⟩
        cases fm with
        | lit v b =>
          obtain ⟨h0,h1,h2⟩:=hf
          obtain rfl:es = []:=List.eq_nil_of_length_eq_zero h0
          obtain rfl:ys = []:=List.eq_nil_of_length_eq_zero yl
          refine ⟨_,rfl,a,"lit",_,rfl,ha,_,rfl,rfl,_,rfl,ite2 (fun _ => ?_) (fun c => absurd (by decide +kernel) c)⟩
          exact ⟨_,rfl,a,v,b,rfl,ha,h1,h2,q⟩
        | op o b =>
          obtain ⟨h0,h1,h2⟩:=hf
          obtain ⟨o1,o2⟩:=ops_in h1
          refine ⟨_,rfl,a,o,_,rfl,ha,_,rfl,rfl,_,rfl,ite2 (fun c => absurd c (str_no o2)) (fun _ => ?_)⟩
          refine ⟨_,rfl,pO,opsV,rfl,.inr (hO _),rfl,flat_ops,_,rfl,ite2 (fun _ => ?_) (fun c => absurd o1 c)⟩
          refine ⟨_,rfl,a,_,4,.int 4,rfl,ha,by show (4:Int) ≤ ((ys.length + 2:Nat):Int); omega,.inr ⟨4,rfl,by show ((ys.length + 2:Nat):Int) ≤ 4; omega⟩,?_⟩
          refine ⟨_,rfl,_,rfl,a,_,_,.str (numS b),rfl,rfl,SqT.of ha,?_,b,rfl,h2,fun H2 s1 => ⟨(by show 3 ≤ sizeLine; decide),fun p2 hp2 => ?_⟩⟩
          · exact (atI_nat (j:=1) rfl:atI (V.str o :: V.str (numS b) :: ys) ((1:Nat):Int) = _)
          have s2:=same_new hp2 (.tup [.str "op",.str o,.int b])
          have haa:=s2 _ _ (s1 _ _ ha)
          refine ⟨_,rfl,_,rfl,a,_,rfl,SqT.of haa,not_whole (k:=2) (by decide) (by simp [Fm.words]),fun p5 hp5 => ?_⟩
          have s5:=same_new hp5 (.tup (cutV (.str o :: .str (numS b) :: ys) (some 2) none))
          have e5:cutV (.str o :: .str (numS b) :: ys) (some 2) none = ys:=cut_from _ 2
          have h5:∀ Hq:Hp,(upd Hq p5 (.tup (cutV (.str o :: .str (numS b) :: ys) (some 2) none))) p5 = some (.tup ys):=fun Hq => by rw [upd_same,e5]
          refine ⟨p5,ys,es,rfl,h5 _,hys.same (s1.trans (s2.trans s5)),hes,hd',h4,fun H6 p6 zs s6 hp6 hzs => ?_⟩
          have zl:=hzs.length
          refine ⟨p2,p6,_,_,rfl,rfl,SqT.of (s6 _ _ (s5 _ _ upd_same)),SqT.of hp6,by simp,small (by show 3 + _ ≤ 1000; omega),(fun e => by rw [e] at zl; exact absurd zl (by show ¬ (0 = es.length); omega)),fun _ p8 hp8 => ?_⟩
          exact q _ _ (s1.trans (s2.trans (s5.trans (s6.trans (same_new hp8 _))))) (.node rfl upd_same (hzs.same (same_new hp8 _)))
        | test o =>
          obtain ⟨h0,h1⟩:=hf
          obtain ⟨o1,o2,o3⟩:=tst_in h1
          refine ⟨_,rfl,a,o,_,rfl,ha,_,rfl,rfl,_,rfl,ite2 (fun c => absurd c (str_no o3)) (fun _ => ?_)⟩
          refine ⟨_,rfl,pO,opsV,rfl,.inr (hO _),rfl,flat_ops,_,rfl,ite2 (fun c => absurd c (no_of o2)) (fun _ => ?_)⟩
          refine ⟨_,rfl,pT,tstV,rfl,.inr (hT _),rfl,flat_tst,_,rfl,ite2 (fun _ => ?_) (fun c => absurd o1 c)⟩
          refine ⟨_,rfl,a,_,3,.int 3,rfl,ha,by show (3:Int) ≤ ((ys.length + 1:Nat):Int); omega,.inr ⟨3,rfl,by show ((ys.length + 1:Nat):Int) ≤ 3; omega⟩,?_⟩
          refine ⟨_,rfl,(by show 2 ≤ sizeLine; decide),fun p2 hp2 => ?_⟩
          have s2:=same_new hp2 (.tup [.str "test",.str o])
          have haa:=s2 _ _ ha
          refine ⟨_,rfl,_,rfl,a,_,rfl,SqT.of haa,not_whole (k:=1) (by decide) (by simp [Fm.words]),fun p5 hp5 => ?_⟩
          have s5:=same_new hp5 (.tup (cutV (.str o :: ys) (some 1) none))
          have e5:cutV (.str o :: ys) (some 1) none = ys:=cut_from _ 1
          have h5:∀ Hq:Hp,(upd Hq p5 (.tup (cutV (.str o :: ys) (some 1) none))) p5 = some (.tup ys):=fun Hq => by rw [upd_same,e5]
          refine ⟨p5,ys,es,rfl,h5 _,hys.same (s2.trans s5),hes,hd',h4,fun H6 p6 zs s6 hp6 hzs => ?_⟩
          have zl:=hzs.length
          refine ⟨p2,p6,_,_,rfl,rfl,SqT.of (s6 _ _ (s5 _ _ upd_same)),SqT.of hp6,by simp,small (by show 2 + _ ≤ 1000; omega),(fun e => by rw [e] at zl; exact absurd zl (by show ¬ (0 = es.length); omega)),fun _ p8 hp8 => ?_⟩
          exact q _ _ (s2.trans (s5.trans (s6.trans (same_new hp8 _)))) (.node rfl upd_same (hzs.same (same_new hp8 _)))
        | as_ b =>
          obtain ⟨h0,h2⟩:=hf
          match es,hes,hd',h0,hys,q with
          | [e1],hes,hd',_,hys,q =>
            cases hys with
            | @cons y1 _ ys1 _ hy1 hy2 =>
              cases hy2
              refine ⟨_,rfl,a,"as",_,rfl,ha,_,rfl,rfl,_,rfl,ite2 (fun c => absurd c (by decide +kernel)) (fun _ => ?_)⟩
              refine ⟨_,rfl,pO,opsV,rfl,.inr (hO _),rfl,flat_ops,_,rfl,ite2 (fun c => absurd c (by decide +kernel)) (fun _ => ?_)⟩
              refine ⟨_,rfl,pT,tstV,rfl,.inr (hT _),rfl,flat_tst,_,rfl,ite2 (fun c => absurd c (by decide +kernel)) (fun _ => ?_)⟩
              refine ⟨_,rfl,rfl,_,rfl,ite2 (fun _ => ?_) (fun c => absurd (by decide +kernel) c)⟩
              refine ⟨_,rfl,a,_,3,.int 3,rfl,ha,by show (3:Int) ≤ 3; decide,.inr ⟨3,rfl,by show (3:Int) ≤ 3; decide⟩,?_⟩
              refine ⟨_,rfl,a,_,_,.str (numS b),rfl,rfl,SqT.of ha,rfl,b,rfl,h2,fun H2 s1 => ?_⟩
              refine ⟨_,rfl,a,_,_,y1,rfl,rfl,SqT.of (s1 _ _ ha),rfl,y1,e1,rfl,hy1.same s1,hes.1,hd' e1 (.head _),fun H3 v3 s3 hv3 => ⟨(by show 3 ≤ sizeLine; decide),fun p2 hp2 => ?_⟩⟩
              exact q _ _ (s1.trans (s3.trans (same_new hp2 _))) (.node (xs:=[v3]) rfl upd_same (.cons (hv3.same (same_new hp2 _)) .nil))
        | let_ z =>
          obtain ⟨h0,h2⟩:=hf
          refine ⟨_,rfl,a,"let",_,rfl,ha,_,rfl,rfl,_,rfl,ite2 (fun c => absurd c (by decide +kernel)) (fun _ => ?_)⟩
          refine ⟨_,rfl,pO,opsV,rfl,.inr (hO _),rfl,flat_ops,_,rfl,ite2 (fun c => absurd c (by decide +kernel)) (fun _ => ?_)⟩
          refine ⟨_,rfl,pT,tstV,rfl,.inr (hT _),rfl,flat_tst,_,rfl,ite2 (fun c => absurd c (by decide +kernel)) (fun _ => ?_)⟩
          refine ⟨_,rfl,rfl,_,rfl,ite2 (fun c => absurd c (by decide +kernel)) (fun _ => ?_)⟩
          refine ⟨_,rfl,rfl,_,rfl,ite2 (fun _ => ?_) (fun c => absurd (by decide +kernel) c)⟩
          refine ⟨_,rfl,a,_,4,.int 4,rfl,ha,by show (4:Int) ≤ ((ys.length + 2:Nat):Int); omega,.inr ⟨4,rfl,by show ((ys.length + 2:Nat):Int) ≤ 4; omega⟩,?_⟩
          refine ⟨_,rfl,a,_,_,.str z,rfl,rfl,SqT.of ha,?_,z,rfl,h2,fun H2 s1 => ⟨(by show 2 ≤ sizeLine; decide),fun p2 hp2 => ?_⟩⟩
          · exact (atI_nat (j:=1) rfl:atI (V.str "let" :: V.str z :: ys) ((1:Nat):Int) = _)
          have s2:=same_new hp2 (.tup [.str "let",.str z])
          have haa:=s2 _ _ (s1 _ _ ha)
          refine ⟨_,rfl,_,rfl,a,_,rfl,SqT.of haa,not_whole (k:=2) (by decide) (by simp [Fm.words]),fun p5 hp5 => ?_⟩
          have s5:=same_new hp5 (.tup (cutV (.str "let" :: .str z :: ys) (some 2) none))
          have e5:cutV (.str "let" :: .str z :: ys) (some 2) none = ys:=cut_from _ 2
          have h5:∀ Hq:Hp,(upd Hq p5 (.tup (cutV (.str "let" :: .str z :: ys) (some 2) none))) p5 = some (.tup ys):=fun Hq => by rw [upd_same,e5]
          refine ⟨p5,ys,es,rfl,h5 _,hys.same (s1.trans (s2.trans s5)),hes,hd',h4,fun H6 p6 zs s6 hp6 hzs => ?_⟩
          have zl:=hzs.length
          refine ⟨p2,p6,_,_,rfl,rfl,SqT.of (s6 _ _ (s5 _ _ upd_same)),SqT.of hp6,by simp,small (by show 2 + _ ≤ 1000; omega),(fun e => by rw [e] at zl; exact absurd zl (by show ¬ (0 = es.length); omega)),fun _ p8 hp8 => ?_⟩
          exact q _ _ (s1.trans (s2.trans (s5.trans (s6.trans (same_new hp8 _))))) (.node rfl upd_same (hzs.same (same_new hp8 _)))
        | br z =>
          obtain ⟨o1,o2,o3,o4,o5,o6,o7,o8⟩:=br_in hf
          refine ⟨_,rfl,a,z,_,rfl,ha,_,rfl,rfl,_,rfl,ite2 (fun c => absurd c (str_no o3)) (fun _ => ?_)⟩
          refine ⟨_,rfl,pO,opsV,rfl,.inr (hO _),rfl,flat_ops,_,rfl,ite2 (fun c => absurd c (no_of o2)) (fun _ => ?_)⟩
          refine ⟨_,rfl,pT,tstV,rfl,.inr (hT _),rfl,flat_tst,_,rfl,ite2 (fun c => absurd c (no_of o1)) (fun _ => ?_)⟩
          refine ⟨_,rfl,rfl,_,rfl,ite2 (fun c => absurd c (str_no o4)) (fun _ => ?_)⟩
          refine ⟨_,rfl,rfl,_,rfl,ite2 (fun c => absurd c (str_no o5)) (fun _ => ?_)⟩
          refine ⟨_,rfl,pB,brs,z,rfl,hB,rfl,_,rfl,ite2 (fun _ => ?_) (fun c => absurd (by rw [o6]; rfl) c)⟩
          refine ⟨_,rfl,pB,brs,z,_,rfl,hB,rfl,o6,?_⟩
          refine ⟨_,rfl,_,rfl,_,_,rfl,rfl,_,rfl,_,_,rfl,rfl,a,_,_,_,rfl,ha,by show (1:Int) + (es.length:Int) ≤ ((ys.length + 1:Nat):Int); omega,.inr ⟨_,rfl,by show ((ys.length + 1:Nat):Int) ≤ (1:Int) + (es.length:Int); omega⟩,?_⟩
          refine ⟨_,rfl,(by show 1 ≤ sizeLine; decide),fun p2 hp2 => ?_⟩
          have s2:=same_new hp2 (.tup [.str z])
          have haa:=s2 _ _ ha
          refine ⟨_,rfl,_,rfl,a,_,rfl,SqT.of haa,not_whole (k:=1) (by decide) (by simp [Fm.words]),fun p5 hp5 => ?_⟩
          have s5:=same_new hp5 (.tup (cutV (.str z :: ys) (some 1) none))
          have e5:cutV (.str z :: ys) (some 1) none = ys:=cut_from _ 1
          have h5:∀ Hq:Hp,(upd Hq p5 (.tup (cutV (.str z :: ys) (some 1) none))) p5 = some (.tup ys):=fun Hq => by rw [upd_same,e5]
          refine ⟨p5,ys,es,rfl,h5 _,hys.same (s2.trans s5),hes,hd',h4,fun H6 p6 zs s6 hp6 hzs => ?_⟩
          have zl:=hzs.length
          refine ⟨p2,p6,_,_,rfl,rfl,SqT.of (s6 _ _ (s5 _ _ upd_same)),SqT.of hp6,by simp,small (by show 1 + _ ≤ 1000; omega),(fun e => by rw [e] at zl; exact absurd zl (by show ¬ (0 = es.length); omega)),fun _ p8 hp8 => ?_⟩
          exact q _ _ (s2.trans (s5.trans (s6.trans (same_new hp8 _)))) (.node rfl upd_same (hzs.same (same_new hp8 _)))
        | call b t =>
          obtain ⟨_,h1,h2⟩:=hf
          obtain ⟨o1,o2,o3,o4,o5,o6⟩:=call_in (q:=b) h1
          refine ⟨_,rfl,a,nearW b t,_,rfl,ha,_,rfl,rfl,_,rfl,ite2 (fun c => absurd c (str_no o3)) (fun _ => ?_)⟩
          refine ⟨_,rfl,pO,opsV,rfl,.inr (hO _),rfl,flat_ops,_,rfl,ite2 (fun c => absurd c (no_of o2)) (fun _ => ?_)⟩
          refine ⟨_,rfl,pT,tstV,rfl,.inr (hT _),rfl,flat_tst,_,rfl,ite2 (fun c => absurd c (no_of o1)) (fun _ => ?_)⟩
          refine ⟨_,rfl,rfl,_,rfl,ite2 (fun c => absurd c (str_no o4)) (fun _ => ?_)⟩
          refine ⟨_,rfl,rfl,_,rfl,ite2 (fun c => absurd c (str_no o5)) (fun _ => ?_)⟩
          refine ⟨_,rfl,pB,brs,_,rfl,hB,rfl,_,rfl,ite2 (fun c => absurd c (by rw [o6]; decide)) (fun _ => ?_)⟩
          exact ⟨_,rfl,a,b,t,ys,es,rfl,ha,hys,⟨h1,h2⟩,hes,hd',h4,q⟩
end
end K17
namespace K17
open PySem L2
noncomputable abbrev ahs:List (Str × Int):=[("op",3),("test",2),("as",2),("let",2),("if",1),("two",1),("first",1),("second",1)]
noncomputable abbrev lvV:List V:=[.str "lit",.str "var"]
theorem flat_lvV:lvV.all flatV = true:=by decide +kernel
noncomputable def spWithin:Sp:=fun vs H Q _ => ∃ (x:V) (f:Fm) (es:List Ex),vs = [x] ∧ ExAt H x (.node f es) ∧ f.fits es.length ∧ ∀ H' (r:Addr) xs,Same H H' → H' r = some (.tup xs) → ExsAt H' xs es → Q (.ref r) H'
noncomputable def spWords:Sp:=fun vs H Q _ => ∃ (x:V) (f:Fm) (es:List Ex),vs = [x] ∧ ExAt H x (.node f es) ∧ f.fits es.length ∧ ∀ H' (r:Addr),Same H H' → H' r = some (.tup (f.words.map V.str)) → Q (.ref r) H'
noncomputable def spExTree (K:PySem.W.Frag) (n:Nat):Sp:=fun vs H Q _ => ∃ (x:V) (e:Ex),vs = [x] ∧ ExAt H x e ∧ e.ok ∧ e.dp < n ∧ ∀ H' v,Same H H' → TrAt K H' v e.tr → Q v H'
theorem ahs_vals {f:Fm} {k:Nat} (h:f.fits k) (hc:f.isCall = false) (hl:∀ a b,f ≠ .lit a b):∃ (z:Str) (r:List V),f.vals = .str z :: r ∧ inV (.str z) lvV = false ∧ z ≠ "call" ∧ numAtS ahs z = some ((r.length + 1:Nat):Int):=by
  cases f with
  | lit a b => exact absurd rfl (hl a b)
  | op o n => exact ⟨_,_,rfl,by decide +kernel,by decide +kernel,rfl⟩
  | test o => exact ⟨_,_,rfl,by decide +kernel,by decide +kernel,rfl⟩
  | as_ n => exact ⟨_,_,rfl,by decide +kernel,by decide +kernel,rfl⟩
  | let_ s => exact ⟨_,_,rfl,by decide +kernel,by decide +kernel,rfl⟩
  | br z => rcases h with ⟨rfl,_⟩ | ⟨rfl,_⟩ | ⟨rfl,_⟩ | ⟨rfl,_⟩ <;> exact ⟨_,_,rfl,by decide +kernel,by decide +kernel,by decide +kernel⟩
  | call a b => cases hc
theorem node_head {H:Hp} {x:V} {f:Fm} {es:List Ex} (h:ExAt H x (.node f es)) (hf:f.fits es.length):∃ (p:Addr) (z:Str) (r:List V),x = .ref p ∧ H p = some (.tup (.str z :: r)) ∧ z ≠ "var":=by
  cases h with
  | @call p _ _ _ _ _ hp => exact ⟨p,_,_,rfl,hp,by decide +kernel⟩
  | @node p _ _ _ hc hp =>
    cases f with
    | lit a b => exact ⟨p,_,_,rfl,hp,by decide +kernel⟩
    | op o n => exact ⟨p,_,_,rfl,hp,by decide +kernel⟩
    | test o => exact ⟨p,_,_,rfl,hp,by decide +kernel⟩
    | as_ n => exact ⟨p,_,_,rfl,hp,by decide +kernel⟩
    | let_ s => exact ⟨p,_,_,rfl,hp,by decide +kernel⟩
    | br z => rcases hf with ⟨rfl,_⟩ | ⟨rfl,_⟩ | ⟨rfl,_⟩ | ⟨rfl,_⟩ <;> exact ⟨p,_,_,rfl,hp,by decide +kernel⟩
    | call a b => cases hc
theorem log_small {n:Nat} (h:n ≤ big):(n:Int).natAbs.log2 < 1920:=by
  by_cases z:n = 0
  · rw [z]
    decide
  · exact (Nat.log2_lt (by omega)).mpr (Nat.lt_of_le_of_lt (show (n:Int).natAbs ≤ 1000000000000000000 by have:n ≤ 1000000000000000000:=h; omega) (by decide))
section
variable {P:Program} {w:World} {K:PySem.W.Frag} {mg:Str → Option Value} {base:Heap}
theorem scWithin:FnScope ["expression","form"] ["expression"] (defScope sWithin):=⟨rfl,rfl,rfl,by decide +kernel,rfl,by decide +kernel,by decide +kernel⟩
set_option maxHeartbeats 0 in
theorem ok_within {f pA:Addr} {fd:FuncData} (F:Fun K "within" "within" sWithin f fd) (mA:mg "AHEAD" = some (.ref pA)) (hA:DKt K w pA ahs):FnOk P w K mg base CX0 1 f fd ["expression"] spWithin:=by
  refine F.ok scWithin (fun vs H Q E h => ?_) (fun cdv A outer s H vs Q E hr h => ?_)
  · obtain ⟨x,fm,es,rfl,_⟩:=h
    rfl
  obtain ⟨x,fm,es,rfl,hx,hf,q⟩:=h
  refine ⟨_,pss_cons (ps_set (i:=1) scWithin.nd rfl (Or.inl rfl) (pe_ix ix_tup (pv 0) pe_int (fun _ _ => rfl)))
    (pss_cons (ps_if (pt_cmpR op_in_seq (pv 1) (pe_tup (pa_cons pe_str (pa_cons pe_str pa_nil))) (by with_unfolding_all rfl)) (pss_one (ps_ret (pe_tup pa_nil))) pss_nil)
    (pss_cons (ps_if (pt_cmpR op_eq (pv 1) pe_str (nomark _)) (pss_one (ps_ret (pe_ix ix_tup (pv 0) pe_int (fun _ _ => rfl)))) pss_nil)
    (pss_one (ps_ret (pe_slice sl_tup (pv 0) (po_some (pe_dgetK (pe_glob rfl mA (v:=.ref pA) rfl) (pv 1) (fun _ _ => rfl))) po_none))))),?_⟩
  cases hx with
  | @call p p2 a t xs _ hp hp2 hxs =>
    refine ⟨_,rfl,p,_,_,.str "call",rfl,rfl,SqT.of hp,rfl,_,rfl,(by show 2 ≤ sizeLine; decide),fun p3 hp3 => ?_⟩
    have s3:=same_new hp3 (.tup lvV)
    refine ⟨p3,lvV,rfl,.inr (SqT.of upd_same),rfl,flat_lvV,_,rfl,ite2 (fun c => absurd c (by decide +kernel)) (fun _ => ?_)⟩
    refine ⟨_,rfl,rfl,_,rfl,ite2 (fun _ => ?_) (fun c => absurd (by decide +kernel) c)⟩
    exact ⟨_,rfl,p,_,_,.ref p2,rfl,rfl,SqT.of (s3 _ _ hp),rfl,q _ _ _ s3 (s3 _ _ hp2) (hxs.same s3)⟩
  | @node p _ xs _ hc hp hxs =>
    by_cases hl:∃ a b,fm = .lit a b
    · obtain ⟨a,b,rfl⟩:=hl
      obtain ⟨h0,_⟩:=hf
      obtain rfl:es = []:=List.eq_nil_of_length_eq_zero h0
      cases hxs
      refine ⟨_,rfl,p,_,_,.str "lit",rfl,rfl,SqT.of hp,rfl,_,rfl,(by show 2 ≤ sizeLine; decide),fun p3 hp3 => ?_⟩
      have s3:=same_new hp3 (.tup lvV)
      refine ⟨p3,lvV,rfl,.inr (SqT.of upd_same),rfl,flat_lvV,_,rfl,ite2 (fun _ => ?_) (fun c => absurd (by decide +kernel) c)⟩
      exact ⟨(by show 0 ≤ sizeLine; decide),fun p4 hp4 => q _ p4 [] (s3.trans (same_new hp4 _)) upd_same .nil⟩
    · obtain ⟨z,r,e1,e2,e3,e4⟩:=ahs_vals hf hc fun a b e => hl ⟨a,b,e⟩
      rw [e1] at hp
      refine ⟨_,rfl,p,_,_,.str z,rfl,rfl,SqT.of hp,?_,_,rfl,(by show 2 ≤ sizeLine; decide),fun p3 hp3 => ?_⟩
      · exact (atI_nat (j:=0) rfl:atI (V.str z :: (r ++ xs)) ((0:Nat):Int) = _)
      have s3:=same_new hp3 (.tup lvV)
      refine ⟨p3,lvV,rfl,.inr (SqT.of upd_same),rfl,flat_lvV,_,rfl,ite2 (fun c => absurd c (no_of e2)) (fun _ => ?_)⟩
      refine ⟨_,rfl,rfl,_,rfl,ite2 (fun c => absurd c (str_no e3)) (fun _ => ?_)⟩
      refine ⟨_,rfl,_,rfl,pA,ahs,z,_,rfl,hA,rfl,e4,_,rfl,p,_,rfl,SqT.of (s3 _ _ hp),not_whole (by omega) (by simp),fun p5 hp5 => ?_⟩
      have e5:cutV (V.str z :: r ++ xs) (some ((r.length + 1:Nat):Int)) none = xs:=by
        rw [cut_from]
        simp
      have h5:∀ Hq:Hp,(upd Hq p5 (.tup (cutV (V.str z :: r ++ xs) (some ((r.length + 1:Nat):Int)) none))) p5 = some (.tup xs):=fun Hq => by rw [upd_same,e5]
      exact q _ p5 xs (s3.trans (same_new hp5 _)) (h5 _) (hxs.same (s3.trans (same_new hp5 _)))
theorem scWords:FnScope ["expression","form"] ["expression"] (defScope sWords):=⟨rfl,rfl,rfl,by decide +kernel,rfl,by decide +kernel,by decide +kernel⟩
set_option maxHeartbeats 0 in
theorem ok_words {f fn:Addr} {fd fdn:FuncData} (F:Fun K "words_ahead" "words_ahead" sWords f fd)
    (GN:FnOk P w K mg base CX0 1 fn fdn ["part","name"] spNearFarW) (bN:Binds K fdn ["part","name"] []) (kN:PySem.W.keepIn K (.ref fn) = true) (mN:mg "near_or_far_word" = some (.ref fn)) (ms:mg "str" = none):FnOk P w K mg base CX0 2 f fd ["expression"] spWords:=by
  refine F.ok scWords (fun vs H Q E h => ?_) (fun cdv A outer s H vs Q E hr h => ?_)
  · obtain ⟨x,fm,es,rfl,_⟩:=h
    rfl
  obtain ⟨x,fm,es,rfl,hx,hf,q⟩:=h
  refine ⟨_,pss_cons (ps_set (i:=1) scWords.nd rfl (Or.inl rfl) (pe_ix ix_tup (pv 0) pe_int (fun _ _ => rfl)))
    (pss_cons (ps_if (pt_cmpR op_eq (pv 1) pe_str (nomark _)) (pss_one (ps_ret (pe_tup (pa_cons pe_str (pa_cons (pe_callTy call_str_int rfl ms bootStr (pa_cons (pe_ix ix_tup (pv 0) pe_int (fun _ _ => rfl)) pa_nil)) (pa_cons (pe_callTy call_str_int rfl ms bootStr (pa_cons (pe_ix ix_tup (pv 0) pe_int (fun _ _ => rfl)) pa_nil)) pa_nil)))))) pss_nil)
    (pss_cons (ps_if (pt_cmpR op_eq (pv 1) pe_str (nomark _)) (pss_one (ps_ret (pe_tup (pa_cons (pe_ix ix_tup (pv 0) pe_int (fun _ _ => rfl)) (pa_cons (pe_callTy call_str_int rfl ms bootStr (pa_cons (pe_ix ix_tup (pv 0) pe_int (fun _ _ => rfl)) pa_nil)) pa_nil))))) pss_nil)
    (pss_cons (ps_if (pt_cmpR op_eq (pv 1) pe_str (nomark _)) (pss_one (ps_ret (pe_tup (pa_cons (pe_ix ix_tup (pv 0) pe_int (fun _ _ => rfl)) pa_nil)))) pss_nil)
    (pss_cons (ps_if (pt_cmpR op_eq (pv 1) pe_str (nomark _)) (pss_one (ps_ret (pe_tup (pa_cons pe_str (pa_cons (pe_callTy call_str_int rfl ms bootStr (pa_cons (pe_ix ix_tup (pv 0) pe_int (fun _ _ => rfl)) pa_nil)) pa_nil))))) pss_nil)
    (pss_cons (ps_if (pt_cmpR op_eq (pv 1) pe_str (nomark _)) (pss_one (ps_ret (pe_tup (pa_cons pe_str (pa_cons (pe_ix ix_tup (pv 0) pe_int (fun _ _ => rfl)) pa_nil))))) pss_nil)
    (pss_cons (ps_if (pt_cmpR op_eq (pv 1) pe_str (nomark _)) (pss_one (ps_ret (pe_tup (pa_cons (pe_call GN hr rfl mN kN bN .nil pass0 (pa_cons (pe_ix ix_tup (pv 0) pe_int (fun _ _ => rfl)) (pa_cons (pe_ix ix_tup (pv 0) pe_int (fun _ _ => rfl)) pa_nil))) pa_nil)))) pss_nil)
    (pss_one (ps_ret (pe_tup (pa_cons (pv 1) pa_nil)))))))))),?_⟩
  have at0:∀ (v:V) (r:List V),atI (v :: r) 0 = some v:=fun v r => (atI_nat (j:=0) rfl:atI (v :: r) ((0:Nat):Int) = _)
  have at1:∀ (v u:V) (r:List V),atI (v :: u :: r) 1 = some u:=fun v u r => (atI_nat (j:=1) rfl:atI (v :: u :: r) ((1:Nat):Int) = _)
  have at2:∀ (v u t:V) (r:List V),atI (v :: u :: t :: r) 2 = some t:=fun v u t r => (atI_nat (j:=2) rfl:atI (v :: u :: t :: r) ((2:Nat):Int) = _)
  cases hx with
  | @call p p2 a t xs _ hp hp2 hxs =>
    obtain ⟨_,h1,h2⟩:=hf
    refine ⟨_,rfl,p,_,_,.str "call",rfl,rfl,SqT.of hp,rfl,?_⟩
    refine ⟨_,rfl,rfl,_,rfl,ite2 (fun c => absurd c (by decide +kernel)) (fun _ => ?_)⟩
    refine ⟨_,rfl,rfl,_,rfl,ite2 (fun c => absurd c (by decide +kernel)) (fun _ => ?_)⟩
    refine ⟨_,rfl,rfl,_,rfl,ite2 (fun c => absurd c (by decide +kernel)) (fun _ => ?_)⟩
    refine ⟨_,rfl,rfl,_,rfl,ite2 (fun c => absurd c (by decide +kernel)) (fun _ => ?_)⟩
    refine ⟨_,rfl,rfl,_,rfl,ite2 (fun c => absurd c (by decide +kernel)) (fun _ => ?_)⟩
    refine ⟨_,rfl,rfl,_,rfl,ite2 (fun _ => ?_) (fun c => absurd (by decide +kernel) c)⟩
    have l1:a.length ≤ 1000:=by
      rcases h2 with e | e
      · rw [e]; decide +kernel
      · have:=(name_facts e).2.1; omega
    have l2:t.length ≤ 1000:=by have:=(name_facts h1).2.1; omega
    exact ⟨_,rfl,p,_,_,.str a,rfl,rfl,SqT.of hp,rfl,_,rfl,p,_,_,.str t,rfl,rfl,SqT.of hp,rfl,a,t,rfl,l1,l2,(by show 1 ≤ sizeLine; decide),fun p3 hp3 => q _ _ (same_new hp3 _) upd_same⟩
  | @node p _ xs _ hc hp hxs =>
    cases fm with
    | lit v b =>
      obtain ⟨_,h1,h2⟩:=hf
      refine ⟨_,rfl,p,_,_,.str "lit",rfl,rfl,SqT.of hp,at0 _ _,?_⟩
      refine ⟨_,rfl,rfl,_,rfl,ite2 (fun _ => ?_) (fun c => absurd (by decide +kernel) c)⟩
      exact ⟨_,rfl,p,_,_,.int v,rfl,rfl,SqT.of hp,at1 _ _ _,v,rfl,log_small (Nat.le_trans (Nat.le_of_lt h1) h2),_,rfl,p,_,_,.int b,rfl,rfl,SqT.of hp,at2 _ _ _ _,b,rfl,log_small h2,(by show 3 ≤ sizeLine; decide),fun p3 hp3 => q _ _ (same_new hp3 _) upd_same⟩
    | op o b =>
      obtain ⟨_,h1,_,h2⟩:=hf
      refine ⟨_,rfl,p,_,_,.str "op",rfl,rfl,SqT.of hp,at0 _ _,?_⟩
      refine ⟨_,rfl,rfl,_,rfl,ite2 (fun c => absurd c (by decide +kernel)) (fun _ => ?_)⟩
      refine ⟨_,rfl,rfl,_,rfl,ite2 (fun _ => ?_) (fun c => absurd (by decide +kernel) c)⟩
      exact ⟨_,rfl,p,_,_,.str o,rfl,rfl,SqT.of hp,at1 _ _ _,_,rfl,p,_,_,.int b,rfl,rfl,SqT.of hp,at2 _ _ _ _,b,rfl,log_small h2,(by show 2 ≤ sizeLine; decide),fun p3 hp3 => q _ _ (same_new hp3 _) upd_same⟩
    | test o =>
      refine ⟨_,rfl,p,_,_,.str "test",rfl,rfl,SqT.of hp,at0 _ _,?_⟩
      refine ⟨_,rfl,rfl,_,rfl,ite2 (fun c => absurd c (by decide +kernel)) (fun _ => ?_)⟩
      refine ⟨_,rfl,rfl,_,rfl,ite2 (fun c => absurd c (by decide +kernel)) (fun _ => ?_)⟩
      refine ⟨_,rfl,rfl,_,rfl,ite2 (fun _ => ?_) (fun c => absurd (by decide +kernel) c)⟩
      exact ⟨_,rfl,p,_,_,.str o,rfl,rfl,SqT.of hp,at1 _ _ _,(by show 1 ≤ sizeLine; decide),fun p3 hp3 => q _ _ (same_new hp3 _) upd_same⟩
    | as_ b =>
      obtain ⟨_,_,h2⟩:=hf
      refine ⟨_,rfl,p,_,_,.str "as",rfl,rfl,SqT.of hp,at0 _ _,?_⟩
      refine ⟨_,rfl,rfl,_,rfl,ite2 (fun c => absurd c (by decide +kernel)) (fun _ => ?_)⟩
      refine ⟨_,rfl,rfl,_,rfl,ite2 (fun c => absurd c (by decide +kernel)) (fun _ => ?_)⟩
      refine ⟨_,rfl,rfl,_,rfl,ite2 (fun c => absurd c (by decide +kernel)) (fun _ => ?_)⟩
      refine ⟨_,rfl,rfl,_,rfl,ite2 (fun _ => ?_) (fun c => absurd (by decide +kernel) c)⟩
      exact ⟨_,rfl,p,_,_,.int b,rfl,rfl,SqT.of hp,at1 _ _ _,b,rfl,log_small h2,(by show 2 ≤ sizeLine; decide),fun p3 hp3 => q _ _ (same_new hp3 _) upd_same⟩
    | let_ z =>
      refine ⟨_,rfl,p,_,_,.str "let",rfl,rfl,SqT.of hp,at0 _ _,?_⟩
      refine ⟨_,rfl,rfl,_,rfl,ite2 (fun c => absurd c (by decide +kernel)) (fun _ => ?_)⟩
      refine ⟨_,rfl,rfl,_,rfl,ite2 (fun c => absurd c (by decide +kernel)) (fun _ => ?_)⟩
      refine ⟨_,rfl,rfl,_,rfl,ite2 (fun c => absurd c (by decide +kernel)) (fun _ => ?_)⟩
      refine ⟨_,rfl,rfl,_,rfl,ite2 (fun c => absurd c (by decide +kernel)) (fun _ => ?_)⟩
      refine ⟨_,rfl,rfl,_,rfl,ite2 (fun _ => ?_) (fun c => absurd (by decide +kernel) c)⟩
      exact ⟨_,rfl,p,_,_,.str z,rfl,rfl,SqT.of hp,at1 _ _ _,(by show 2 ≤ sizeLine; decide),fun p3 hp3 => q _ _ (same_new hp3 _) upd_same⟩
    | br z =>
      have hz:z ≠ "lit" ∧ z ≠ "op" ∧ z ≠ "test" ∧ z ≠ "as" ∧ z ≠ "let" ∧ z ≠ "call":=by
        rcases hf with ⟨rfl,_⟩ | ⟨rfl,_⟩ | ⟨rfl,_⟩ | ⟨rfl,_⟩ <;> decide +kernel
      obtain ⟨z1,z2,z3,z4,z5,z6⟩:=hz
      refine ⟨_,rfl,p,_,_,.str z,rfl,rfl,SqT.of hp,at0 _ _,?_⟩
      refine ⟨_,rfl,rfl,_,rfl,ite2 (fun c => absurd c (str_no z1)) (fun _ => ?_)⟩
      refine ⟨_,rfl,rfl,_,rfl,ite2 (fun c => absurd c (str_no z2)) (fun _ => ?_)⟩
      refine ⟨_,rfl,rfl,_,rfl,ite2 (fun c => absurd c (str_no z3)) (fun _ => ?_)⟩
      refine ⟨_,rfl,rfl,_,rfl,ite2 (fun c => absurd c (str_no z4)) (fun _ => ?_)⟩
      refine ⟨_,rfl,rfl,_,rfl,ite2 (fun c => absurd c (str_no z5)) (fun _ => ?_)⟩
      refine ⟨_,rfl,rfl,_,rfl,ite2 (fun c => absurd c (str_no z6)) (fun _ => ?_)⟩
      exact ⟨_,rfl,(by show 1 ≤ sizeLine; decide),fun p3 hp3 => q _ _ (same_new hp3 _) upd_same⟩
    | call a b => cases hc
theorem scExTree:FnScope ["expression","trees","inner"] ["expression"] (defScope sExTree):=⟨rfl,rfl,rfl,by decide +kernel,rfl,by decide +kernel,by decide +kernel⟩
theorem words_at {H:Hp}:∀ ws:List Str,TrsAt K H (ws.map V.str) (ws.map Tr.w)
  | [] => .nil
  | w :: ws => .cons (.w w) (words_at ws)
set_option maxHeartbeats 0 in
theorem ok_exTree {f fn fi:Addr} {fd fdn fdi:FuncData} (F:Fun K "expression_tree" "expression_tree" sExTree f fd) (bF:Binds K fd ["expression"] []) (kF:PySem.W.keepIn K (.ref f) = true) (mF:mg "expression_tree" = some (.ref f))
    (GN:FnOk P w K mg base CX0 2 fn fdn ["expression"] spWords) (bN:Binds K fdn ["expression"] []) (kN:PySem.W.keepIn K (.ref fn) = true) (mN:mg "words_ahead" = some (.ref fn))
    (GI:FnOk P w K mg base CX0 1 fi fdi ["expression"] spWithin) (bI:Binds K fdi ["expression"] []) (kI:PySem.W.keepIn K (.ref fi) = true) (mI:mg "within" = some (.ref fi))
    (ml:mg "list" = none) (mt:mg "tuple" = none):∀ n,FnOk P w K mg base CX0 (n + 2) f fd ["expression"] (spExTree K n)
  | 0 => ⟨fun vs H Q E h => by obtain ⟨x,k,rfl,_⟩:=h; rfl,fun A outer s H args us vs Q E _ _ _ _ h => by
      obtain ⟨x,k,_,_,_,hd,_⟩:=h
      omega⟩
  | n + 1 => by
    have IH:=ok_exTree F bF kF mF GN bN kN mN GI bI kI mI ml mt n
    refine F.ok scExTree (fun vs H Q E h => ?_) (fun cdv A outer s H vs Q E hr h => ?_)
    · obtain ⟨x,k,rfl,_⟩:=h
      rfl
    obtain ⟨x,k,rfl,hx,hk,hd,q⟩:=h
    have hr1:Room 1 _:=hr.mono (by omega)
    have hr2:Room 2 _:=hr.mono (by omega)
    refine ⟨_,pss_cons (ps_if (pt_cmpR op_eq (pe_ix ix_tup (pv 0) pe_int (fun _ _ => rfl)) pe_str (nomark _)) (pss_one (ps_ret (pe_ix ix_tup (pv 0) pe_int (fun _ _ => rfl)))) pss_nil)
      (pss_cons (ps_set (i:=1) scExTree.nd rfl (Or.inl rfl) (pe_callTy call_list_of rfl ml bootList (pa_cons (pe_call GN hr2 rfl mN kN bN .nil pass0 (pa_cons (pv 0) pa_nil)) pa_nil)))
      (pss_cons (ps_for PassesOwn.never rfl (pi_tup (pe_call GI hr1 rfl mI kI bI .nil pass0 (pa_cons (pv 0) pa_nil))) (pg_name (i:=2) scExTree.nd rfl (Or.inl rfl)) (pss_one (ps_expr (pe_bm PySem.F.plainAttrs_list PySem.F.slot_list_append PySem.F.type_list_append mt_append (pv 1) (pa_cons (pe_call IH hr rfl mF kF bF .nil pass0 (pa_cons (pv 2) pa_nil)) pa_nil)))))
      (pss_one (ps_ret (pe_callTy call_tuple_of rfl mt bootTuple (pa_cons (pv 1) pa_nil)))))),?_⟩
    cases k with
    | var z =>
      cases hx with
      | @var p _ h =>
        exact ⟨_,rfl,p,_,_,.str "var",rfl,rfl,SqT.of h,rfl,rfl,_,rfl,ite2 (fun _ => ⟨_,rfl,p,_,_,.str z,rfl,rfl,SqT.of h,rfl,q _ _ (Same.refl _) (.w _)⟩) (fun c => absurd (by decide +kernel) c)⟩
    | node fm es =>
      obtain ⟨hf,hes⟩:=hk
      obtain ⟨p,z,r,rfl,hp,hz⟩:=node_head hx hf
      have h4:=fits_le hf
      have hd':∀ e ∈ es,e.dp < n:=fun e he => by
        have h1:1 + edps es < n + 1:=hd
        have h2:=edps_mem he
        omega
      refine ⟨_,rfl,p,_,_,.str z,rfl,rfl,SqT.of hp,(atI_nat (j:=0) rfl:atI (V.str z :: r) ((0:Nat):Int) = _),rfl,_,rfl,ite2 (fun c => absurd c (str_no hz)) (fun _ => ?_)⟩
      refine ⟨_,rfl,.ref p,fm,es,rfl,hx,hf,fun H1 r1 s1 hr1' => ⟨r1,_,rfl,.inr (SqT.of hr1'),fun l hl => ?_⟩⟩
      have s2:=same_new hl (.lst (fm.words.map V.str))
      refine ⟨_,rfl,.ref p,fm,es,rfl,hx.same (s1.trans s2),hf,fun H3 r3 xs s3 hr3 hxs => ⟨r3,rfl,⟨_,SqT.of hr3⟩,?_⟩⟩
      have hln:H l = none:=Same.free s1 hl
      have xl:=hxs.length
      have wl:=words_len fm
      refine for_tup (K:=K) (xs:=xs) (fun i σ H4 => ∃ (ts:List V) (v2:Option V),σ = [some (.ref p),some (.ref l),v2] ∧ Same H H4 ∧ (∀ a us,H3 a = some (.tup us) → H4 a = some (.tup us)) ∧ H4 l = some (.lst ts) ∧ TrsAt K H4 ts (fm.words.map Tr.w ++ trs (es.take i)))
        ⟨_,none,rfl,s1.trans (s2.trans s3),(fun _ _ h => h),s3 _ _ upd_same,(by show TrsAt K H3 _ (_ ++ []); rw [List.append_nil]; exact words_at _)⟩ ?_ ?_ ?_
      · rintro i σ H4 _ ⟨ts,v2,rfl,_,k4,_⟩
        exact SqT.of (k4 _ _ hr3)
      · rintro i y σ H4 hy ⟨ts,v2,rfl,s4,k4,hl4,hts⟩
        obtain ⟨e,he,hye⟩:=hxs.get hy
        have hm:=List.mem_of_getElem? he
        have tl:=hts.length
        rw [List.length_append,List.length_map,trs_len,List.length_take] at tl
        refine ⟨_,rfl,.inl ⟨rfl,_,SqL.of hl4⟩,_,rfl,y,e,rfl,hye.keep k4,eoks_mem hes hm,hd' e hm,fun H5 v5 s5 hv5 => ?_⟩
        have hl5:=s5 _ _ hl4
        have kp:∀ a us,H5 a = some (.tup us) → upd H5 l (.lst (ts ++ [v5])) a = some (.tup us):=fun a us h => tup_upd hl5 h
        refine ⟨l,_,_,rfl,rfl,hl5,mid (by omega),ts ++ [v5],_,rfl,sput (s4.trans s5) hln,fun a us h => kp a us (s5 _ _ (k4 a us h)),upd_same,?_⟩
        rw [List.take_add_one,he]
        show TrsAt K _ _ (_ ++ trs (es.take i ++ [e]))
        rw [trs_app,← List.append_assoc]
        exact ((hts.same s5).keep kp).append (.cons (hv5.keep kp) .nil)
      · rintro σ H4 ⟨ts,v2,rfl,s4,k4,hl4,hts⟩
        rw [xl,List.take_length] at hts
        exact ⟨_,rfl,l,ts,rfl,.inl ⟨SqL.of hl4,fun p5 hp5 => q _ _ (s4.trans (same_new hp5 _)) (.n upd_same (hts.same (same_new hp5 _)))⟩⟩
end
end K17
namespace K17
open PySem L2
noncomputable def spKindOf (K:PySem.W.Frag) (n:Nat):Sp:=fun vs H Q _ => ∃ (x:V) (k:Kd),vs = [x] ∧ TrAt K H x k.tr ∧ k.ok ∧ k.dp < n ∧ ∀ H' v,Same H H' → KdAt K H' v k → Q v H'
noncomputable def spKindTree (K:PySem.W.Frag) (n:Nat):Sp:=fun vs H Q _ => ∃ (x:V) (k:Kd),vs = [x] ∧ KdAt K H x k ∧ k.ok ∧ k.dp < n ∧ ∀ H' v,Same H H' → TrAt K H' v k.tr → Q v H'
section
variable {P:Program} {w:World} {K:PySem.W.Frag} {mg:Str → Option Value} {base:Heap}
theorem scKindOf:FnScope ["tree","ahead"] ["tree"] (defScope sKindOf):=⟨rfl,rfl,rfl,by decide +kernel,rfl,by decide +kernel,by decide +kernel⟩
set_option maxHeartbeats 0 in
theorem ok_kindOf {f fn fa fb fs:Addr} {fd fdn fda fdb fds:FuncData} (F:Fun K "kind_of_tree" "kind_of_tree" sKindOf f fd) (bF:Binds K fd ["tree"] []) (kF:PySem.W.keepIn K (.ref f) = true) (mF:mg "kind_of_tree" = some (.ref f))
    (GN:FnOk P w K mg base CX0 2 fn fdn ["word"] spNearFar) (bN:Binds K fdn ["word"] []) (kN:PySem.W.keepIn K (.ref fn) = true) (mN:mg "near_or_far" = some (.ref fn))
    (GA:FnOk P w K mg base CX0 2 fa fda ["tree"] spAhead) (bA:Binds K fda ["tree"] []) (kA:PySem.W.keepIn K (.ref fa) = true) (mA:mg "word_ahead" = some (.ref fa))
    (GB:FnOk P w K mg base CX0 1 fb fdb ["tree","least","most"] (spBracket K)) (bB:Binds K fdb ["tree","least","most"] []) (kB:PySem.W.keepIn K (.ref fb) = true) (mB:mg "bracket" = some (.ref fb))
    (GS:FnOk P w K mg base CX0 3 fs fds ["tree"] spSizeOf) (bS:Binds K fds ["tree"] []) (kS:PySem.W.keepIn K (.ref fs) = true) (mS:mg "size_of_tree" = some (.ref fs))
    (mi:mg "isinstance" = none) (ms:mg "str" = none):∀ n,FnOk P w K mg base CX0 (n + 3) f fd ["tree"] (spKindOf K n)
  | 0 => ⟨fun vs H Q E h => by obtain ⟨x,k,rfl,_⟩:=h; rfl,fun A outer s H args us vs Q E _ _ _ _ h => by
      obtain ⟨x,k,_,_,_,hd,_⟩:=h
      omega⟩
  | n + 1 => by
    have IH:=ok_kindOf F bF kF mF GN bN kN mN GA bA kA mA GB bB kB mB GS bS kS mS mi ms n
    refine F.ok scKindOf (fun vs H Q E h => ?_) (fun cdv A outer s H vs Q E hr h => ?_)
    · obtain ⟨x,k,rfl,_⟩:=h
      rfl
    obtain ⟨x,k,rfl,hx,hk,hd,q⟩:=h
    have hr1:Room 1 _:=hr.mono (by omega)
    have hr2:Room 2 _:=hr.mono (by omega)
    have hr3:Room 3 _:=hr.mono (by omega)
    refine ⟨_,pss_cons (ps_if (pt_val (pe_callB call_isi rfl mi bootIsi (pa_cons (pv 0) (pa_cons (pe_bltn rfl ms bootStr (v:=.ty "str") rfl) pa_nil)))) (pss_one (ps_ret (pe_op op_catT (pe_tup (pa_cons pe_str pa_nil)) (pe_call GN hr2 rfl mN kN bN .nil pass0 (pa_cons (pv 0) pa_nil))))) pss_nil)
      (pss_cons (ps_set (i:=1) scKindOf.nd rfl (Or.inl rfl) (pe_call GA hr2 rfl mA kA bA .nil pass0 (pa_cons (pv 0) pa_nil)))
      (pss_cons (ps_if (pt_cmpR op_eq (pv 1) pe_str (nomark _)) (pss_cons (ps_expr (pe_call GB hr1 rfl mB kB bB .nil pass0 (pa_cons (pv 0) (pa_cons pe_int (pa_cons pe_int pa_nil))))) (pss_one (ps_ret (pe_tup (pa_cons pe_str (pa_cons (pe_call GS hr3 rfl mS kS bS .nil pass0 (pa_cons (pe_ix ix_tup (pv 0) pe_int (fun _ _ => rfl)) pa_nil)) pa_nil)))))) pss_nil)
      (pss_cons (ps_if (pt_cmpR op_eq (pv 1) pe_str (nomark _)) (pss_cons (ps_expr (pe_call GB hr1 rfl mB kB bB .nil pass0 (pa_cons (pv 0) (pa_cons pe_int (pa_cons pe_int pa_nil))))) (pss_one (ps_ret (pe_tup (pa_cons pe_str (pa_cons (pe_call IH hr rfl mF kF bF .nil pass0 (pa_cons (pe_ix ix_tup (pv 0) pe_int (fun _ _ => rfl)) pa_nil)) (pa_cons (pe_call IH hr rfl mF kF bF .nil pass0 (pa_cons (pe_ix ix_tup (pv 0) pe_int (fun _ _ => rfl)) pa_nil)) pa_nil))))))) pss_nil)
      pss_no))),?_⟩
    cases k with
    | name a t =>
      cases hx
      refine ⟨_,rfl,.str (nearW a t),"str",_,true,rfl,.str _,kit_ss K,true,rfl,iteT ?_⟩
      refine ⟨(by show 1 ≤ sizeLine; decide),fun p hp => ⟨_,rfl,a,t,rfl,hk,fun H2 p2 s2 hp2 => ?_⟩⟩
      have s1:=same_new hp (.tup [.str "name"])
      exact ⟨p,p2,_,_,rfl,rfl,SqT.of (s2 _ _ upd_same),SqT.of hp2,by simp,(by show 3 ≤ sizeLine; decide),(fun e => by cases e),fun _ p3 hp3 => q _ _ (s1.trans (s2.trans (same_new hp3 _))) (.name upd_same)⟩
    | num m =>
      cases hx with
      | @n a xs _ ha hxs =>
        cases hxs with
        | cons h1 h2 =>
          cases h1
          cases h2 with
          | cons h3 h4 =>
            cases h3
            cases h4
            refine ⟨_,rfl,.ref a,"str",_,false,rfl,.tup ha,kit_ts K,false,rfl,iteF ?_⟩
            refine ⟨_,rfl,a,"num",_,rfl,ha,_,rfl,rfl,_,rfl,ite2 (fun _ => ?_) (fun c => absurd (by decide +kernel) c)⟩
            refine ⟨_,rfl,a,_,2,.int 2,rfl,ha,by show (2:Int) ≤ 2; decide,.inr ⟨2,rfl,by show (2:Int) ≤ 2; decide⟩,?_⟩
            refine ⟨_,rfl,a,_,_,.str (numS m),rfl,rfl,SqT.of ha,rfl,m,rfl,hk,fun H2 s2 => ⟨(by show 2 ≤ sizeLine; decide),fun p hp => ?_⟩⟩
            exact q _ _ (s2.trans (same_new hp _)) (.num upd_same)
    | pair a1 b1 =>
      have hd':1 + max a1.dp b1.dp < n + 1:=hd
      cases hx with
      | @n a xs _ ha hxs =>
        cases hxs with
        | cons h1 h2 =>
          cases h1
          cases h2 with
          | @cons va _ _ _ h3 h4 =>
            cases h4 with
            | @cons vb _ _ _ h5 h6 =>
              cases h6
              refine ⟨_,rfl,.ref a,"str",_,false,rfl,.tup ha,kit_ts K,false,rfl,iteF ?_⟩
              refine ⟨_,rfl,a,"pair",_,rfl,ha,_,rfl,rfl,_,rfl,ite2 (fun c => absurd c (by decide +kernel)) (fun _ => ?_)⟩
              refine ⟨_,rfl,rfl,_,rfl,ite2 (fun _ => ?_) (fun c => absurd (by decide +kernel) c)⟩
              refine ⟨_,rfl,a,_,3,.int 3,rfl,ha,by show (3:Int) ≤ 3; decide,.inr ⟨3,rfl,by show (3:Int) ≤ 3; decide⟩,?_⟩
              refine ⟨_,rfl,a,_,_,va,rfl,rfl,SqT.of ha,rfl,va,a1,rfl,h3,hk.1,by omega,fun H2 v2 s2 k2 => ?_⟩
              refine ⟨_,rfl,a,_,_,vb,rfl,rfl,SqT.of (s2 _ _ ha),rfl,vb,b1,rfl,h5.same s2,hk.2,by omega,fun H3 v3 s3 k3 => ⟨(by show 3 ≤ sizeLine; decide),fun p hp => ?_⟩⟩
              have s4:=same_new hp (.tup [.str "pair",v2,v3])
              exact q _ _ (s2.trans (s3.trans s4)) (.pair upd_same (k2.same (s3.trans s4)) (k3.same s4))
theorem scKindTree:FnScope ["kind"] ["kind"] (defScope sKindTree):=⟨rfl,rfl,rfl,by decide +kernel,rfl,by decide +kernel,by decide +kernel⟩
set_option maxHeartbeats 0 in
theorem ok_kindTree {f fn:Addr} {fd fdn:FuncData} (F:Fun K "kind_tree" "kind_tree" sKindTree f fd) (bF:Binds K fd ["kind"] []) (kF:PySem.W.keepIn K (.ref f) = true) (mF:mg "kind_tree" = some (.ref f))
    (GN:FnOk P w K mg base CX0 1 fn fdn ["part","name"] spNearFarW) (bN:Binds K fdn ["part","name"] []) (kN:PySem.W.keepIn K (.ref fn) = true) (mN:mg "near_or_far_word" = some (.ref fn)) (ms:mg "str" = none):∀ n,FnOk P w K mg base CX0 (n + 1) f fd ["kind"] (spKindTree K n)
  | 0 => ⟨fun vs H Q E h => by obtain ⟨x,k,rfl,_⟩:=h; rfl,fun A outer s H args us vs Q E _ _ _ _ h => by
      obtain ⟨x,k,_,_,_,hd,_⟩:=h
      omega⟩
  | n + 1 => by
    have IH:=ok_kindTree F bF kF mF GN bN kN mN ms n
    refine F.ok scKindTree (fun vs H Q E h => ?_) (fun cdv A outer s H vs Q E hr h => ?_)
    · obtain ⟨x,k,rfl,_⟩:=h
      rfl
    obtain ⟨x,k,rfl,hx,hk,hd,q⟩:=h
    have hr1:Room 1 _:=hr.mono (by omega)
    refine ⟨_,pss_cons (ps_if (pt_cmpR op_eq (pe_ix ix_tup (pv 0) pe_int (fun _ _ => rfl)) pe_str (nomark _)) (pss_one (ps_ret (pe_tup (pa_cons pe_str (pa_cons (pe_callTy call_str_int rfl ms bootStr (pa_cons (pe_ix ix_tup (pv 0) pe_int (fun _ _ => rfl)) pa_nil)) pa_nil))))) pss_nil)
      (pss_cons (ps_if (pt_cmpR op_eq (pe_ix ix_tup (pv 0) pe_int (fun _ _ => rfl)) pe_str (nomark _)) (pss_one (ps_ret (pe_tup (pa_cons pe_str (pa_cons (pe_call IH hr rfl mF kF bF .nil pass0 (pa_cons (pe_ix ix_tup (pv 0) pe_int (fun _ _ => rfl)) pa_nil)) (pa_cons (pe_call IH hr rfl mF kF bF .nil pass0 (pa_cons (pe_ix ix_tup (pv 0) pe_int (fun _ _ => rfl)) pa_nil)) pa_nil)))))) pss_nil)
      (pss_one (ps_ret (pe_call GN hr1 rfl mN kN bN .nil pass0 (pa_cons (pe_ix ix_tup (pv 0) pe_int (fun _ _ => rfl)) (pa_cons (pe_ix ix_tup (pv 0) pe_int (fun _ _ => rfl)) pa_nil)))))),?_⟩
    cases hx with
    | @num p m h =>
      refine ⟨_,rfl,p,_,_,.str "num",rfl,rfl,SqT.of h,rfl,rfl,_,rfl,ite2 (fun _ => ?_) (fun c => absurd (by decide +kernel) c)⟩
      have hm:1 ≤ m ∧ m ≤ 1000000000000000000:=hk
      refine ⟨_,rfl,p,_,_,.int m,rfl,rfl,SqT.of h,rfl,m,rfl,?_,(by show 2 ≤ sizeLine; decide),fun p2 hp2 => ?_⟩
      · exact (Nat.log2_lt (by omega)).mpr (Nat.lt_of_le_of_lt (show (m:Int).natAbs ≤ 1000000000000000000 by omega) (by decide))
      · exact q _ _ (same_new hp2 _) (.n upd_same (.cons (.w "num") (.cons (.w _) .nil)))
    | @name p a t h =>
      have hk':nameOk t = true ∧ (a = "" ∨ nameOk a = true):=hk
      refine ⟨_,rfl,p,_,_,.str "name",rfl,rfl,SqT.of h,rfl,rfl,_,rfl,ite2 (fun c => absurd c (by decide +kernel)) (fun _ => ?_)⟩
      refine ⟨_,rfl,p,_,_,.str "name",rfl,rfl,SqT.of h,rfl,rfl,_,rfl,ite2 (fun c => absurd c (by decide +kernel)) (fun _ => ?_)⟩
      have l1:a.length ≤ 1000:=by
        rcases hk'.2 with e | e
        · rw [e]; decide +kernel
        · have:=(name_facts e).2.1; omega
      have l2:t.length ≤ 1000:=by have:=(name_facts hk'.1).2.1; omega
      exact ⟨_,rfl,p,_,_,.str a,rfl,rfl,SqT.of h,rfl,_,rfl,p,_,_,.str t,rfl,rfl,SqT.of h,rfl,a,t,rfl,l1,l2,q _ _ (Same.refl _) (.w _)⟩
    | @pair p x1 y1 a b h ha hb =>
      have hd':1 + max a.dp b.dp < n + 1:=hd
      refine ⟨_,rfl,p,_,_,.str "pair",rfl,rfl,SqT.of h,rfl,rfl,_,rfl,ite2 (fun c => absurd c (by decide +kernel)) (fun _ => ?_)⟩
      refine ⟨_,rfl,p,_,_,.str "pair",rfl,rfl,SqT.of h,rfl,rfl,_,rfl,ite2 (fun _ => ?_) (fun c => absurd (by decide +kernel) c)⟩
      refine ⟨_,rfl,p,_,_,x1,rfl,rfl,SqT.of h,rfl,x1,a,rfl,ha,hk.1,by omega,fun H2 v2 s2 k2 => ?_⟩
      refine ⟨_,rfl,p,_,_,y1,rfl,rfl,SqT.of (s2 _ _ h),rfl,y1,b,rfl,hb.same s2,hk.2,by omega,fun H3 v3 s3 k3 => ⟨(by show 3 ≤ sizeLine; decide),fun p4 hp4 => ?_⟩⟩
      have s4:=same_new hp4 (.tup [.str "pair",v2,v3])
      exact q _ _ (s2.trans (s3.trans s4)) (.n upd_same (.cons (.w "pair") (.cons (k2.same (s3.trans s4)) (.cons (k3.same s4) .nil))))
end
end K17
namespace K17
open PySem L2
inductive Al (K:PySem.W.Frag) (H:Hp):Nat → V → V → Prop
  | str {n:Nat} (s:Str):Al K H (n + 1) (.str s) (.str s)
  | int {n:Nat} (i:Int):Al K H (n + 1) (.int i) (.int i)
  | non {n:Nat}:Al K H (n + 1) .non .non
  | tup {n:Nat} {a b:Addr} {xs ys:List V}:H a = some (.tup xs) → H b = some (.tup ys) → xs.length = ys.length → ys.length ≤ 100 → (∀ (i:Nat) (x y:V),xs[i]? = some x → ys[i]? = some y → Al K H n x y) → Al K H (n + 1) (.ref a) (.ref b)
theorem Al.same {K:PySem.W.Frag} {H H':Hp} (e:Same H H'):∀ {n:Nat} {x y:V},Al K H n x y → Al K H' n x y
  | _,_,_,.str s => .str s
  | _,_,_,.int i => .int i
  | _,_,_,.non => .non
  | _,_,_,.tup ha hb hl h10 h => .tup (e _ _ ha) (e _ _ hb) hl h10 fun i x y hx hy => (h i x y hx hy).same e
noncomputable def spAlike (K:PySem.W.Frag) (n:Nat):Sp:=fun vs H Q _ => ∃ (x y:V),vs = [x,y] ∧ Al K H n x y ∧ ∀ H',Same H H' → Q (.bl true) H'
theorem kit_si (K:PySem.W.Frag):PySem.W.kitOne K (.type "str") (.type "int") = some false:=rfl
theorem kit_it (K:PySem.W.Frag):PySem.W.kitOne K (.type "int") (.type "tuple") = some false:=rfl
theorem kit_ii (K:PySem.W.Frag):PySem.W.kitOne K (.type "int") (.type "int") = some true:=rfl
theorem kit_ib (K:PySem.W.Frag):PySem.W.kitOne K (.type "int") (.type "bool") = some false:=rfl
theorem bootBoolT:bootBuiltins "bool" = some (.type "bool"):=by decide +kernel
section
variable {P:Program} {w:World} {K:PySem.W.Frag} {mg:Str → Option Value} {base:Heap}
noncomputable abbrev alN:List Str:=["_law_found","_law_due"]
theorem scAlike:FnScope alN alN (defScope sAlike):=⟨rfl,rfl,rfl,by decide +kernel,rfl,by decide +kernel,by decide +kernel⟩
set_option maxHeartbeats 0 in
theorem ok_alike {f:Addr} {fd:FuncData} (F:Fun K "_law_alike" "_law_alike" sAlike f fd) (bA:Binds K fd alN []) (kA:PySem.W.keepIn K (.ref f) = true) (mA:mg "_law_alike" = some (.ref f))
    (mi:mg "isinstance" = none) (ms:mg "str" = none) (mt:mg "tuple" = none) (mI:mg "int" = none) (mb:mg "bool" = none) (ml:mg "len" = none) (mr:mg "range" = none) (ma:mg "all" = none) :
    ∀ n,FnOk P w K mg base CX0 n f fd alN (spAlike K n)
  | 0 => ⟨fun vs H Q E h => by obtain ⟨x,y,rfl,_⟩:=h; rfl,fun A outer s H args us vs Q E _ _ _ _ h => by
      obtain ⟨x,y,_,h,_⟩:=h
      cases h⟩
  | n + 1 => by
    have IH:=ok_alike F bA kA mA mi ms mt mI mb ml mr ma n
    refine F.ok scAlike (fun vs H Q E h => ?_) (fun cdv A outer s H vs Q E hr h => ?_)
    · obtain ⟨x,y,rfl,_⟩:=h
      rfl
    obtain ⟨x,y,rfl,hal,q⟩:=h
    refine ⟨_,pss_cons (ps_if (pt_cmpR op_isN (pv 1) pe_non (nomark _)) (pss_one (ps_ret (pe_cmpR op_isN (pv 0) pe_non (nomark _)))) pss_nil)
      (pss_cons (ps_if (pt_val (pe_callB call_isi rfl mi bootIsi (pa_cons (pv 1) (pa_cons (pe_bltn rfl mt bootTuple (v:=.ty "tuple") rfl) pa_nil))))
        (pss_cons (ps_if (PW.pt (pw_or (pt_not (pt_val (pe_callB call_isi rfl mi bootIsi (pa_cons (pv 0) (pa_cons (pe_bltn rfl mt bootTuple (v:=.ty "tuple") rfl) pa_nil))))) (pw_or1 (pt_cmpR op_ne (pe_callB call_len_seq rfl ml PySem.boot_len (pa_cons (pv 0) pa_nil)) (pe_callB call_len_seq rfl ml PySem.boot_len (pa_cons (pv 1) pa_nil)) (nomark _))))) (pss_one (ps_ret pe_bl)) pss_nil)
        (pss_one (ps_ret (pe_callB (call_allB rfl) rfl ma bootAll (pa_cons (pe_comp (own:=["_law_k"]) (caps:=["_law_found","_law_due"]) (κ:=[0,1]) rfl ⟨rfl,by decide +kernel,by decide +kernel,rfl,rfl,(two_of rfl rfl),(two_of ⟨.inl rfl,rfl,.inl rfl⟩ ⟨.inl rfl,rfl,.inl rfl⟩)⟩ rfl
          (pi_range1 rfl mr (pa_cons (pe_callB call_len_seq rfl ml PySem.boot_len (pa_cons (pv 1) pa_nil)) pa_nil)) (fun _ _ _ _ => pg_name (i:=0) (show (["_law_k","_law_found","_law_due"]:List Str).Nodup from by decide +kernel) rfl (Or.inl rfl))
          (fun _ _ _ _ => pe_call IH hr rfl mA kA bA .nil pass0 (pa_cons (pe_ix (r:=rIxT K) ix_tup (pv 1) (pv 0) (fun _ _ => rfl)) (pa_cons (pe_ix (r:=rIxT K) ix_tup (pv 2) (pv 0) (fun _ _ => rfl)) pa_nil)))) pa_nil))))) pss_nil)
      (pss_cons (ps_if (pt_val (pe_callB call_isi rfl mi bootIsi (pa_cons (pv 1) (pa_cons (pe_bltn rfl mI bootInt (v:=.ty "int") rfl) pa_nil))))
        (pss_one (ps_ret (pe_and (pe_callB call_isi rfl mi bootIsi (pa_cons (pv 0) (pa_cons (pe_bltn rfl mI bootInt (v:=.ty "int") rfl) pa_nil))) (pe_and (pe_not (pe_callB call_isi rfl mi bootIsi (pa_cons (pv 0) (pa_cons (pe_bltn rfl mb bootBoolT (v:=.ty "bool") rfl) pa_nil)))) (pe_one (pe_cmpR op_eq (pv 0) (pv 1) (nomark _))))))) pss_nil)
      (pss_one (ps_ret (pe_and (pe_callB call_isi rfl mi bootIsi (pa_cons (pv 0) (pa_cons (pe_bltn rfl ms bootStr (v:=.ty "str") rfl) pa_nil))) (pe_one (pe_cmpR op_eq (pv 0) (pv 1) (nomark _)))))))),?_⟩
    cases hal with
    | str s0 =>
      refine ⟨_,rfl,rfl,_,rfl,ite2 (fun c => absurd (of_decide_eq_true c) (by intro h; cases h)) (fun _ => ?_)⟩
      refine ⟨_,rfl,.str s0,"tuple",_,false,rfl,.str s0,kit_st K,false,rfl,iteF ?_⟩
      refine ⟨_,rfl,.str s0,"int",_,false,rfl,.str s0,kit_si K,false,rfl,iteF ?_⟩
      refine ⟨_,rfl,.str s0,"str",_,true,rfl,.str s0,kit_ss K,true,rfl,iteT ⟨_,rfl,_,rfl,rfl,?_⟩⟩
      show Q (.bl (decide (V.str s0 = V.str s0))) H
      rw [decide_eq_true rfl]
      exact q _ (Same.refl _)
    | non => exact ⟨_,rfl,rfl,_,rfl,iteT ⟨_,rfl,rfl,q _ (Same.refl _)⟩⟩
    | int i0 =>
      refine ⟨_,rfl,rfl,_,rfl,ite2 (fun c => absurd (of_decide_eq_true c) (by intro h; cases h)) (fun _ => ?_)⟩
      refine ⟨_,rfl,.int i0,"tuple",_,false,rfl,.int i0,kit_it K,false,rfl,iteF ?_⟩
      refine ⟨_,rfl,.int i0,"int",_,true,rfl,.int i0,kit_ii K,true,rfl,iteT ?_⟩
      refine ⟨_,rfl,.int i0,"int",_,true,rfl,.int i0,kit_ii K,true,rfl,iteT ?_⟩
      refine ⟨_,rfl,.int i0,"bool",_,false,rfl,.int i0,kit_ib K,false,rfl,true,rfl,iteT ⟨_,rfl,_,rfl,rfl,?_⟩⟩
      show Q (.bl (decide (V.int i0 = V.int i0))) H
      rw [decide_eq_true rfl]
      exact q _ (Same.refl _)
    | @tup _ a b xs ys ha hb hl h10 hall =>
      refine ⟨_,rfl,rfl,_,rfl,ite2 (fun c => absurd (of_decide_eq_true c) (by intro h; cases h)) (fun _ => ?_)⟩
      refine ⟨_,rfl,.ref b,"tuple",_,true,rfl,.tup hb,kit_tt K,true,rfl,iteT ?_⟩
      refine ⟨_,rfl,.ref a,"tuple",_,true,rfl,.tup ha,kit_tt K,true,rfl,iteF ⟨_,rfl,a,_,rfl,.inr (SqT.of ha),_,rfl,b,_,rfl,.inr (SqT.of hb),rfl,_,rfl,ite2 (fun c => ?_) (fun _ => ?_)⟩⟩
      · have c':(!decide (V.int (xs.length:Int) = V.int (ys.length:Int))) = true:=c
        rw [hl,decide_eq_true rfl] at c'
        exact absurd c' (by decide)
      refine ⟨_,rfl,b,_,rfl,.inr (SqT.of hb),_,rfl,by omega,by omega,?_⟩
      refine comp_by (J:=Itr 0 ((ys.length:Nat):Int).toNat) (xs:=rangeV 0 ((ys.length:Nat):Int).toNat) (fun i zs H3 => i ≤ ((ys.length:Nat):Int).toNat ∧ Same H H3 ∧ zs = (List.replicate i true).map V.bl) ⟨Nat.zero_le _,Same.refl _,rfl⟩ (by rw [rangeV_len]; exact small (by omega)) ?_ ?_ ?_ ?_ ?_ ?_
      · rintro i zs H3 ⟨hi,_,rfl⟩
        rw [List.length_map,List.length_replicate]
        exact Nat.le_refl _
      · rintro i x zs H3 hx _
        exact itr_go hx
      · rintro i zs x H3 H' hi _ hy
        rw [rangeV_len] at hi
        exact itr_yld' hi hy
      · rintro zs H3 _
        rw [rangeV_len]
        exact Nat.le_refl _
      · rintro i x zs H3 N hN hx ⟨hi,s3,rfl⟩
        obtain ⟨hi9,rfl⟩:=rangeV_get.mp hx
        rw [Int.toNat_natCast] at hi9
        obtain ⟨vy,hvy⟩:∃ v,ys[i]? = some v:=⟨_,List.getElem?_eq_getElem hi9⟩
        obtain ⟨vx,hvx⟩:∃ v,xs[i]? = some v:=⟨_,List.getElem?_eq_getElem (by omega)⟩
        have ax:atI xs (0 + (i:Int)) = some vx:=by rw [Int.zero_add]; exact atI_nat hvx
        have ay:atI ys (0 + (i:Int)) = some vy:=by rw [Int.zero_add]; exact atI_nat hvy
        refine ⟨rfl,tYes_go ⟨_,rfl,_,rfl,a,_,_,_,rfl,rfl,SqT.of (s3 _ _ ha),ax,_,rfl,_,rfl,b,_,_,_,rfl,rfl,SqT.of (s3 _ _ hb),ay,vx,vy,rfl,(hall i vx vy hvx hvy).same s3,fun H4 s4 => hN _ _ ⟨by rw [Int.toNat_natCast]; omega,s3.trans s4,?_⟩⟩⟩
        rw [List.replicate_succ',List.map_append]
        rfl
      · rintro zs H3 D ⟨hi,s3,rfl⟩ hD
        refine ⟨D,List.replicate _ true,rfl,SqL.of upd_same,?_⟩
        rw [all_true]
        exact q _ (s3.trans (same_new hD _))
end
end K17
namespace K17
open PySem L2
inductive Dd where
  | s (x:Str)
  | i (n:Int)
  | o
  | t (ds:List Dd)
mutual
inductive DAt (H:Hp):V → Dd → Prop
  | s (x:Str):DAt H (.str x) (.s x)
  | i (n:Int):DAt H (.int n) (.i n)
  | o:DAt H .non .o
  | t {a:Addr} {xs:List V} {ds:List Dd}:H a = some (.tup xs) → DsAt H xs ds → DAt H (.ref a) (.t ds)
inductive DsAt (H:Hp):List V → List Dd → Prop
  | nil:DsAt H [] []
  | cons {x:V} {d:Dd} {xs:List V} {ds:List Dd}:DAt H x d → DsAt H xs ds → DsAt H (x :: xs) (d :: ds)
end
mutual
theorem DAt.keep {H H':Hp} (k:∀ a xs,H a = some (.tup xs) → H' a = some (.tup xs)):∀ {x:V} {d:Dd},DAt H x d → DAt H' x d
  | _,_,.s x => .s x
  | _,_,.i n => .i n
  | _,_,.o => .o
  | _,_,.t h r => .t (k _ _ h) (DsAt.keep k r)
theorem DsAt.keep {H H':Hp} (k:∀ a xs,H a = some (.tup xs) → H' a = some (.tup xs)):∀ {xs:List V} {ds:List Dd},DsAt H xs ds → DsAt H' xs ds
  | _,_,.nil => .nil
  | _,_,.cons h r => .cons (DAt.keep k h) (DsAt.keep k r)
end
theorem DAt.same {H H':Hp} (s:Same H H') {x:V} {d:Dd} (h:DAt H x d):DAt H' x d:=h.keep fun _ _ q => s _ _ q
theorem DsAt.same {H H':Hp} (s:Same H H') {xs:List V} {ds:List Dd} (h:DsAt H xs ds):DsAt H' xs ds:=h.keep fun _ _ q => s _ _ q
theorem DsAt.append {H:Hp}:∀ {xs ys:List V} {es fs:List Dd},DsAt H xs es → DsAt H ys fs → DsAt H (xs ++ ys) (es ++ fs)
  | _,_,_,_,.nil,h => h
  | _,_,_,_,.cons a r,h => .cons a (r.append h)
theorem DsAt.length {H:Hp}:∀ {xs:List V} {es:List Dd},DsAt H xs es → xs.length = es.length
  | _,_,.nil => rfl
  | _,_,.cons _ r => congrArg (· + 1) r.length
theorem DsAt.get {H:Hp}:∀ {xs:List V} {es:List Dd},DsAt H xs es → ∀ {i:Nat} {x:V},xs[i]? = some x → ∃ e,es[i]? = some e ∧ DAt H x e
  | _,_,.cons h r,0,x,hx => by
    cases hx
    exact ⟨_,rfl,h⟩
  | _,_,.cons h r,i + 1,x,hx => r.get (i:=i) hx
theorem DsAt.of {H:Hp}:∀ {xs:List V} {ds:List Dd},xs.length = ds.length → (∀ (i:Nat) (x:V) (d:Dd),xs[i]? = some x → ds[i]? = some d → DAt H x d) → DsAt H xs ds
  | [],[],_,_ => .nil
  | x :: xs,d :: ds,hl,h => .cons (h 0 x d rfl rfl) (DsAt.of (Nat.succ.inj hl) fun i y e hy he => h (i + 1) y e hy he)
  | [],_ :: _,hl,_ => by cases hl
  | _ :: _,[],hl,_ => by cases hl
theorem trsAt_of {K:PySem.W.Frag} {H:Hp}:∀ {xs:List V} {ts:List Tr},xs.length = ts.length → (∀ (i:Nat) (x:V) (t:Tr),xs[i]? = some x → ts[i]? = some t → TrAt K H x t) → TrsAt K H xs ts
  | [],[],_,_ => .nil
  | x :: xs,d :: ds,hl,h => .cons (h 0 x d rfl rfl) (trsAt_of (Nat.succ.inj hl) fun i y e hy he => h (i + 1) y e hy he)
  | [],_ :: _,hl,_ => by cases hl
  | _ :: _,[],hl,_ => by cases hl
noncomputable def Kd.d:Kd → Dd
  | .num n => .t [.s "num",.i n]
  | .name q t => .t [.s "name",.s q,.s t]
  | .pair a b => .t [.s "pair",a.d,b.d]
noncomputable def fmD:Fm → List Dd → Dd
  | .lit v n,ds => .t (.s "lit" :: .i v :: .i n :: ds)
  | .op o n,ds => .t (.s "op" :: .s o :: .i n :: ds)
  | .test o,ds => .t (.s "test" :: .s o :: ds)
  | .as_ n,ds => .t (.s "as" :: .i n :: ds)
  | .let_ s,ds => .t (.s "let" :: .s s :: ds)
  | .br h,ds => .t (.s h :: ds)
  | .call q t,ds => .t [.s "call",.s q,.s t,.t ds]
mutual
noncomputable def Ex.d:Ex → Dd
  | .var s => .t [.s "var",.s s]
  | .node f es => fmD f (exds es)
noncomputable def exds:List Ex → List Dd
  | [] => []
  | e :: es => e.d :: exds es
end
theorem kd_d {K:PySem.W.Frag} {H:Hp}:∀ {k:Kd} {v:V},KdAt K H v k → DAt H v k.d
  | _,_,.num h => .t h (.cons (.s _) (.cons (.i _) .nil))
  | _,_,.name h => .t h (.cons (.s _) (.cons (.s _) (.cons (.s _) .nil)))
  | _,_,.pair h a b => .t h (.cons (.s _) (.cons (kd_d a) (.cons (kd_d b) .nil)))
theorem d_kd {K:PySem.W.Frag} {H:Hp}:∀ {k:Kd} {v:V},DAt H v k.d → KdAt K H v k
  | .num n,_,.t h (.cons (.s _) (.cons (.i _) .nil)) => .num h
  | .name q t,_,.t h (.cons (.s _) (.cons (.s _) (.cons (.s _) .nil))) => .name h
  | .pair a b,_,.t h (.cons (.s _) (.cons x (.cons y .nil))) => .pair h (d_kd x) (d_kd y)
mutual
theorem ex_d {H:Hp}:∀ {e:Ex} {v:V},ExAt H v e → DAt H v e.d
  | .var s,_,.var h => .t h (.cons (.s _) (.cons (.s _) .nil))
  | .node (.lit v n) es,_,.node c h r => .t h (.cons (.s _) (.cons (.i _) (.cons (.i _) (exs_d r))))
  | .node (.op v n) es,_,.node c h r => .t h (.cons (.s _) (.cons (.s _) (.cons (.i _) (exs_d r))))
  | .node (.test v) es,_,.node c h r => .t h (.cons (.s _) (.cons (.s _) (exs_d r)))
  | .node (.as_ v) es,_,.node c h r => .t h (.cons (.s _) (.cons (.i _) (exs_d r)))
  | .node (.let_ v) es,_,.node c h r => .t h (.cons (.s _) (.cons (.s _) (exs_d r)))
  | .node (.br v) es,_,.node c h r => .t h (.cons (.s _) (exs_d r))
  | .node (.call q t) es,_,.node c h r => by cases c
  | .node (.call q t) es,_,.call h h2 r => .t h (.cons (.s _) (.cons (.s _) (.cons (.s _) (.cons (.t h2 (exs_d r)) .nil))))
theorem exs_d {H:Hp}:∀ {es:List Ex} {xs:List V},ExsAt H xs es → DsAt H xs (exds es)
  | _,_,.nil => .nil
  | _,_,.cons h r => .cons (ex_d h) (exs_d r)
end
mutual
theorem d_ex {H:Hp}:∀ {e:Ex} {v:V},DAt H v e.d → ExAt H v e
  | .var s,_,.t h (.cons (.s _) (.cons (.s _) .nil)) => .var h
  | .node (.lit v n) es,_,.t h (.cons (.s _) (.cons (.i _) (.cons (.i _) r))) => .node rfl h (ds_exs r)
  | .node (.op v n) es,_,.t h (.cons (.s _) (.cons (.s _) (.cons (.i _) r))) => .node rfl h (ds_exs r)
  | .node (.test v) es,_,.t h (.cons (.s _) (.cons (.s _) r)) => .node rfl h (ds_exs r)
  | .node (.as_ v) es,_,.t h (.cons (.s _) (.cons (.i _) r)) => .node rfl h (ds_exs r)
  | .node (.let_ v) es,_,.t h (.cons (.s _) (.cons (.s _) r)) => .node rfl h (ds_exs r)
  | .node (.br v) es,_,.t h (.cons (.s _) r) => .node rfl h (ds_exs r)
  | .node (.call q t) es,_,.t h (.cons (.s _) (.cons (.s _) (.cons (.s _) (.cons (.t h2 r) .nil)))) => .call h h2 (ds_exs r)
theorem ds_exs {H:Hp}:∀ {es:List Ex} {xs:List V},DsAt H xs (exds es) → ExsAt H xs es
  | [],_,.nil => .nil
  | e :: es,_,.cons h r => .cons (d_ex h) (ds_exs r)
end
noncomputable abbrev Row:=Str × Kd
noncomputable def rwT (r:Row):Tr:=.n [.w r.1,r.2.tr]
noncomputable def rwD (r:Row):Dd:=.t [.s r.1,r.2.d]
structure Rf where
  w:Str
  rows:List Row
noncomputable def Rf.ts (r:Rf):List Tr:=.w r.w :: r.rows.map rwT
noncomputable def Rf.d (r:Rf):Dd:=.t [.s r.w,.t (r.rows.map rwD)]
noncomputable def sealT:Option Rf → Tr
  | none => .w "bare"
  | some r => .n r.ts
noncomputable def sealD:Option Rf → Dd
  | none => .o
  | some r => r.d
inductive FI where
  | hid (w:Str)
  | told (w:Str) (k:Kd)
  | fn (w:Str) (ks:List Kd) (k:Kd)
noncomputable def FI.tr:FI → Tr
  | .hid w => .n [.w "hid",.w w]
  | .told w k => .n [.w "told",.w w,k.tr]
  | .fn w ks k => .n [.w "fun",.w w,.n (ks.map Kd.tr),k.tr]
noncomputable def FI.d:FI → Dd
  | .hid w => .t [.s "hid",.s w]
  | .told w k => .t [.s "told",.s w,k.d]
  | .fn w ks k => .t [.s "fun",.s w,.t (ks.map Kd.d),k.d]
inductive PI where
  | kind (w:Str) (k:Kd)
  | opn (w:Str)
  | fn (w:Str) (rows:List Row) (k:Kd) (e:Ex)
noncomputable def PI.tr:PI → Tr
  | .kind w k => .n [.w "kind",.w w,k.tr]
  | .opn w => .n [.w "open",.w w]
  | .fn w rs k e => .n [.w "fun",.w w,.n (rs.map rwT),k.tr,e.tr]
noncomputable def PI.d:PI → Dd
  | .kind w k => .t [.s "kind",.s w,k.d]
  | .opn w => .t [.s "open",.s w]
  | .fn w rs k e => .t [.s "fun",.s w,.t (rs.map rwD),k.d,e.d]
noncomputable abbrev Fo:=Str × Rf
noncomputable def foT (f:Fo):Tr:=.n (.w f.1 :: f.2.ts)
noncomputable def foD (f:Fo):Dd:=.t [.s f.1,f.2.d]
inductive Dc where
  | face (w:Str) (is:List FI)
  | part (w:Str) (s:Option Rf) (is:List PI)
  | maker (w:Str) (fs:List Fo) (s:Option Rf) (is:List PI)
  | made (w m:Str) (ps:List Str)
noncomputable def Dc.tr:Dc → Tr
  | .face w is => .n (.w "face" :: .w w :: is.map FI.tr)
  | .part w s is => .n (.w "part" :: .w w :: sealT s :: is.map PI.tr)
  | .maker w fs s is => .n (.w "maker" :: .w w :: .n (fs.map foT) :: sealT s :: is.map PI.tr)
  | .made w m ps => .n (.w "made" :: .w w :: .w m :: ps.map Tr.w)
noncomputable def Dc.d:Dc → Dd
  | .face w is => .t [.s "face",.s w,.t (is.map FI.d)]
  | .part w s is => .t [.s "part",.s w,sealD s,.t (is.map PI.d)]
  | .maker w fs s is => .t [.s "maker",.s w,.t (fs.map foD),sealD s,.t (is.map PI.d)]
  | .made w m ps => .t [.s "made",.s w,.s m,.t (ps.map Dd.s)]
noncomputable def kSm (k:Kd):Prop:=k.ok ∧ k.lv ≤ 2
noncomputable def exSm (e:Ex):Prop:=e.ok ∧ e.dp ≤ 2 ∧ e.tr.flat.length ≤ 20
noncomputable def rowsOk (rs:List Row):Prop:=rs.length ≤ 4 ∧ ∀ r ∈ rs,nameOk r.1 = true ∧ kSm r.2
noncomputable def Rf.ok (r:Rf):Prop:=nameOk r.w = true ∧ rowsOk r.rows
noncomputable def sealOk:Option Rf → Prop
  | none => True
  | some r => r.ok
noncomputable def FI.ok:FI → Prop
  | .hid w => nameOk w = true
  | .told w k => nameOk w = true ∧ kSm k
  | .fn w ks k => nameOk w = true ∧ (ks.length ≤ 4 ∧ ∀ k ∈ ks,kSm k) ∧ kSm k
noncomputable def PI.ok:PI → Prop
  | .kind w k => nameOk w = true ∧ kSm k
  | .opn w => nameOk w = true
  | .fn w rs k e => nameOk w = true ∧ rowsOk rs ∧ kSm k ∧ exSm e
noncomputable def foOk (f:Fo):Prop:=nameOk f.1 = true ∧ f.2.ok
noncomputable def Dc.ok:Dc → Prop
  | .face w is => nameOk w = true ∧ is.length ≤ 16 ∧ ∀ i ∈ is,i.ok
  | .part w s is => nameOk w = true ∧ sealOk s ∧ is.length ≤ 16 ∧ ∀ i ∈ is,i.ok
  | .maker w fs s is => nameOk w = true ∧ (1 ≤ fs.length ∧ fs.length ≤ 4 ∧ ∀ f ∈ fs,foOk f) ∧ sealOk s ∧ is.length ≤ 16 ∧ ∀ i ∈ is,i.ok
  | .made w m ps => nameOk w = true ∧ nameOk m = true ∧ (1 ≤ ps.length ∧ ps.length ≤ 6 ∧ ∀ p ∈ ps,nameOk p = true)
theorem kSm.dp {k:Kd} (h:kSm k):k.dp < 2:=Nat.lt_of_lt_of_le (dp_lv k) h.2
theorem comp_eachT {K:PySem.W.Frag} {H:Hp} {p:Addr} {xs:List V} (R:Nat → Hp → V → Prop) {n:Nat} {κ:List Nat} {g:TG} {te:TE} {σ:St} {Q:VK}
    (st:∀ i H H' v,Same H H' → R i H v → R i H' v) (hp:H p = some (.tup xs)) (hx:xs.length ≤ 1000)
    (turn:∀ (i:Nat) (u:V) (H3:Hp) (N:V → Hp → Prop) (B:Hp → Prop),xs[i]? = some u → Same H H3 → (∀ v H4,Same H3 H4 → R i H4 v → N v H4) →
      g u (blkSt n κ σ) H3 fun σ4 H4 => σ4.drop n = (blkSt n κ σ).drop n ∧ tYes σ4 H4 fun b H5 => if b = true then te σ4 H5 N else B H5)
    (fin:∀ ys H3 D,Same H H3 → ys.length = xs.length → (∀ (i:Nat) (v:V),ys[i]? = some v → R i H3 v) → H3 D = none → Q (.ref D) (upd H3 D (.lst ys))) :
    CompRun n κ g tYes te σ (Itt K p) H Q:=by
  refine comp_by (J:=Itt K p) (xs:=xs) (fun i ys H3 => Same H H3 ∧ ys.length = i ∧ ∀ (j:Nat) (v:V),ys[j]? = some v → R j H3 v) ⟨Same.refl _,rfl,fun j v h => nomatch h⟩ (small hx) ?_ ?_ ?_ ?_ ?_ ?_
  · rintro i ys H3 ⟨_,hl,_⟩
    exact Nat.le_of_eq hl
  · rintro i u ys H3 hu ⟨s3,_⟩
    exact ⟨_,_,SqT.of (s3 _ _ hp),hu⟩
  · rintro i ys u H3 H' hn ⟨s3,_⟩ hy
    exact ⟨hy.1,hy.2 _ (SqT.of (s3 _ _ hp))⟩
  · rintro ys H3 ⟨s3,_⟩
    exact ⟨_,SqT.of (s3 _ _ hp),Nat.le_refl _⟩
  · rintro i u ys H3 N hN hu ⟨s3,hl,hy⟩
    refine turn i u H3 (fun v H6 => N (ys ++ [v]) H6) (fun H5 => N ys H5) hu s3 fun v H4 s4 hv => hN _ _ ⟨s3.trans s4,by rw [List.length_append,hl]; rfl,fun j v' hj => ?_⟩
    by_cases c:j < ys.length
    · rw [List.getElem?_append_left c] at hj
      exact st _ _ _ _ s4 (hy j v' hj)
    · rw [List.getElem?_append_right (Nat.le_of_not_lt c)] at hj
      have e:j - ys.length = 0:=by
        have:=(List.getElem?_eq_some_iff.mp hj).1
        have h1:[v].length = 1:=rfl
        omega
      rw [e] at hj
      cases hj
      have ej:j = i:=by omega
      rw [ej]
      exact hv
  · rintro ys H3 D ⟨s3,hl,hy⟩ hD
    exact fin ys H3 D s3 hl hy hD
theorem comp_eachL {K:PySem.W.Frag} {H:Hp} {p:Addr} {xs:List V} (R:Nat → Hp → V → Prop) {n:Nat} {κ:List Nat} {g:TG} {te:TE} {σ:St} {Q:VK}
    (st:∀ i H H' v,Same H H' → R i H v → R i H' v) (hp:SqL K H p xs) (hx:xs.length ≤ 1000)
    (turn:∀ (i:Nat) (u:V) (H3:Hp) (N:V → Hp → Prop) (B:Hp → Prop),xs[i]? = some u → Same H H3 → (∀ v H4,Same H3 H4 → R i H4 v → N v H4) →
      g u (blkSt n κ σ) H3 fun σ4 H4 => σ4.drop n = (blkSt n κ σ).drop n ∧ tYes σ4 H4 fun b H5 => if b = true then te σ4 H5 N else B H5)
    (fin:∀ ys H3 D,Same H H3 → ys.length = xs.length → (∀ (i:Nat) (v:V),ys[i]? = some v → R i H3 v) → H3 D = none → Q (.ref D) (upd H3 D (.lst ys))) :
    CompRun n κ g tYes te σ (Itl K p) H Q:=by
  refine comp_by (J:=Itl K p) (xs:=xs) (fun i ys H3 => Same H H3 ∧ ys.length = i ∧ ∀ (j:Nat) (v:V),ys[j]? = some v → R j H3 v) ⟨Same.refl _,rfl,fun j v h => nomatch h⟩ (small hx) ?_ ?_ ?_ ?_ ?_ ?_
  · rintro i ys H3 ⟨_,hl,_⟩
    exact Nat.le_of_eq hl
  · rintro i u ys H3 hu ⟨s3,_⟩
    exact ⟨_,_,s3.seq hp,hu⟩
  · rintro i ys u H3 H' hn ⟨s3,_⟩ hy
    exact ⟨hy.1,hy.2 _ (s3.seq hp)⟩
  · rintro ys H3 ⟨s3,_⟩
    exact ⟨_,s3.seq hp,Nat.le_refl _⟩
  · rintro i u ys H3 N hN hu ⟨s3,hl,hy⟩
    refine turn i u H3 (fun v H6 => N (ys ++ [v]) H6) (fun H5 => N ys H5) hu s3 fun v H4 s4 hv => hN _ _ ⟨s3.trans s4,by rw [List.length_append,hl]; rfl,fun j v' hj => ?_⟩
    by_cases c:j < ys.length
    · rw [List.getElem?_append_left c] at hj
      exact st _ _ _ _ s4 (hy j v' hj)
    · rw [List.getElem?_append_right (Nat.le_of_not_lt c)] at hj
      have e:j - ys.length = 0:=by
        have:=(List.getElem?_eq_some_iff.mp hj).1
        have h1:[v].length = 1:=rfl
        omega
      rw [e] at hj
      cases hj
      have ej:j = i:=by omega
      rw [ej]
      exact hv
  · rintro ys H3 D ⟨s3,hl,hy⟩ hD
    exact fin ys H3 D s3 hl hy hD
theorem comp_eachR {H:Hp} {m:Nat} (R:Nat → Hp → V → Prop) {n:Nat} {κ:List Nat} {g:TG} {te:TE} {σ:St} {Q:VK}
    (st:∀ i H H' v,Same H H' → R i H v → R i H' v) (hx:m ≤ 1000)
    (turn:∀ (i:Nat) (H3:Hp) (N:V → Hp → Prop) (B:Hp → Prop),i < m → Same H H3 → (∀ v H4,Same H3 H4 → R i H4 v → N v H4) →
      g (.int (0 + (i:Int))) (blkSt n κ σ) H3 fun σ4 H4 => σ4.drop n = (blkSt n κ σ).drop n ∧ tYes σ4 H4 fun b H5 => if b = true then te σ4 H5 N else B H5)
    (fin:∀ ys H3 D,Same H H3 → ys.length = m → (∀ (i:Nat) (v:V),ys[i]? = some v → R i H3 v) → H3 D = none → Q (.ref D) (upd H3 D (.lst ys))) :
    CompRun n κ g tYes te σ (Itr 0 m) H Q:=by
  refine comp_by (J:=Itr 0 m) (xs:=rangeV 0 m) (fun i ys H3 => Same H H3 ∧ ys.length = i ∧ ∀ (j:Nat) (v:V),ys[j]? = some v → R j H3 v) ⟨Same.refl _,rfl,fun j v h => nomatch h⟩ (by rw [rangeV_len]; exact small hx) ?_ ?_ ?_ ?_ ?_ ?_
  · rintro i ys H3 ⟨_,hl,_⟩
    exact Nat.le_of_eq hl
  · rintro i x zs H3 hx _
    exact itr_go hx
  · rintro i zs x H3 H' hi _ hy
    rw [rangeV_len] at hi
    exact itr_yld' hi hy
  · rintro zs H3 _
    rw [rangeV_len]
    exact Nat.le_refl _
  · rintro i u ys H3 N hN hu ⟨s3,hl,hy⟩
    obtain ⟨hi9,rfl⟩:=rangeV_get.mp hu
    refine turn i H3 (fun v H6 => N (ys ++ [v]) H6) (fun H5 => N ys H5) hi9 s3 fun v H4 s4 hv => hN _ _ ⟨s3.trans s4,by rw [List.length_append,hl]; rfl,fun j v' hj => ?_⟩
    by_cases c:j < ys.length
    · rw [List.getElem?_append_left c] at hj
      exact st _ _ _ _ s4 (hy j v' hj)
    · rw [List.getElem?_append_right (Nat.le_of_not_lt c)] at hj
      have e:j - ys.length = 0:=by
        have:=(List.getElem?_eq_some_iff.mp hj).1
        have h1:[v].length = 1:=rfl
        omega
      rw [e] at hj
      cases hj
      have ej:j = i:=by omega
      rw [ej]
      exact hv
  · rintro ys H3 D ⟨s3,hl,hy⟩ hD
    rw [rangeV_len] at hl
    exact fin ys H3 D s3 hl hy hD
end K17
namespace K17
open PySem L2
mutual
noncomputable def Tr.dat:Tr → PyData
  | .w s => .str s
  | .n ts => .tuple (dats ts)
noncomputable def dats:List Tr → List PyData
  | [] => []
  | t :: ts => t.dat :: dats ts
end
mutual
theorem TrAt.dat {K:PySem.W.Frag} {H:Hp}:∀ {x:V} {t:Tr},TrAt K H x t → Dat K H x t.dat
  | _,_,.w s => .str s
  | _,_,.n h r => .tup (SqT.of h) (TrsAt.dats r)
theorem TrsAt.dats {K:PySem.W.Frag} {H:Hp}:∀ {xs:List V} {ts:List Tr},TrsAt K H xs ts → Dats K H xs (dats ts)
  | _,_,.nil => .nil
  | _,_,.cons h r => .cons (TrAt.dat h) (TrsAt.dats r)
end
noncomputable def Fine (ps:List (List Nat)):Prop:=∀ p ∈ ps,∀ c ∈ p,c < 0x110000
theorem sok_iff (z:Str):PyData.strOk z = true ↔ ∀ c ∈ z.cps.toList,c < 0x110000:=by
  unfold PyData.strOk
  rw [Array.all_eq_true_iff_forall_mem]
  simp
mutual
theorem dat_lay:∀ {t:Tr},Fine t.flat → t.dat.canLay0 = true
  | .w s,h => by
    simp only [Tr.dat,PyData.canLay0]
    exact (sok_iff s).mpr (h (cps s) (.head _))
  | .n ts,h => by
    simp only [Tr.dat,PyData.canLay0]
    exact dats_lay (ts:=ts) fun p hp => h p (.tail _ (List.mem_append_left _ hp))
theorem dats_lay:∀ {ts:List Tr},Fine (flats ts) → PyData.canLayAll0 (dats ts) = true
  | [],_ => by simp only [dats,PyData.canLayAll0]
  | t :: ts,h => by
    simp only [dats,PyData.canLayAll0,dat_lay (t:=t) fun p hp => h p (List.mem_append_left _ hp),dats_lay (ts:=ts) fun p hp => h p (List.mem_append_right _ hp),Bool.and_self]
end
mutual
theorem dat_depth:∀ t:Tr,t.dat.depth ≤ t.dep + 2
  | .w s => by
    simp only [Tr.dat,PyData.depth]
    omega
  | .n ts => by
    have:=dats_depth ts
    simp only [Tr.dat,PyData.depth]
    show _ ≤ 1 + deps ts + 2
    omega
theorem dats_depth:∀ ts:List Tr,PyData.depthAll (dats ts) ≤ deps ts + 2
  | [] => by simp only [dats,PyData.depthAll]; omega
  | t :: ts => by
    have h1:=dat_depth t
    have h2:=dats_depth ts
    simp only [dats,PyData.depthAll]
    show _ ≤ max t.dep (deps ts) + 2
    omega
end
noncomputable def Tg (n:Nat) (t:Tr):Prop:=t.ok ∧ (∀ p ∈ t.flat,TokC p) ∧ t.dep ≤ n
theorem Tg.mono {n m:Nat} {t:Tr} (h:Tg n t) (l:n ≤ m):Tg m t:=⟨h.1,h.2.1,Nat.le_trans h.2.2 l⟩
theorem tg_w {n:Nat} {s:Str} (h:Tk.Word (cps s)) (l:s.length ≤ 25) (c:∀ c ∈ cps s,c < 0x110000):Tg n (.w s) :=
  ⟨h,fun p hp => by rw [List.mem_singleton.mp (show p ∈ [cps s] from hp)]; exact tokc_word h (by rw [cps_len]; exact l) c,Nat.zero_le _⟩
theorem tg_name {n:Nat} {s:Str} (h:nameOk s = true):Tg n (.w s):=by
  have:=near_word (q:="") (t:=s) h (.inl rfl)
  have e:nearW "" s = s:=if_pos rfl
  rw [e] at this
  exact tg_w this.1 this.2.1 this.2.2
theorem oks_of:∀ {ts:List Tr},(∀ t ∈ ts,t.ok) → oks ts
  | [],_ => True.intro
  | t :: ts,h => ⟨h t (.head _),oks_of fun u hu => h u (.tail _ hu)⟩
theorem flats_all {p:List Nat}:∀ {ts:List Tr},p ∈ flats ts → ∃ t ∈ ts,p ∈ t.flat
  | t :: ts,h => by
    rcases List.mem_append.mp (show p ∈ t.flat ++ flats ts from h) with z | z
    · exact ⟨t,.head _,z⟩
    · obtain ⟨u,hu,hp⟩:=flats_all z
      exact ⟨u,.tail _ hu,hp⟩
theorem deps_of {n:Nat}:∀ {ts:List Tr},(∀ t ∈ ts,t.dep ≤ n) → deps ts ≤ n
  | [],_ => Nat.zero_le _
  | t :: ts,h => by
    have h1:=h t (.head _)
    have h2:=deps_of (ts:=ts) fun u hu => h u (.tail _ hu)
    show max t.dep (deps ts) ≤ n
    omega
theorem tg_n {n:Nat} {ts:List Tr} (h:∀ t ∈ ts,Tg n t):Tg (n + 1) (.n ts):=by
  refine ⟨oks_of fun t ht => (h t ht).1,fun p hp => ?_,?_⟩
  · have hp':p ∈ [40] :: (flats ts ++ [[41]]):=hp
    simp only [List.mem_cons,List.mem_append,List.mem_nil_iff,or_false] at hp'
    rcases hp' with rfl | hp' | rfl
    · exact tokc_op
    · obtain ⟨t,ht,hz⟩:=flats_all hp'
      exact (h t ht).2.1 p hz
    · exact tokc_cl
  · have:=deps_of fun t ht => (h t ht).2.2
    show 1 + deps ts ≤ n + 1
    omega
theorem tg_kd {k:Kd} (h:kSm k):Tg 2 k.tr:=⟨tr_ok h.1,tr_toks h.1,Nat.le_trans (dep_lv k) h.2⟩
theorem tg_ex {e:Ex} (h:exSm e):Tg 2 e.tr:=⟨ex_tr_ok h.1,ex_toks h.1,by rw [ex_dep]; exact h.2.1⟩
theorem tg_key (n:Nat):∀ s ∈ (["bare","hid","told","fun","kind","open","face","part","maker","made"]:List Str),Tg n (.w s):=fun s hs => by
  simp only [List.mem_cons,List.mem_nil_iff,or_false] at hs
  rcases hs with rfl | rfl | rfl | rfl | rfl | rfl | rfl | rfl | rfl | rfl <;> exact tg_w ⟨by decide +kernel,by decide +kernel⟩ (by decide +kernel) (by decide +kernel)
theorem all_cons {α:Type} {a:α} {r:List α} {p:α → Prop} (ha:p a) (hr:∀ y ∈ r,p y):∀ y ∈ a :: r,p y:=fun y hy => by
  rcases List.mem_cons.mp hy with rfl | hy
  · exact ha
  · exact hr y hy
theorem all_nil {α:Type} {p:α → Prop}:∀ y ∈ ([]:List α),p y:=fun y hy => nomatch hy
theorem all_map {α β:Type} {f:α → β} {l:List α} {p:β → Prop} (h:∀ a ∈ l,p (f a)):∀ y ∈ l.map f,p y:=fun y hy => by
  obtain ⟨a,ha,rfl⟩:=List.mem_map.mp hy
  exact h a ha
theorem tg_row {r:Row} (h:nameOk r.1 = true ∧ kSm r.2):Tg 3 (rwT r):=tg_n (all_cons (tg_name h.1) (all_cons (tg_kd h.2) all_nil))
theorem tg_rows {rs:List Row} (h:rowsOk rs):∀ t ∈ rs.map rwT,Tg 3 t:=all_map fun r hr => tg_row (h.2 r hr)
theorem tg_rf {r:Rf} (h:r.ok):∀ t ∈ r.ts,Tg 3 t:=all_cons (tg_name h.1) (tg_rows h.2)
theorem tg_seal {s:Option Rf} (h:sealOk s):Tg 4 (sealT s):=by
  cases s with
  | none => exact tg_key 4 _ (by decide +kernel)
  | some r => exact tg_n (tg_rf h)
theorem tg_fi {i:FI} (h:i.ok):Tg 5 i.tr:=by
  cases i with
  | hid w => exact tg_n (all_cons (tg_key 4 _ (by decide +kernel)) (all_cons (tg_name h) all_nil))
  | told w k => exact tg_n (all_cons (tg_key 4 _ (by decide +kernel)) (all_cons (tg_name h.1) (all_cons ((tg_kd h.2).mono (by decide)) all_nil)))
  | fn w ks k => exact tg_n (all_cons (tg_key 4 _ (by decide +kernel)) (all_cons (tg_name h.1) (all_cons ((tg_n (all_map fun k hk => tg_kd (h.2.1.2 k hk))).mono (by decide)) (all_cons ((tg_kd h.2.2).mono (by decide)) all_nil))))
theorem tg_pi {i:PI} (h:i.ok):Tg 5 i.tr:=by
  cases i with
  | kind w k => exact tg_n (all_cons (tg_key 4 _ (by decide +kernel)) (all_cons (tg_name h.1) (all_cons ((tg_kd h.2).mono (by decide)) all_nil)))
  | opn w => exact tg_n (all_cons (tg_key 4 _ (by decide +kernel)) (all_cons (tg_name h) all_nil))
  | fn w rs k e => exact tg_n (all_cons (tg_key 4 _ (by decide +kernel)) (all_cons (tg_name h.1) (all_cons (tg_n (tg_rows h.2.1)) (all_cons ((tg_kd h.2.2.1).mono (by decide)) (all_cons ((tg_ex h.2.2.2).mono (by decide)) all_nil)))))
theorem tg_fo {f:Fo} (h:foOk f):Tg 4 (foT f):=tg_n (all_cons (tg_name h.1) (tg_rf h.2))
theorem tg_dc {d:Dc} (h:d.ok):Tg 6 d.tr:=by
  cases d with
  | face w is => exact tg_n (all_cons (tg_key 5 _ (by decide +kernel)) (all_cons (tg_name h.1) (all_map fun i hi => tg_fi (h.2.2 i hi))))
  | part w s is => exact tg_n (all_cons (tg_key 5 _ (by decide +kernel)) (all_cons (tg_name h.1) (all_cons ((tg_seal h.2.1).mono (by decide)) (all_map fun i hi => tg_pi (h.2.2.2 i hi)))))
  | maker w fs s is => exact tg_n (all_cons (tg_key 5 _ (by decide +kernel)) (all_cons (tg_name h.1) (all_cons (tg_n (all_map fun f hf => tg_fo (h.2.1.2.2 f hf))) (all_cons ((tg_seal h.2.2.1).mono (by decide)) (all_map fun i hi => tg_pi (h.2.2.2.2 i hi))))))
  | made w m ps => exact tg_n (all_cons (tg_key 5 _ (by decide +kernel)) (all_cons (tg_name h.1) (all_cons (tg_name h.2.1) (all_map fun p hp => tg_name (h.2.2.2.2 p hp)))))
theorem tg_fine {n:Nat} {t:Tr} (h:Tg n t):Fine t.flat:=fun p hp => (h.2.1 p hp).2.2
theorem tg_shaped {n:Nat} {t:Tr} (h:Tg n t) (hn:n ≤ 40):SeqAt.shaped t.dat = true:=by
  have h2:=dat_depth t
  have h3:t.dat.depth ≤ 64:=by
    have:=h.2.2
    omega
  unfold SeqAt.shaped
  rw [dat_lay (tg_fine h),decide_eq_true h3]
  rfl
theorem flats_sum {c:Nat}:∀ {ts:List Tr},(∀ t ∈ ts,t.flat.length ≤ c) → (flats ts).length ≤ c * ts.length
  | [],_ => Nat.zero_le _
  | t :: ts,h => by
    have h1:=h t (.head _)
    have h2:=flats_sum (ts:=ts) fun u hu => h u (.tail _ hu)
    show (t.flat ++ flats ts).length ≤ c * (ts.length + 1)
    rw [List.length_append,Nat.mul_add]
    omega
theorem flat_n (ts:List Tr):(Tr.n ts).flat.length = (flats ts).length + 2:=by
  show ([40] :: (flats ts ++ [[41]])).length = _
  rw [List.length_cons,List.length_append]
  rfl
theorem flats_c (t:Tr) (ts:List Tr):(flats (t :: ts)).length = t.flat.length + (flats ts).length:=by
  show (t.flat ++ flats ts).length = _
  rw [List.length_append]
theorem flat_w (s:Str):(Tr.w s).flat.length = 1:=rfl
theorem flats_nil:(flats []).length = 0:=rfl
theorem n_kd {k:Kd} (h:kSm k):k.tr.flat.length ≤ 11:=by
  have h1:=flat_lv k
  have h2:=h.2
  omega
theorem n_rows {rs:List Row} (h:rowsOk rs):(flats (rs.map rwT)).length ≤ 14 * rs.length:=by
  have:=flats_sum (c:=14) (ts:=rs.map rwT) (all_map fun r hr => by
    have:=n_kd (h.2 r hr).2
    show (Tr.n [.w r.1,r.2.tr]).flat.length ≤ 14
    rw [flat_n,flats_c,flats_c,flat_w,flats_nil]
    omega)
  rw [List.length_map] at this
  exact this
theorem n_rf {r:Rf} (h:r.ok):(flats r.ts).length ≤ 57:=by
  have h1:=n_rows h.2
  have h2:=h.2.1
  show (flats (.w r.w :: r.rows.map rwT)).length ≤ 57
  rw [flats_c,flat_w]
  omega
theorem n_seal {s:Option Rf} (h:sealOk s):(sealT s).flat.length ≤ 59:=by
  cases s with
  | none => exact Nat.le_of_ble_eq_true rfl
  | some r =>
    have:=n_rf h
    show (Tr.n r.ts).flat.length ≤ 59
    rw [flat_n]
    omega
theorem n_fi {i:FI} (h:i.ok):i.tr.flat.length ≤ 95:=by
  cases i with
  | hid w => exact Nat.le_of_ble_eq_true rfl
  | told w k =>
    have:=n_kd h.2
    show (Tr.n [_,_,_]).flat.length ≤ 95
    rw [flat_n,flats_c,flats_c,flats_c,flat_w,flat_w,flats_nil]
    omega
  | fn w ks k =>
    have h1:=n_kd h.2.2
    have h2:=flats_sum (c:=11) (ts:=ks.map Kd.tr) (all_map fun k hk => n_kd (h.2.1.2 k hk))
    rw [List.length_map] at h2
    have h3:=h.2.1.1
    show (Tr.n [_,_,.n (ks.map Kd.tr),_]).flat.length ≤ 95
    rw [flat_n,flats_c,flats_c,flats_c,flats_c,flat_w,flat_w,flats_nil,flat_n]
    omega
theorem n_pi {i:PI} (h:i.ok):i.tr.flat.length ≤ 95:=by
  cases i with
  | kind w k =>
    have:=n_kd h.2
    show (Tr.n [_,_,_]).flat.length ≤ 95
    rw [flat_n,flats_c,flats_c,flats_c,flat_w,flat_w,flats_nil]
    omega
  | opn w => exact Nat.le_of_ble_eq_true rfl
  | fn w rs k e =>
    have h1:=n_kd h.2.2.1
    have h2:=n_rows h.2.1
    have h3:=h.2.1.1
    have h4:=h.2.2.2.2.2
    show (Tr.n [_,_,.n (rs.map rwT),_,_]).flat.length ≤ 95
    rw [flat_n,flats_c,flats_c,flats_c,flats_c,flats_c,flat_w,flat_w,flats_nil,flat_n]
    omega
noncomputable def Dc.many:Dc → Nat
  | .face _ is => is.length
  | .part _ _ is => is.length
  | .maker _ _ _ is => is.length
  | .made _ _ _ => 0
theorem n_dc {d:Dc} (h:d.ok):d.tr.flat.length ≤ 95 * d.many + 310:=by
  cases d with
  | face w is =>
    have h1:=flats_sum (c:=95) (ts:=is.map FI.tr) (all_map fun i hi => n_fi (h.2.2 i hi))
    rw [List.length_map] at h1
    show (Tr.n (.w _ :: .w _ :: is.map FI.tr)).flat.length ≤ 95 * is.length + 310
    rw [flat_n,flats_c,flats_c,flat_w,flat_w]
    omega
  | part w s is =>
    have h1:=flats_sum (c:=95) (ts:=is.map PI.tr) (all_map fun i hi => n_pi (h.2.2.2 i hi))
    rw [List.length_map] at h1
    have h2:=n_seal h.2.1
    show (Tr.n (.w _ :: .w _ :: sealT s :: is.map PI.tr)).flat.length ≤ 95 * is.length + 310
    rw [flat_n,flats_c,flats_c,flats_c,flat_w,flat_w]
    omega
  | maker w fs s is =>
    have h1:=flats_sum (c:=95) (ts:=is.map PI.tr) (all_map fun i hi => n_pi (h.2.2.2.2 i hi))
    rw [List.length_map] at h1
    have h2:=n_seal h.2.2.1
    have h3:=flats_sum (c:=60) (ts:=fs.map foT) (all_map fun f hf => by
      have:=n_rf (h.2.1.2.2 f hf).2
      show (Tr.n (.w f.1 :: f.2.ts)).flat.length ≤ 60
      rw [flat_n,flats_c,flat_w]
      omega)
    rw [List.length_map] at h3
    have h4:=h.2.1.2.1
    show (Tr.n (.w _ :: .w _ :: .n (fs.map foT) :: sealT s :: is.map PI.tr)).flat.length ≤ 95 * is.length + 310
    rw [flat_n,flats_c,flats_c,flats_c,flats_c,flat_w,flat_w,flat_n]
    omega
  | made w m ps =>
    have h1:=flats_sum (c:=1) (ts:=ps.map Tr.w) (all_map fun p hp => Nat.le_refl _)
    rw [List.length_map] at h1
    have h2:=h.2.2.2.1
    show (Tr.n (.w _ :: .w _ :: .w _ :: ps.map Tr.w)).flat.length ≤ 95 * 0 + 310
    rw [flat_n,flats_c,flats_c,flats_c,flat_w,flat_w,flat_w]
    omega
mutual
noncomputable def Dd.py:Dd → PyData
  | .s x => .str x
  | .i n => .int n
  | .o => .none
  | .t ds => .tuple (pys ds)
noncomputable def pys:List Dd → List PyData
  | [] => []
  | d :: ds => d.py :: pys ds
end
noncomputable def Dd.fit:Nat → Dd → Prop
  | 0,_ => False
  | n + 1,.s x => ∀ c ∈ cps x,c < 0x110000
  | n + 1,.i _ => True
  | n + 1,.o => True
  | n + 1,.t ds => ds.length ≤ 100 ∧ ∀ d ∈ ds,d.fit n
theorem fit_mono:∀ {n m:Nat} {d:Dd},d.fit n → n ≤ m → d.fit m
  | 0,_,_,h,_ => h.elim
  | n + 1,0,_,_,l => absurd l (by omega)
  | n + 1,m + 1,.s x,h,_ => h
  | n + 1,m + 1,.i _,h,_ => h
  | n + 1,m + 1,.o,h,_ => h
  | n + 1,m + 1,.t ds,h,l => ⟨h.1,fun d hd => fit_mono (h.2 d hd) (by omega)⟩
theorem fit_t {n:Nat} {ds:List Dd} (h:ds.length ≤ 100) (a:∀ d ∈ ds,d.fit n):(Dd.t ds).fit (n + 1):=⟨h,a⟩
theorem fit_name {n:Nat} {s:Str} (h:nameOk s = true):(Dd.s s).fit (n + 1):=fun c hc => by
  have:=(name_facts h).2.2 c hc
  omega
theorem fit_kd:∀ {k:Kd},k.ok → ∀ {n:Nat},k.dp + 2 ≤ n → k.d.fit n
  | .num m,h,n + 2,_ => fit_t (show 2 ≤ 100 by decide) (all_cons (show ∀ c ∈ cps "num",_ by decide +kernel) (all_cons True.intro all_nil))
  | .name q t,h,n + 2,_ => fit_t (show 3 ≤ 100 by decide) (all_cons (show ∀ c ∈ cps "name",_ by decide +kernel) (all_cons (by
      rcases h.2 with e | e
      · rw [e]
        show ∀ c ∈ cps "",_
        decide +kernel
      · exact fit_name e) (all_cons (fit_name h.1) all_nil)))
  | .pair a b,h,n + 2,l => by
    have l':1 + max a.dp b.dp + 2 ≤ n + 2:=l
    exact fit_t (n:=n + 1) (by show 3 ≤ 100; decide) (all_cons (show ∀ c ∈ cps "pair",_ by decide +kernel) (all_cons (fit_kd h.1 (by omega)) (all_cons (fit_kd h.2 (by omega)) all_nil)))
  | .num m,h,0,l => absurd l (by omega)
  | .num m,h,1,l => absurd l (by show ¬ (0 + 2 ≤ 1); decide)
  | .name q t,h,0,l => absurd l (by omega)
  | .name q t,h,1,l => absurd l (by show ¬ (0 + 2 ≤ 1); decide)
  | .pair a b,h,0,l => absurd l (by omega)
  | .pair a b,h,1,l => absurd l (by omega)
theorem exds_map:∀ es:List Ex,exds es = es.map Ex.d
  | [] => rfl
  | e :: es => by
    show e.d :: exds es = _
    rw [exds_map es]
    rfl
theorem fit_ex:∀ (n:Nat) (e:Ex),e.ok → 2 * e.dp + 2 ≤ n → e.d.fit n
  | 0,_,_,l => absurd l (by omega)
  | 1,_,_,l => absurd l (by omega)
  | n + 2,.var s,h,_ => fit_t (show 2 ≤ 100 by decide) (all_cons (show ∀ c ∈ cps "var",_ by decide +kernel) (all_cons (fit_name h) all_nil))
  | n + 2,.node f es,⟨hf,hes⟩,l => by
    have l':2 * (1 + edps es) + 2 ≤ n + 2:=l
    have h4:=fits_le hf
    have sub:∀ m,n ≤ m → ∀ d ∈ exds es,d.fit m:=fun m hm d hd => by
      rw [exds_map] at hd
      obtain ⟨e,he,rfl⟩:=List.mem_map.mp hd
      have:=edps_mem he
      exact fit_mono (fit_ex n e (eoks_mem hes he) (by omega)) hm
    have lx:(exds es).length ≤ 4:=by rw [exds_map,List.length_map]; exact h4
    cases f with
    | lit v k => exact fit_t (n:=n + 1) (by simp only [List.length_cons]; omega) (all_cons (show ∀ c ∈ cps "lit",_ by decide +kernel) (all_cons True.intro (all_cons True.intro (sub _ (by omega)))))
    | op o k =>
      refine fit_t (n:=n + 1) (by simp only [List.length_cons]; omega) (all_cons (show ∀ c ∈ cps "op",_ by decide +kernel) (all_cons ?_ (all_cons True.intro (sub _ (by omega)))))
      rcases hf.2.1 with rfl | rfl | rfl <;> exact (show ∀ c ∈ cps _,c < 0x110000 by decide +kernel)
    | test o =>
      refine fit_t (n:=n + 1) (by simp only [List.length_cons]; omega) (all_cons (show ∀ c ∈ cps "test",_ by decide +kernel) (all_cons ?_ (sub _ (by omega))))
      rcases hf.2 with rfl | rfl <;> exact (show ∀ c ∈ cps _,c < 0x110000 by decide +kernel)
    | as_ k => exact fit_t (n:=n + 1) (by simp only [List.length_cons]; omega) (all_cons (show ∀ c ∈ cps "as",_ by decide +kernel) (all_cons True.intro (sub _ (by omega))))
    | let_ s => exact fit_t (n:=n + 1) (by simp only [List.length_cons]; omega) (all_cons (show ∀ c ∈ cps "let",_ by decide +kernel) (all_cons (fit_name hf.2) (sub _ (by omega))))
    | br z =>
      refine fit_t (n:=n + 1) (by simp only [List.length_cons]; omega) (all_cons ?_ (sub _ (by omega)))
      rcases hf with ⟨rfl,_⟩ | ⟨rfl,_⟩ | ⟨rfl,_⟩ | ⟨rfl,_⟩ <;> exact (show ∀ c ∈ cps _,c < 0x110000 by decide +kernel)
    | call q t =>
      refine fit_t (n:=n + 1) (show 4 ≤ 100 by decide) (all_cons (show ∀ c ∈ cps "call",_ by decide +kernel) (all_cons ?_ (all_cons (fit_name hf.2.1) (all_cons (fit_t (n:=n) (by omega) (sub _ (Nat.le_refl _))) all_nil))))
      rcases hf.2.2 with e | e
      · rw [e]
        exact (show ∀ c ∈ cps "",c < 0x110000 by decide +kernel)
      · exact fit_name e
theorem fit_rows {rs:List Row} (h:rowsOk rs):(Dd.t (rs.map rwD)).fit 5 :=
  fit_t (by rw [List.length_map]; have:=h.1; omega) (all_map fun r hr => fit_t (show 2 ≤ 100 by decide) (all_cons (fit_name (h.2 r hr).1) (all_cons (fit_kd (h.2 r hr).2.1 (by have:=(h.2 r hr).2.dp; omega)) all_nil)))
theorem fit_rf {r:Rf} (h:r.ok):r.d.fit 6:=fit_t (show 2 ≤ 100 by decide) (all_cons (fit_name h.1) (all_cons (fit_rows h.2) all_nil))
theorem fit_seal {s:Option Rf} (h:sealOk s):(sealD s).fit 6:=by
  cases s with
  | none => exact True.intro
  | some r => exact fit_rf h
theorem fit_fi {i:FI} (h:i.ok):i.d.fit 7:=by
  cases i with
  | hid w => exact fit_t (show 2 ≤ 100 by decide) (all_cons (show ∀ c ∈ cps "hid",_ by decide +kernel) (all_cons (fit_name h) all_nil))
  | told w k => exact fit_t (show 3 ≤ 100 by decide) (all_cons (show ∀ c ∈ cps "told",_ by decide +kernel) (all_cons (fit_name h.1) (all_cons (fit_kd h.2.1 (by have:=h.2.dp; omega)) all_nil)))
  | fn w ks k => exact fit_t (show 4 ≤ 100 by decide) (all_cons (show ∀ c ∈ cps "fun",_ by decide +kernel) (all_cons (fit_name h.1) (all_cons (fit_t (by rw [List.length_map]; have:=h.2.1.1; omega) (all_map fun k hk => fit_kd (h.2.1.2 k hk).1 (by have:=(h.2.1.2 k hk).dp; omega))) (all_cons (fit_kd h.2.2.1 (by have:=h.2.2.dp; omega)) all_nil))))
theorem fit_pi {i:PI} (h:i.ok):i.d.fit 7:=by
  cases i with
  | kind w k => exact fit_t (show 3 ≤ 100 by decide) (all_cons (show ∀ c ∈ cps "kind",_ by decide +kernel) (all_cons (fit_name h.1) (all_cons (fit_kd h.2.1 (by have:=h.2.dp; omega)) all_nil)))
  | opn w => exact fit_t (show 2 ≤ 100 by decide) (all_cons (show ∀ c ∈ cps "open",_ by decide +kernel) (all_cons (fit_name h) all_nil))
  | fn w rs k e => exact fit_t (show 5 ≤ 100 by decide) (all_cons (show ∀ c ∈ cps "fun",_ by decide +kernel) (all_cons (fit_name h.1) (all_cons (fit_mono (fit_rows h.2.1) (by decide)) (all_cons (fit_kd h.2.2.1.1 (by have:=h.2.2.1.dp; omega)) (all_cons (fit_ex _ e h.2.2.2.1 (by have:=h.2.2.2.2.1; omega)) all_nil)))))
theorem fit_dc {d:Dc} (h:d.ok):d.d.fit 9:=by
  cases d with
  | face w is => exact fit_t (show 3 ≤ 100 by decide) (all_cons (show ∀ c ∈ cps "face",_ by decide +kernel) (all_cons (fit_name h.1) (all_cons (fit_t (by rw [List.length_map]; have:=h.2.1; omega) (all_map fun i hi => fit_fi (h.2.2 i hi))) all_nil)))
  | part w s is => exact fit_t (show 4 ≤ 100 by decide) (all_cons (show ∀ c ∈ cps "part",_ by decide +kernel) (all_cons (fit_name h.1) (all_cons (fit_mono (fit_seal h.2.1) (by decide)) (all_cons (fit_t (by rw [List.length_map]; have:=h.2.2.1; omega) (all_map fun i hi => fit_pi (h.2.2.2 i hi))) all_nil))))
  | maker w fs s is => exact fit_t (show 5 ≤ 100 by decide) (all_cons (show ∀ c ∈ cps "maker",_ by decide +kernel) (all_cons (fit_name h.1) (all_cons (fit_t (by rw [List.length_map]; have:=h.2.1.2.1; omega) (all_map fun f hf => fit_t (show 2 ≤ 100 by decide) (all_cons (fit_name (h.2.1.2.2 f hf).1) (all_cons (fit_rf (h.2.1.2.2 f hf).2) all_nil)))) (all_cons (fit_mono (fit_seal h.2.2.1) (by decide)) (all_cons (fit_t (by rw [List.length_map]; have:=h.2.2.2.1; omega) (all_map fun i hi => fit_pi (h.2.2.2.2 i hi))) all_nil)))))
  | made w m ps => exact fit_t (show 4 ≤ 100 by decide) (all_cons (show ∀ c ∈ cps "made",_ by decide +kernel) (all_cons (fit_name h.1) (all_cons (fit_name h.2.1) (all_cons (fit_t (n:=7) (by rw [List.length_map]; have:=h.2.2.2.1; omega) (all_map fun p hp => fit_name (h.2.2.2.2 p hp))) all_nil))))
theorem al_d {K:PySem.W.Frag} {H:Hp}:∀ (n:Nat) {d:Dd} {x y:V},d.fit n → DAt H x d → DAt H y d → Al K H n x y
  | 0,_,_,_,h,_,_ => h.elim
  | n + 1,.s z,_,_,h,.s _,.s _ => .str z
  | n + 1,.i z,_,_,h,.i _,.i _ => .int z
  | n + 1,.o,_,_,h,.o,.o => .non
  | n + 1,.t ds,_,_,h,.t ha h1,.t hb h2 => .tup ha hb (h1.length.trans h2.length.symm) (by rw [h2.length]; exact h.1) fun i x y hx hy => by
    obtain ⟨e,he,h3⟩:=h1.get hx
    obtain ⟨e',he',h4⟩:=h2.get hy
    rw [he] at he'
    cases he'
    exact al_d n (h.2 e (List.mem_of_getElem? he)) h3 h4
mutual
theorem DAt.dat {K:PySem.W.Frag} {H:Hp}:∀ {x:V} {d:Dd},DAt H x d → Dat K H x d.py
  | _,_,.s x => .str x
  | _,_,.i n => .int n
  | _,_,.o => .non
  | _,_,.t h r => .tup (SqT.of h) (DsAt.dats r)
theorem DsAt.dats {K:PySem.W.Frag} {H:Hp}:∀ {xs:List V} {ds:List Dd},DsAt H xs ds → Dats K H xs (pys ds)
  | _,_,.nil => .nil
  | _,_,.cons h r => .cons (DAt.dat h) (DsAt.dats r)
end
theorem pys_lay:∀ {ds:List Dd},(∀ d ∈ ds,d.py.canLay0 = true) → PyData.canLayAll0 (pys ds) = true
  | [],_ => by simp only [pys,PyData.canLayAll0]
  | d :: ds,h => by simp only [pys,PyData.canLayAll0,h d (.head _),pys_lay (ds:=ds) fun e he => h e (.tail _ he),Bool.and_self]
theorem pys_depth {n:Nat}:∀ {ds:List Dd},(∀ d ∈ ds,d.py.depth ≤ n) → PyData.depthAll (pys ds) ≤ n
  | [],_ => by simp only [pys,PyData.depthAll]; omega
  | d :: ds,h => by
    have h1:=h d (.head _)
    have h2:=pys_depth (ds:=ds) fun e he => h e (.tail _ he)
    simp only [pys,PyData.depthAll]
    omega
theorem fit_lay:∀ (n:Nat) {d:Dd},d.fit n → d.py.canLay0 = true ∧ d.py.depth ≤ n
  | 0,_,h => h.elim
  | n + 1,.s x,h => by
    simp only [Dd.py,PyData.canLay0,PyData.depth]
    exact ⟨(sok_iff x).mpr h,by omega⟩
  | n + 1,.i x,h => by
    simp only [Dd.py,PyData.canLay0,PyData.depth]
    exact ⟨trivial,by omega⟩
  | n + 1,.o,h => by
    simp only [Dd.py,PyData.canLay0,PyData.depth]
    exact ⟨trivial,by omega⟩
  | n + 1,.t ds,h => by
    simp only [Dd.py,PyData.canLay0,PyData.depth]
    exact ⟨pys_lay fun d hd => (fit_lay n (h.2 d hd)).1,Nat.succ_le_succ (pys_depth fun d hd => (fit_lay n (h.2 d hd)).2)⟩
theorem list_fit {n:Nat} {ds:List Dd} (h:∀ d ∈ ds,d.fit n) (hn:n ≤ 60):(PyData.list (pys ds)).canLay0 = true ∧ SeqAt.shaped (.list (pys ds)) = true:=by
  have h1:=pys_lay fun d hd => (fit_lay n (h d hd)).1
  have h2:=pys_depth fun d hd => (fit_lay n (h d hd)).2
  have h3:(PyData.list (pys ds)).canLay0 = true:=by simp only [PyData.canLay0,h1]
  refine ⟨h3,?_⟩
  have h4:(PyData.list (pys ds)).depth ≤ 64:=by
    simp only [PyData.depth]
    omega
  unfold SeqAt.shaped
  rw [h3,decide_eq_true h4]
  rfl
theorem TrAt.node {K:PySem.W.Frag} {H:Hp} {x:V} {ts:List Tr} (h:TrAt K H x (.n ts)):∃ a xs,x = .ref a ∧ H a = some (.tup xs) ∧ TrsAt K H xs ts:=by
  cases h with
  | n ha hs => exact ⟨_,_,rfl,ha,hs⟩
theorem TrAt.word {K:PySem.W.Frag} {H:Hp} {x:V} {s:Str} (h:TrAt K H x (.w s)):x = .str s:=by
  cases h
  rfl
theorem TrsAt.one {K:PySem.W.Frag} {H:Hp} {xs:List V} {t:Tr} {ts:List Tr} (h:TrsAt K H xs (t :: ts)):∃ x ys,xs = x :: ys ∧ TrAt K H x t ∧ TrsAt K H ys ts:=by
  cases h with
  | cons a b => exact ⟨_,_,rfl,a,b⟩
theorem TrsAt.none {K:PySem.W.Frag} {H:Hp} {xs:List V} (h:TrsAt K H xs []):xs = []:=by
  cases h
  rfl
theorem DAt.tup {H:Hp} {x:V} {ts:List Dd} (h:DAt H x (.t ts)):∃ a xs,x = .ref a ∧ H a = some (.tup xs) ∧ DsAt H xs ts:=by
  cases h with
  | t ha hs => exact ⟨_,_,rfl,ha,hs⟩
theorem DAt.str {H:Hp} {x:V} {s:Str} (h:DAt H x (.s s)):x = .str s:=by
  cases h
  rfl
theorem DAt.none {H:Hp} {x:V} (h:DAt H x .o):x = .non:=by
  cases h
  rfl
theorem DsAt.one {H:Hp} {xs:List V} {t:Dd} {ts:List Dd} (h:DsAt H xs (t :: ts)):∃ x ys,xs = x :: ys ∧ DAt H x t ∧ DsAt H ys ts:=by
  cases h with
  | cons a b => exact ⟨_,_,rfl,a,b⟩
theorem DsAt.none {H:Hp} {xs:List V} (h:DsAt H xs []):xs = []:=by
  cases h
  rfl
end K17
namespace K17
open PySem L2
noncomputable def spNamed (K:PySem.W.Frag):Sp:=fun vs H Q _ => ∃ (p:Addr) (xs:List V) (rs:List Row),vs = [.ref p] ∧ H p = some (.tup xs) ∧ TrsAt K H xs (rs.map rwT) ∧ rowsOk rs ∧ ∀ H' v,Same H H' → DAt H' v (.t (rs.map rwD)) → Q v H'
noncomputable def spRefOf (K:PySem.W.Frag):Sp:=fun vs H Q _ => ∃ (p:Addr) (xs:List V) (r:Rf),vs = [.ref p] ∧ H p = some (.tup xs) ∧ TrsAt K H xs r.ts ∧ r.ok ∧ ∀ H' v,Same H H' → DAt H' v r.d → Q v H'
noncomputable def spSealOf (K:PySem.W.Frag):Sp:=fun vs H Q _ => ∃ (x:V) (s:Option Rf),vs = [x] ∧ TrAt K H x (sealT s) ∧ sealOk s ∧ ∀ H' v,Same H H' → DAt H' v (sealD s) → Q v H'
noncomputable def spFormalOf (K:PySem.W.Frag):Sp:=fun vs H Q _ => ∃ (x:V) (f:Fo),vs = [x] ∧ TrAt K H x (foT f) ∧ foOk f ∧ ∀ H' v,Same H H' → DAt H' v (foD f) → Q v H'
noncomputable def spFIOf (K:PySem.W.Frag):Sp:=fun vs H Q _ => ∃ (x:V) (i:FI),vs = [x] ∧ TrAt K H x i.tr ∧ i.ok ∧ ∀ H' v,Same H H' → DAt H' v i.d → Q v H'
noncomputable def spPIOf (K:PySem.W.Frag):Sp:=fun vs H Q _ => ∃ (x:V) (i:PI),vs = [x] ∧ TrAt K H x i.tr ∧ i.ok ∧ ∀ H' v,Same H H' → DAt H' v i.d → Q v H'
noncomputable def spPIsOf (K:PySem.W.Frag):Sp:=fun vs H Q _ => ∃ (p:Addr) (xs:List V) (is:List PI),vs = [.ref p] ∧ H p = some (.tup xs) ∧ TrsAt K H xs (is.map PI.tr) ∧ is.length ≤ 16 ∧ (∀ i ∈ is,i.ok) ∧ ∀ H' v,Same H H' → DAt H' v (.t (is.map PI.d)) → Q v H'
noncomputable def spDcOf (K:PySem.W.Frag):Sp:=fun vs H Q _ => ∃ (x:V) (d:Dc),vs = [x] ∧ TrAt K H x d.tr ∧ d.ok ∧ ∀ H' v,Same H H' → DAt H' v d.d → Q v H'
noncomputable def spFaceOf (K:PySem.W.Frag):Sp:=fun vs H Q _ => ∃ (x:V) (w:Str) (is:List FI),vs = [x] ∧ TrAt K H x (Dc.face w is).tr ∧ (Dc.face w is).ok ∧ ∀ H' v,Same H H' → DAt H' v (Dc.face w is).d → Q v H'
noncomputable def spPartOf (K:PySem.W.Frag):Sp:=fun vs H Q _ => ∃ (x:V) (w:Str) (s:Option Rf) (is:List PI),vs = [x] ∧ TrAt K H x (Dc.part w s is).tr ∧ (Dc.part w s is).ok ∧ ∀ H' v,Same H H' → DAt H' v (Dc.part w s is).d → Q v H'
noncomputable def spMakerOf (K:PySem.W.Frag):Sp:=fun vs H Q _ => ∃ (x:V) (w:Str) (fs:List Fo) (s:Option Rf) (is:List PI),vs = [x] ∧ TrAt K H x (Dc.maker w fs s is).tr ∧ (Dc.maker w fs s is).ok ∧ ∀ H' v,Same H H' → DAt H' v (Dc.maker w fs s is).d → Q v H'
noncomputable def spMadeOf (K:PySem.W.Frag):Sp:=fun vs H Q _ => ∃ (x:V) (w m:Str) (ps:List Str),vs = [x] ∧ TrAt K H x (Dc.made w m ps).tr ∧ (Dc.made w m ps).ok ∧ ∀ H' v,Same H H' → DAt H' v (Dc.made w m ps).d → Q v H'
noncomputable def spReadHouse (K:PySem.W.Frag):Sp:=fun vs H Q _ => ∃ (z:Str) (ds:List Dc),vs = [.str z] ∧ z.length ≤ 90000 ∧ Tk.toks (cps z) = flats (ds.map Dc.tr) ∧ ds.length ≤ 2 ∧ (∀ d ∈ ds,d.ok) ∧ ∀ H' (l:Addr) xs,Same H H' → H l = none → H' l = some (.lst xs) → DsAt H' xs (ds.map Dc.d) → Q (.ref l) H'
theorem cut_k {xs:List V} (k:Nat) {p:Addr} (H:Hp):(upd H p (.tup (cutV xs (some (k:Int)) none))) p = some (.tup (xs.drop k)):=by rw [upd_same,cut_from]
theorem map_get {α β:Type} {f:α → β} {l:List α} {i:Nat} {b:β} (h:(l.map f)[i]? = some b):∃ a,l[i]? = some a ∧ f a = b:=by
  rw [List.getElem?_map] at h
  exact Option.map_eq_some_iff.mp h
theorem map_get' {α β:Type} {f:α → β} {l:List α} {i:Nat} {a:α} (h:l[i]? = some a):(l.map f)[i]? = some (f a):=by
  rw [List.getElem?_map,h]
  rfl
theorem at0 (v:V) (r:List V):atI (v :: r) 0 = some v:=(atI_nat (j:=0) rfl:atI (v :: r) ((0:Nat):Int) = _)
theorem at1 (v u:V) (r:List V):atI (v :: u :: r) 1 = some u:=(atI_nat (j:=1) rfl:atI (v :: u :: r) ((1:Nat):Int) = _)
theorem at2 (v u t:V) (r:List V):atI (v :: u :: t :: r) 2 = some t:=(atI_nat (j:=2) rfl:atI (v :: u :: t :: r) ((2:Nat):Int) = _)
theorem at3 (v u t s:V) (r:List V):atI (v :: u :: t :: s :: r) 3 = some s:=(atI_nat (j:=3) rfl:atI (v :: u :: t :: s :: r) ((3:Nat):Int) = _)
section
variable {P:Program} {w:World} {K:PySem.W.Frag} {mg:Str → Option Value} {base:Heap}
theorem scNamed:FnScope ["trees","named","tree"] ["trees"] (defScope sNamed):=⟨rfl,rfl,rfl,by decide +kernel,rfl,by decide +kernel,by decide +kernel⟩
set_option maxHeartbeats 0 in
theorem ok_named {f fb fn fk:Addr} {fd fdb fdn fdk:FuncData} (F:Fun K "named_kinds" "named_kinds" sNamed f fd)
    (GB:FnOk P w K mg base CX0 1 fb fdb ["tree","least","most"] (spBracket K)) (bB:Binds K fdb ["tree","least","most"] []) (kB:PySem.W.keepIn K (.ref fb) = true) (mB:mg "bracket" = some (.ref fb))
    (GN:FnOk P w K mg base CX0 2 fn fdn ["tree"] spNameOf) (bN:Binds K fdn ["tree"] []) (kN:PySem.W.keepIn K (.ref fn) = true) (mN:mg "name_of_tree" = some (.ref fn))
    (GK:FnOk P w K mg base CX0 5 fk fdk ["tree"] (spKindOf K 2)) (bK:Binds K fdk ["tree"] []) (kK:PySem.W.keepIn K (.ref fk) = true) (mK:mg "kind_of_tree" = some (.ref fk))
    (mt:mg "tuple" = none):FnOk P w K mg base CX0 6 f fd ["trees"] (spNamed K):=by
  refine F.ok scNamed (fun vs H Q E h => ?_) (fun cdv A outer s H vs Q E hr h => ?_)
  · obtain ⟨p,xs,rs,rfl,_⟩:=h
    rfl
  obtain ⟨p,xs,rs,rfl,hp,hxs,hrs,q⟩:=h
  have hr1:Room 1 _:=hr.mono (by decide)
  have hr2:Room 2 _:=hr.mono (by decide)
  refine ⟨_,pss_cons (ps_set (i:=1) scNamed.nd rfl (Or.inl rfl) (pe_lst pa_nil))
    (pss_cons (ps_for PassesOwn.never rfl (pi_tup (pv 0)) (pg_name (i:=2) scNamed.nd rfl (Or.inl rfl))
      (pss_cons (ps_expr (pe_call GB hr1 rfl mB kB bB .nil pass0 (pa_cons (pv 2) (pa_cons pe_int (pa_cons pe_int pa_nil)))))
      (pss_one (ps_expr (pe_bm PySem.F.plainAttrs_list PySem.F.slot_list_append PySem.F.type_list_append mt_append (pv 1) (pa_cons (pe_tup (pa_cons (pe_call GN hr2 rfl mN kN bN .nil pass0 (pa_cons (pe_ix ix_tup (pv 2) pe_int (fun _ _ => rfl)) pa_nil)) (pa_cons (pe_call GK hr rfl mK kK bK .nil pass0 (pa_cons (pe_ix ix_tup (pv 2) pe_int (fun _ _ => rfl)) pa_nil)) pa_nil))) pa_nil))))))
    (pss_one (ps_ret (pe_callTy call_tuple_of rfl mt bootTuple (pa_cons (pv 1) pa_nil))))),?_⟩
  have xl:=hxs.length
  rw [List.length_map] at xl
  have r4:=hrs.1
  refine ⟨(by show 0 ≤ sizeLine; decide),fun l hl => ?_⟩
  have s0:=same_new hl (.lst [])
  refine ⟨_,rfl,p,rfl,⟨_,SqT.of (s0 _ _ hp)⟩,?_⟩
  refine for_tup (K:=K) (xs:=xs) (fun i σ H4 => ∃ (ts:List V) (v2:Option V),σ = [some (.ref p),some (.ref l),v2] ∧ Same H H4 ∧ H4 l = some (.lst ts) ∧ DsAt H4 ts ((rs.take i).map rwD))
    ⟨[],none,rfl,s0,upd_same,.nil⟩ ?_ ?_ ?_
  · rintro i σ H4 _ ⟨ts,v2,rfl,s4,_⟩
    exact SqT.of (s4 _ _ hp)
  · rintro i y σ H4 hy ⟨ts,v2,rfl,s4,hl4,hts⟩
    obtain ⟨t,ht,hat⟩:=hxs.get hy
    obtain ⟨r,hr',rfl⟩:=map_get ht
    obtain ⟨hw,hk⟩:=hrs.2 r (List.mem_of_getElem? hr')
    obtain ⟨a,ys,rfl,ha,hs⟩:=TrAt.node (show TrAt K H4 y (.n [.w r.1,r.2.tr]) from hat.same s4)
    obtain ⟨x1,_,rfl,h1,hs⟩:=hs.one
    obtain ⟨x2,_,rfl,h2,hs⟩:=hs.one
    cases hs.none
    cases h1.word
    have tl:=hts.length
    rw [List.length_map,List.length_take] at tl
    refine ⟨_,rfl,a,_,2,.int 2,rfl,ha,by show (2:Int) ≤ 2; decide,.inr ⟨2,rfl,by show (2:Int) ≤ 2; decide⟩,?_⟩
    refine ⟨_,rfl,.inl ⟨rfl,_,SqL.of hl4⟩,_,rfl,a,_,_,.str r.1,rfl,rfl,SqT.of ha,rfl,r.1,rfl,hw,fun H5 s5 => ?_⟩
    refine ⟨_,rfl,a,_,_,x2,rfl,rfl,SqT.of (s5 _ _ ha),rfl,x2,r.2,rfl,h2.same s5,hk.1,hk.dp,fun H6 v6 s6 hv6 => ⟨(by show 2 ≤ sizeLine; decide),fun p7 hp7 => ?_⟩⟩
    have s7:=same_new hp7 (.tup [.str r.1,v6])
    have s47:=s5.trans (s6.trans s7)
    have hl7:=s47 _ _ hl4
    have kp:∀ a us,upd H6 p7 (.tup [.str r.1,v6]) a = some (.tup us) → upd (upd H6 p7 (.tup [.str r.1,v6])) l (.lst (ts ++ [.ref p7])) a = some (.tup us):=fun a us h => tup_upd hl7 h
    refine ⟨l,_,_,rfl,rfl,hl7,mid (by omega),ts ++ [.ref p7],_,rfl,sput (s4.trans s47) hl,upd_same,?_⟩
    rw [List.take_add_one,hr',List.map_append]
    exact ((hts.same s47).keep kp).append (.cons (.t (kp _ _ upd_same) (.cons (.s _) (.cons (((kd_d hv6).same s7).keep kp) .nil))) .nil)
  · rintro σ H4 ⟨ts,v2,rfl,s4,hl4,hts⟩
    rw [xl,List.take_length] at hts
    exact ⟨_,rfl,l,ts,rfl,.inl ⟨SqL.of hl4,fun p5 hp5 => q _ _ (s4.trans (same_new hp5 _)) (.t upd_same (hts.same (same_new hp5 _)))⟩⟩
theorem scRefOf:FnScope ["trees"] ["trees"] (defScope sRefOf):=⟨rfl,rfl,rfl,by decide +kernel,rfl,by decide +kernel,by decide +kernel⟩
theorem ok_refOf {f fn fm:Addr} {fd fdn fdm:FuncData} (F:Fun K "refining_of" "refining_of" sRefOf f fd)
    (GN:FnOk P w K mg base CX0 2 fn fdn ["tree"] spNameOf) (bN:Binds K fdn ["tree"] []) (kN:PySem.W.keepIn K (.ref fn) = true) (mN:mg "name_of_tree" = some (.ref fn))
    (GM:FnOk P w K mg base CX0 6 fm fdm ["trees"] (spNamed K)) (bM:Binds K fdm ["trees"] []) (kM:PySem.W.keepIn K (.ref fm) = true) (mM:mg "named_kinds" = some (.ref fm)):FnOk P w K mg base CX0 7 f fd ["trees"] (spRefOf K):=by
  refine F.ok scRefOf (fun vs H Q E h => ?_) (fun cdv A outer s H vs Q E hr h => ?_)
  · obtain ⟨p,xs,r,rfl,_⟩:=h
    rfl
  obtain ⟨p,xs,r,rfl,hp,hxs,hok,q⟩:=h
  have hr2:Room 2 _:=hr.mono (by decide)
  refine ⟨_,pss_one (ps_ret (pe_tup (pa_cons (pe_call GN hr2 rfl mN kN bN .nil pass0 (pa_cons (pe_ix ix_tup (pv 0) pe_int (fun _ _ => rfl)) pa_nil)) (pa_cons (pe_call GM hr rfl mM kM bM .nil pass0 (pa_cons (pe_slice sl_tup (pv 0) (po_some pe_int) po_none) pa_nil)) pa_nil)))),?_⟩
  obtain ⟨x1,ys,rfl,h1,hs⟩:=TrsAt.one (show TrsAt K H xs (.w r.w :: r.rows.map rwT) from hxs)
  cases h1.word
  refine ⟨_,rfl,p,_,_,.str r.w,rfl,rfl,SqT.of hp,at0 _ _,r.w,rfl,hok.1,fun H1 s1 => ?_⟩
  refine ⟨_,rfl,_,rfl,p,_,rfl,SqT.of (s1 _ _ hp),not_whole (k:=1) (Nat.le_refl _) (by simp),fun p5 hp5 => ?_⟩
  have s5:=same_new hp5 (.tup (cutV (.str r.w :: ys) (some 1) none))
  refine ⟨p5,ys,r.rows,rfl,cut_k 1 H1,hs.same (s1.trans s5),hok.2,fun H6 v6 s6 hv6 => ⟨(by show 2 ≤ sizeLine; decide),fun p7 hp7 => ?_⟩⟩
  have s7:=same_new hp7 (.tup [.str r.w,v6])
  exact q _ _ (s1.trans (s5.trans (s6.trans s7))) (.t upd_same (.cons (.s _) (.cons (hv6.same s7) .nil)))
theorem scSealOf:FnScope ["tree"] ["tree"] (defScope sSealOf):=⟨rfl,rfl,rfl,by decide +kernel,rfl,by decide +kernel,by decide +kernel⟩
theorem ok_sealOf {f fb fr:Addr} {fd fdb fdr:FuncData} (F:Fun K "seal_of_tree" "seal_of_tree" sSealOf f fd)
    (GB:FnOk P w K mg base CX0 1 fb fdb ["tree","least","most"] (spBracket K)) (bB:Binds K fdb ["tree","least","most"] []) (kB:PySem.W.keepIn K (.ref fb) = true) (mB:mg "bracket" = some (.ref fb))
    (GR:FnOk P w K mg base CX0 7 fr fdr ["trees"] (spRefOf K)) (bR:Binds K fdr ["trees"] []) (kR:PySem.W.keepIn K (.ref fr) = true) (mR:mg "refining_of" = some (.ref fr)):FnOk P w K mg base CX0 8 f fd ["tree"] (spSealOf K):=by
  refine F.ok scSealOf (fun vs H Q E h => ?_) (fun cdv A outer s H vs Q E hr h => ?_)
  · obtain ⟨x,sl,rfl,_⟩:=h
    rfl
  obtain ⟨x,sl,rfl,hx,hok,q⟩:=h
  have hr1:Room 1 _:=hr.mono (by decide)
  refine ⟨_,pss_cons (ps_if (pt_cmpR (op_eqD hr.units) (pv 0) pe_str (nomark _)) (pss_one (ps_ret pe_non)) pss_nil)
    (pss_one (ps_ret (pe_call GR hr rfl mR kR bR .nil pass0 (pa_cons (pe_call GB hr1 rfl mB kB bB .nil pass0 (pa_cons (pv 0) (pa_cons pe_int (pa_cons pe_non pa_nil)))) pa_nil)))),?_⟩
  have shB:SeqAt.shaped (.str "bare") = true:=tg_shaped (tg_key 4 "bare" (by decide +kernel)) (by decide)
  refine ⟨_,rfl,(sealT sl).dat,.str "bare",hx.dat,.str _,tg_shaped (tg_seal hok) (by decide),shB,_,rfl,?_⟩
  cases sl with
  | none =>
    refine ite2 (fun _ => q _ _ (Same.refl _) .o) (fun c => absurd ?_ c)
    show PyData.eqv (.str "bare") (.str "bare") = true
    simp [PyData.eqv]
  | some r =>
    refine ite2 (fun c => absurd c ?_) (fun _ => ?_)
    · show ¬ (PyData.eqv (.tuple (dats r.ts)) (.str "bare") = true)
      simp [PyData.eqv]
    · obtain ⟨a,xs,rfl,ha,hs⟩:=TrAt.node (show TrAt K H x (.n r.ts) from hx)
      have hl:=hs.length
      have hl2:r.ts.length = r.rows.length + 1:=by
        show (_ :: r.rows.map rwT).length = _
        rw [List.length_cons,List.length_map]
      exact ⟨_,rfl,a,xs,1,.non,rfl,ha,by omega,.inl rfl,a,xs,r,rfl,ha,hs,hok,q⟩
theorem scFormalOf:FnScope ["tree"] ["tree"] (defScope sFormalOf):=⟨rfl,rfl,rfl,by decide +kernel,rfl,by decide +kernel,by decide +kernel⟩
theorem ok_formalOf {f fb fn fr:Addr} {fd fdb fdn fdr:FuncData} (F:Fun K "formal_of_tree" "formal_of_tree" sFormalOf f fd)
    (GB:FnOk P w K mg base CX0 1 fb fdb ["tree","least","most"] (spBracket K)) (bB:Binds K fdb ["tree","least","most"] []) (kB:PySem.W.keepIn K (.ref fb) = true) (mB:mg "bracket" = some (.ref fb))
    (GN:FnOk P w K mg base CX0 2 fn fdn ["tree"] spNameOf) (bN:Binds K fdn ["tree"] []) (kN:PySem.W.keepIn K (.ref fn) = true) (mN:mg "name_of_tree" = some (.ref fn))
    (GR:FnOk P w K mg base CX0 7 fr fdr ["trees"] (spRefOf K)) (bR:Binds K fdr ["trees"] []) (kR:PySem.W.keepIn K (.ref fr) = true) (mR:mg "refining_of" = some (.ref fr)):FnOk P w K mg base CX0 8 f fd ["tree"] (spFormalOf K):=by
  refine F.ok scFormalOf (fun vs H Q E h => ?_) (fun cdv A outer s H vs Q E hr h => ?_)
  · obtain ⟨x,sl,rfl,_⟩:=h
    rfl
  obtain ⟨x,fo,rfl,hx,hok,q⟩:=h
  have hr1:Room 1 _:=hr.mono (by decide)
  have hr2:Room 2 _:=hr.mono (by decide)
  refine ⟨_,pss_cons (ps_expr (pe_call GB hr1 rfl mB kB bB .nil pass0 (pa_cons (pv 0) (pa_cons pe_int (pa_cons pe_non pa_nil)))))
    (pss_one (ps_ret (pe_tup (pa_cons (pe_call GN hr2 rfl mN kN bN .nil pass0 (pa_cons (pe_ix ix_tup (pv 0) pe_int (fun _ _ => rfl)) pa_nil)) (pa_cons (pe_call GR hr rfl mR kR bR .nil pass0 (pa_cons (pe_slice sl_tup (pv 0) (po_some pe_int) po_none) pa_nil)) pa_nil))))),?_⟩
  obtain ⟨p,xs,rfl,hp,hs⟩:=TrAt.node (show TrAt K H x (.n (.w fo.1 :: fo.2.ts)) from hx)
  obtain ⟨x1,ys,rfl,h1,hs'⟩:=hs.one
  cases h1.word
  have hl:=hs'.length
  have hl2:fo.2.ts.length = fo.2.rows.length + 1:=by
    show (_ :: fo.2.rows.map rwT).length = _
    rw [List.length_cons,List.length_map]
  refine ⟨_,rfl,p,_,2,.non,rfl,hp,by show (2:Int) ≤ ((ys.length + 1:Nat):Int); omega,.inl rfl,?_⟩
  refine ⟨_,rfl,p,_,_,.str fo.1,rfl,rfl,SqT.of hp,at0 _ _,fo.1,rfl,hok.1,fun H1 s1 => ?_⟩
  refine ⟨_,rfl,_,rfl,p,_,rfl,SqT.of (s1 _ _ hp),not_whole (k:=1) (Nat.le_refl _) (by simp),fun p5 hp5 => ?_⟩
  have s5:=same_new hp5 (.tup (cutV (.str fo.1 :: ys) (some 1) none))
  refine ⟨p5,ys,fo.2,rfl,cut_k 1 H1,hs'.same (s1.trans s5),hok.2,fun H6 v6 s6 hv6 => ⟨(by show 2 ≤ sizeLine; decide),fun p7 hp7 => ?_⟩⟩
  have s7:=same_new hp7 (.tup [.str fo.1,v6])
  exact q _ _ (s1.trans (s5.trans (s6.trans s7))) (.t upd_same (.cons (.s _) (.cons (hv6.same s7) .nil)))
theorem scFI:FnScope ["tree","ahead","kinds"] ["tree"] (defScope sFI):=⟨rfl,rfl,rfl,by decide +kernel,rfl,by decide +kernel,by decide +kernel⟩
set_option maxHeartbeats 0 in
theorem ok_fi {f fa fb fn fk:Addr} {fd fda fdb fdn fdk:FuncData} {tM:Tok} (F:Fun K "face_item" "face_item" sFI f fd)
    (GA:FnOk P w K mg base CX0 2 fa fda ["tree"] spAhead) (bA:Binds K fda ["tree"] []) (kA:PySem.W.keepIn K (.ref fa) = true) (mA:mg "word_ahead" = some (.ref fa))
    (GB:FnOk P w K mg base CX0 1 fb fdb ["tree","least","most"] (spBracket K)) (bB:Binds K fdb ["tree","least","most"] []) (kB:PySem.W.keepIn K (.ref fb) = true) (mB:mg "bracket" = some (.ref fb))
    (GN:FnOk P w K mg base CX0 2 fn fdn ["tree"] spNameOf) (bN:Binds K fdn ["tree"] []) (kN:PySem.W.keepIn K (.ref fn) = true) (mN:mg "name_of_tree" = some (.ref fn))
    (GK:FnOk P w K mg base CX0 5 fk fdk ["tree"] (spKindOf K 2)) (bK:Binds K fdk ["tree"] []) (kK:PySem.W.keepIn K (.ref fk) = true) (mK:mg "kind_of_tree" = some (.ref fk))
    (mM:mg "MOST_ARGUMENTS" = some (.int 4 tM)) (mt:mg "tuple" = none):FnOk P w K mg base CX0 6 f fd ["tree"] (spFIOf K):=by
  refine F.ok scFI (fun vs H Q E h => ?_) (fun cdv A outer s H vs Q E hr h => ?_)
  · obtain ⟨x,sl,rfl,_⟩:=h
    rfl
  obtain ⟨x,it,rfl,hx,hok,q⟩:=h
  have hr1:Room 1 _:=hr.mono (by decide)
  have hr2:Room 2 _:=hr.mono (by decide)
  refine ⟨_,pss_cons (ps_set (i:=1) scFI.nd rfl (Or.inl rfl) (pe_call GA hr2 rfl mA kA bA .nil pass0 (pa_cons (pv 0) pa_nil)))
    (pss_cons (ps_if (pt_cmpR op_eq (pv 1) pe_str (nomark _))
      (pss_cons (ps_expr (pe_call GB hr1 rfl mB kB bB .nil pass0 (pa_cons (pv 0) (pa_cons pe_int (pa_cons pe_int pa_nil)))))
      (pss_one (ps_ret (pe_tup (pa_cons pe_str (pa_cons (pe_call GN hr2 rfl mN kN bN .nil pass0 (pa_cons (pe_ix ix_tup (pv 0) pe_int (fun _ _ => rfl)) pa_nil)) pa_nil)))))) pss_nil)
    (pss_cons (ps_if (pt_cmpR op_eq (pv 1) pe_str (nomark _))
      (pss_cons (ps_expr (pe_call GB hr1 rfl mB kB bB .nil pass0 (pa_cons (pv 0) (pa_cons pe_int (pa_cons pe_int pa_nil)))))
      (pss_one (ps_ret (pe_tup (pa_cons pe_str (pa_cons (pe_call GN hr2 rfl mN kN bN .nil pass0 (pa_cons (pe_ix ix_tup (pv 0) pe_int (fun _ _ => rfl)) pa_nil)) (pa_cons (pe_call GK hr rfl mK kK bK .nil pass0 (pa_cons (pe_ix ix_tup (pv 0) pe_int (fun _ _ => rfl)) pa_nil)) pa_nil))))))) pss_nil)
    (pss_cons (ps_if (pt_cmpR op_eq (pv 1) pe_str (nomark _))
      (pss_cons (ps_expr (pe_call GB hr1 rfl mB kB bB .nil pass0 (pa_cons (pv 0) (pa_cons pe_int (pa_cons pe_int pa_nil)))))
      (pss_cons (ps_set (i:=2) scFI.nd rfl (Or.inl rfl) (pe_callTy call_tuple_of rfl mt bootTuple (pa_cons (pe_comp (own:=["kind"]) (caps:=[]) (κ:=[]) (cl:=[]) rfl ⟨rfl,by decide +kernel,by decide +kernel,rfl,rfl,(fun y hy => nomatch hy),(fun y hy => nomatch hy)⟩ rfl (pi_tup (pe_call GB hr1 rfl mB kB bB .nil pass0 (pa_cons (pe_ix ix_tup (pv 0) pe_int (fun _ _ => rfl)) (pa_cons pe_int (pa_cons (pe_glob rfl mM (v:=.int 4) ⟨tM,rfl⟩) pa_nil)))))
        (fun _ _ _ _ => pg_name (i:=0) (show (["kind"]:List Str).Nodup from by decide +kernel) rfl (Or.inl rfl)) (fun _ _ _ _ => pe_call GK hr rfl mK kK bK .nil pass0 (pa_cons (pv 0) pa_nil))) pa_nil)))
      (pss_one (ps_ret (pe_tup (pa_cons pe_str (pa_cons (pe_call GN hr2 rfl mN kN bN .nil pass0 (pa_cons (pe_ix ix_tup (pv 0) pe_int (fun _ _ => rfl)) pa_nil)) (pa_cons (pv 2) (pa_cons (pe_call GK hr rfl mK kK bK .nil pass0 (pa_cons (pe_ix ix_tup (pv 0) pe_int (fun _ _ => rfl)) pa_nil)) pa_nil))))))))) pss_nil)
    pss_no))),?_⟩
  cases it with
  | hid z =>
    obtain ⟨p,xs,rfl,hp,hs⟩:=TrAt.node (show TrAt K H x (.n [.w "hid",.w z]) from hx)
    obtain ⟨x1,_,rfl,h1,hs⟩:=hs.one
    obtain ⟨x2,_,rfl,h2,hs⟩:=hs.one
    cases hs.none
    cases h1.word
    cases h2.word
    refine ⟨_,rfl,p,_,_,rfl,hp,?_⟩
    refine ⟨_,rfl,rfl,_,rfl,ite2 (fun _ => ?_) (fun c => absurd (by decide +kernel) c)⟩
    refine ⟨_,rfl,p,_,2,.int 2,rfl,hp,by show (2:Int) ≤ 2; decide,.inr ⟨2,rfl,by show (2:Int) ≤ 2; decide⟩,?_⟩
    refine ⟨_,rfl,p,_,_,.str z,rfl,rfl,SqT.of hp,rfl,z,rfl,hok,fun H1 s1 => ⟨(by show 2 ≤ sizeLine; decide),fun p2 hp2 => ?_⟩⟩
    exact q _ _ (s1.trans (same_new hp2 _)) (.t upd_same (.cons (.s _) (.cons (.s _) .nil)))
  | told z k =>
    obtain ⟨p,xs,rfl,hp,hs⟩:=TrAt.node (show TrAt K H x (.n [.w "told",.w z,k.tr]) from hx)
    obtain ⟨x1,_,rfl,h1,hs⟩:=hs.one
    obtain ⟨x2,_,rfl,h2,hs⟩:=hs.one
    obtain ⟨x3,_,rfl,h3,hs⟩:=hs.one
    cases hs.none
    cases h1.word
    cases h2.word
    refine ⟨_,rfl,p,_,_,rfl,hp,?_⟩
    refine ⟨_,rfl,rfl,_,rfl,ite2 (fun c => absurd c (by decide +kernel)) (fun _ => ?_)⟩
    refine ⟨_,rfl,rfl,_,rfl,ite2 (fun _ => ?_) (fun c => absurd (by decide +kernel) c)⟩
    refine ⟨_,rfl,p,_,3,.int 3,rfl,hp,by show (3:Int) ≤ 3; decide,.inr ⟨3,rfl,by show (3:Int) ≤ 3; decide⟩,?_⟩
    refine ⟨_,rfl,p,_,_,.str z,rfl,rfl,SqT.of hp,rfl,z,rfl,hok.1,fun H1 s1 => ?_⟩
    refine ⟨_,rfl,p,_,_,x3,rfl,rfl,SqT.of (s1 _ _ hp),rfl,x3,k,rfl,h3.same s1,hok.2.1,hok.2.dp,fun H2 v2 s2 hv2 => ⟨(by show 3 ≤ sizeLine; decide),fun p2 hp2 => ?_⟩⟩
    have s3:=same_new hp2 (.tup [.str "told",.str z,v2])
    exact q _ _ (s1.trans (s2.trans s3)) (.t upd_same (.cons (.s _) (.cons (.s _) (.cons ((kd_d hv2).same s3) .nil))))
  | fn z ks k =>
    obtain ⟨p,xs,rfl,hp,hs⟩:=TrAt.node (show TrAt K H x (.n [.w "fun",.w z,.n (ks.map Kd.tr),k.tr]) from hx)
    obtain ⟨x1,_,rfl,h1,hs⟩:=hs.one
    obtain ⟨x2,_,rfl,h2,hs⟩:=hs.one
    obtain ⟨x3,_,rfl,h3,hs⟩:=hs.one
    obtain ⟨x4,_,rfl,h4,hs⟩:=hs.one
    cases hs.none
    cases h1.word
    cases h2.word
    obtain ⟨p3,ys,rfl,hp3,hys⟩:=h3.node
    have yl:=hys.length
    rw [List.length_map] at yl
    have k4:=hok.2.1.1
    refine ⟨_,rfl,p,_,_,rfl,hp,?_⟩
    refine ⟨_,rfl,rfl,_,rfl,ite2 (fun c => absurd c (by decide +kernel)) (fun _ => ?_)⟩
    refine ⟨_,rfl,rfl,_,rfl,ite2 (fun c => absurd c (by decide +kernel)) (fun _ => ?_)⟩
    refine ⟨_,rfl,rfl,_,rfl,ite2 (fun _ => ?_) (fun c => absurd (by decide +kernel) c)⟩
    refine ⟨_,rfl,p,_,4,.int 4,rfl,hp,by show (4:Int) ≤ 4; decide,.inr ⟨4,rfl,by show (4:Int) ≤ 4; decide⟩,?_⟩
    refine ⟨_,rfl,p,_,_,.ref p3,rfl,rfl,SqT.of hp,rfl,p3,ys,0,.int 4,rfl,hp3,by omega,.inr ⟨4,rfl,by omega⟩,p3,rfl,⟨_,SqT.of hp3⟩,?_⟩
    refine comp_eachT (xs:=ys) (fun i H v => ∀ d,ks[i]? = some d → DAt H v d.d) (fun i H H' v e h d hd => (h d hd).same e) hp3 (by omega) ?_ ?_
    · intro i u H3 N B hu s3 hN
      obtain ⟨t,ht,hat⟩:=hys.get hu
      obtain ⟨k0,hk0,rfl⟩:=map_get ht
      have hm:=hok.2.1.2 k0 (List.mem_of_getElem? hk0)
      refine ⟨rfl,tYes_go ⟨_,rfl,u,k0,rfl,hat.same s3,hm.1,hm.dp,fun H4 v s4 hv => hN _ _ s4 fun d hd => ?_⟩⟩
      rw [hk0] at hd
      cases hd
      exact kd_d hv
    · intro zs H3 D s3 hl hz hD
      have hzs:DsAt H3 zs (ks.map Kd.d):=DsAt.of (by rw [hl,yl,List.length_map]) fun i v d hv hd => by
        obtain ⟨k0,hk0,rfl⟩:=map_get hd
        exact hz i v hv k0 hk0
      have sD:=same_new hD (.lst zs)
      refine ⟨D,zs,rfl,.inl ⟨SqL.of upd_same,fun l hl => ?_⟩⟩
      have sl:=same_new hl (.tup zs)
      have s1:=s3.trans (sD.trans sl)
      refine ⟨_,rfl,p,_,_,.str z,rfl,rfl,SqT.of (s1 _ _ hp),rfl,z,rfl,hok.1,fun H5 s5 => ?_⟩
      refine ⟨_,rfl,_,rfl,p,_,_,x4,rfl,rfl,SqT.of ((s1.trans s5) _ _ hp),rfl,x4,k,rfl,h4.same (s1.trans s5),hok.2.2.1,hok.2.2.dp,fun H6 v6 s6 hv6 => ⟨(by show 4 ≤ sizeLine; decide),fun p7 hp7 => ?_⟩⟩
      have s7:=same_new hp7 (.tup [.str "fun",.str z,.ref l,v6])
      have s57:=s5.trans (s6.trans s7)
      exact q _ _ (s1.trans s57) (.t upd_same (.cons (.s _) (.cons (.s _) (.cons (.t (s57 _ _ upd_same) (hzs.same (sD.trans (sl.trans s57)))) (.cons ((kd_d hv6).same s7) .nil)))))
end
end K17
namespace K17
open PySem L2
section
variable {P:Program} {w:World} {K:PySem.W.Frag} {mg:Str → Option Value} {base:Heap}
theorem scPI:FnScope ["tree","ahead","params"] ["tree"] (defScope sPI):=⟨rfl,rfl,rfl,by decide +kernel,rfl,by decide +kernel,by decide +kernel⟩
set_option maxHeartbeats 0 in
theorem ok_pi {f fa fb fn fk fm fe:Addr} {fd fda fdb fdn fdk fdm fde:FuncData} {tM:Tok} (F:Fun K "part_item" "part_item" sPI f fd)
    (GA:FnOk P w K mg base CX0 2 fa fda ["tree"] spAhead) (bA:Binds K fda ["tree"] []) (kA:PySem.W.keepIn K (.ref fa) = true) (mA:mg "word_ahead" = some (.ref fa))
    (GB:FnOk P w K mg base CX0 1 fb fdb ["tree","least","most"] (spBracket K)) (bB:Binds K fdb ["tree","least","most"] []) (kB:PySem.W.keepIn K (.ref fb) = true) (mB:mg "bracket" = some (.ref fb))
    (GN:FnOk P w K mg base CX0 2 fn fdn ["tree"] spNameOf) (bN:Binds K fdn ["tree"] []) (kN:PySem.W.keepIn K (.ref fn) = true) (mN:mg "name_of_tree" = some (.ref fn))
    (GK:FnOk P w K mg base CX0 5 fk fdk ["tree"] (spKindOf K 2)) (bK:Binds K fdk ["tree"] []) (kK:PySem.W.keepIn K (.ref fk) = true) (mK:mg "kind_of_tree" = some (.ref fk))
    (GM:FnOk P w K mg base CX0 6 fm fdm ["trees"] (spNamed K)) (bM:Binds K fdm ["trees"] []) (kM:PySem.W.keepIn K (.ref fm) = true) (mM':mg "named_kinds" = some (.ref fm))
    (GE:FnOk P w K mg base CX0 14 fe fde ["tree"] (spExOf K 3)) (bE:Binds K fde ["tree"] []) (kE:PySem.W.keepIn K (.ref fe) = true) (mE:mg "expression_of_tree" = some (.ref fe))
    (mM:mg "MOST_ARGUMENTS" = some (.int 4 tM)):FnOk P w K mg base CX0 15 f fd ["tree"] (spPIOf K):=by
  refine F.ok scPI (fun vs H Q E h => ?_) (fun cdv A outer s H vs Q E hr h => ?_)
  · obtain ⟨x,sl,rfl,_⟩:=h
    rfl
  obtain ⟨x,it,rfl,hx,hok,q⟩:=h
  have hr1:Room 1 _:=hr.mono (by decide)
  have hr2:Room 2 _:=hr.mono (by decide)
  have hr5:Room 5 _:=hr.mono (by decide)
  have hr6:Room 6 _:=hr.mono (by decide)
  refine ⟨_,pss_cons (ps_set (i:=1) scPI.nd rfl (Or.inl rfl) (pe_call GA hr2 rfl mA kA bA .nil pass0 (pa_cons (pv 0) pa_nil)))
    (pss_cons (ps_if (pt_cmpR op_eq (pv 1) pe_str (nomark _))
      (pss_cons (ps_expr (pe_call GB hr1 rfl mB kB bB .nil pass0 (pa_cons (pv 0) (pa_cons pe_int (pa_cons pe_int pa_nil)))))
      (pss_one (ps_ret (pe_tup (pa_cons pe_str (pa_cons (pe_call GN hr2 rfl mN kN bN .nil pass0 (pa_cons (pe_ix ix_tup (pv 0) pe_int (fun _ _ => rfl)) pa_nil)) (pa_cons (pe_call GK hr5 rfl mK kK bK .nil pass0 (pa_cons (pe_ix ix_tup (pv 0) pe_int (fun _ _ => rfl)) pa_nil)) pa_nil))))))) pss_nil)
    (pss_cons (ps_if (pt_cmpR op_eq (pv 1) pe_str (nomark _))
      (pss_cons (ps_expr (pe_call GB hr1 rfl mB kB bB .nil pass0 (pa_cons (pv 0) (pa_cons pe_int (pa_cons pe_int pa_nil)))))
      (pss_one (ps_ret (pe_tup (pa_cons pe_str (pa_cons (pe_call GN hr2 rfl mN kN bN .nil pass0 (pa_cons (pe_ix ix_tup (pv 0) pe_int (fun _ _ => rfl)) pa_nil)) pa_nil)))))) pss_nil)
    (pss_cons (ps_if (pt_cmpR op_eq (pv 1) pe_str (nomark _))
      (pss_cons (ps_expr (pe_call GB hr1 rfl mB kB bB .nil pass0 (pa_cons (pv 0) (pa_cons pe_int (pa_cons pe_int pa_nil)))))
      (pss_cons (ps_set (i:=2) scPI.nd rfl (Or.inl rfl) (pe_call GM hr6 rfl mM' kM bM .nil pass0 (pa_cons (pe_call GB hr1 rfl mB kB bB .nil pass0 (pa_cons (pe_ix ix_tup (pv 0) pe_int (fun _ _ => rfl)) (pa_cons pe_int (pa_cons (pe_glob rfl mM (v:=.int 4) ⟨tM,rfl⟩) pa_nil)))) pa_nil)))
      (pss_one (ps_ret (pe_tup (pa_cons pe_str (pa_cons (pe_call GN hr2 rfl mN kN bN .nil pass0 (pa_cons (pe_ix ix_tup (pv 0) pe_int (fun _ _ => rfl)) pa_nil)) (pa_cons (pv 2) (pa_cons (pe_call GK hr5 rfl mK kK bK .nil pass0 (pa_cons (pe_ix ix_tup (pv 0) pe_int (fun _ _ => rfl)) pa_nil)) (pa_cons (pe_call GE hr rfl mE kE bE .nil pass0 (pa_cons (pe_ix ix_tup (pv 0) pe_int (fun _ _ => rfl)) pa_nil)) pa_nil)))))))))) pss_nil)
    pss_no))),?_⟩
  cases it with
  | opn z =>
    obtain ⟨p,xs,rfl,hp,hs⟩:=TrAt.node (show TrAt K H x (.n [.w "open",.w z]) from hx)
    obtain ⟨x1,_,rfl,h1,hs⟩:=hs.one
    obtain ⟨x2,_,rfl,h2,hs⟩:=hs.one
    cases hs.none
    cases h1.word
    cases h2.word
    refine ⟨_,rfl,p,_,_,rfl,hp,?_⟩
    refine ⟨_,rfl,rfl,_,rfl,ite2 (fun c => absurd c (by decide +kernel)) (fun _ => ?_)⟩
    refine ⟨_,rfl,rfl,_,rfl,ite2 (fun _ => ?_) (fun c => absurd (by decide +kernel) c)⟩
    refine ⟨_,rfl,p,_,2,.int 2,rfl,hp,by show (2:Int) ≤ 2; decide,.inr ⟨2,rfl,by show (2:Int) ≤ 2; decide⟩,?_⟩
    refine ⟨_,rfl,p,_,_,.str z,rfl,rfl,SqT.of hp,rfl,z,rfl,hok,fun H1 s1 => ⟨(by show 2 ≤ sizeLine; decide),fun p2 hp2 => ?_⟩⟩
    exact q _ _ (s1.trans (same_new hp2 _)) (.t upd_same (.cons (.s _) (.cons (.s _) .nil)))
  | kind z k =>
    obtain ⟨p,xs,rfl,hp,hs⟩:=TrAt.node (show TrAt K H x (.n [.w "kind",.w z,k.tr]) from hx)
    obtain ⟨x1,_,rfl,h1,hs⟩:=hs.one
    obtain ⟨x2,_,rfl,h2,hs⟩:=hs.one
    obtain ⟨x3,_,rfl,h3,hs⟩:=hs.one
    cases hs.none
    cases h1.word
    cases h2.word
    refine ⟨_,rfl,p,_,_,rfl,hp,?_⟩
    refine ⟨_,rfl,rfl,_,rfl,ite2 (fun _ => ?_) (fun c => absurd (by decide +kernel) c)⟩
    refine ⟨_,rfl,p,_,3,.int 3,rfl,hp,by show (3:Int) ≤ 3; decide,.inr ⟨3,rfl,by show (3:Int) ≤ 3; decide⟩,?_⟩
    refine ⟨_,rfl,p,_,_,.str z,rfl,rfl,SqT.of hp,rfl,z,rfl,hok.1,fun H1 s1 => ?_⟩
    refine ⟨_,rfl,p,_,_,x3,rfl,rfl,SqT.of (s1 _ _ hp),rfl,x3,k,rfl,h3.same s1,hok.2.1,hok.2.dp,fun H2 v2 s2 hv2 => ⟨(by show 3 ≤ sizeLine; decide),fun p2 hp2 => ?_⟩⟩
    have s3:=same_new hp2 (.tup [.str "kind",.str z,v2])
    exact q _ _ (s1.trans (s2.trans s3)) (.t upd_same (.cons (.s _) (.cons (.s _) (.cons ((kd_d hv2).same s3) .nil))))
  | fn z rs k e =>
    obtain ⟨p,xs,rfl,hp,hs⟩:=TrAt.node (show TrAt K H x (.n [.w "fun",.w z,.n (rs.map rwT),k.tr,e.tr]) from hx)
    obtain ⟨x1,_,rfl,h1,hs⟩:=hs.one
    obtain ⟨x2,_,rfl,h2,hs⟩:=hs.one
    obtain ⟨x3,_,rfl,h3,hs⟩:=hs.one
    obtain ⟨x4,_,rfl,h4,hs⟩:=hs.one
    obtain ⟨x5,_,rfl,h5,hs⟩:=hs.one
    cases hs.none
    cases h1.word
    cases h2.word
    obtain ⟨p3,ys,rfl,hp3,hys⟩:=h3.node
    have yl:=hys.length
    rw [List.length_map] at yl
    have k4:=hok.2.1.1
    refine ⟨_,rfl,p,_,_,rfl,hp,?_⟩
    refine ⟨_,rfl,rfl,_,rfl,ite2 (fun c => absurd c (by decide +kernel)) (fun _ => ?_)⟩
    refine ⟨_,rfl,rfl,_,rfl,ite2 (fun c => absurd c (by decide +kernel)) (fun _ => ?_)⟩
    refine ⟨_,rfl,rfl,_,rfl,ite2 (fun _ => ?_) (fun c => absurd (by decide +kernel) c)⟩
    refine ⟨_,rfl,p,_,5,.int 5,rfl,hp,by show (5:Int) ≤ 5; decide,.inr ⟨5,rfl,by show (5:Int) ≤ 5; decide⟩,?_⟩
    refine ⟨_,rfl,p,_,_,.ref p3,rfl,rfl,SqT.of hp,rfl,p3,ys,0,.int 4,rfl,hp3,by omega,.inr ⟨4,rfl,by omega⟩,p3,ys,rs,rfl,hp3,hys,hok.2.1,fun H1 v1 s1 hv1 => ?_⟩
    refine ⟨_,rfl,p,_,_,.str z,rfl,rfl,SqT.of (s1 _ _ hp),rfl,z,rfl,hok.1,fun H5 s5 => ?_⟩
    refine ⟨_,rfl,_,rfl,p,_,_,x4,rfl,rfl,SqT.of ((s1.trans s5) _ _ hp),rfl,x4,k,rfl,h4.same (s1.trans s5),hok.2.2.1.1,hok.2.2.1.dp,fun H6 v6 s6 hv6 => ?_⟩
    refine ⟨_,rfl,p,_,_,x5,rfl,rfl,SqT.of ((s1.trans (s5.trans s6)) _ _ hp),rfl,x5,e,rfl,h5.same (s1.trans (s5.trans s6)),hok.2.2.2.1,(by have:=hok.2.2.2.2.1; omega),fun H7 v7 s7 hv7 => ⟨(by show 5 ≤ sizeLine; decide),fun p8 hp8 => ?_⟩⟩
    have s8:=same_new hp8 (.tup [.str "fun",.str z,v1,v6,v7])
    exact q _ _ (s1.trans (s5.trans (s6.trans (s7.trans s8)))) (.t upd_same (.cons (.s _) (.cons (.s _) (.cons (hv1.same (s5.trans (s6.trans (s7.trans s8)))) (.cons ((kd_d hv6).same (s7.trans s8)) (.cons ((ex_d hv7).same s8) .nil))))))
theorem scPIs:FnScope ["trees"] ["trees"] (defScope sPIs):=⟨rfl,rfl,rfl,by decide +kernel,rfl,by decide +kernel,by decide +kernel⟩
theorem ok_pis {f fi:Addr} {fd fdi:FuncData} (F:Fun K "part_items" "part_items" sPIs f fd)
    (GI:FnOk P w K mg base CX0 15 fi fdi ["tree"] (spPIOf K)) (bI:Binds K fdi ["tree"] []) (kI:PySem.W.keepIn K (.ref fi) = true) (mI:mg "part_item" = some (.ref fi)) (mt:mg "tuple" = none):FnOk P w K mg base CX0 16 f fd ["trees"] (spPIsOf K):=by
  refine F.ok scPIs (fun vs H Q E h => ?_) (fun cdv A outer s H vs Q E hr h => ?_)
  · obtain ⟨x,_,sl,rfl,_⟩:=h
    rfl
  obtain ⟨p,xs,is,rfl,hp,hxs,h16,hok,q⟩:=h
  refine ⟨_,pss_one (ps_ret (pe_callTy call_tuple_of rfl mt bootTuple (pa_cons (pe_comp (own:=["tree"]) (caps:=[]) (κ:=[]) (cl:=[]) rfl ⟨rfl,by decide +kernel,by decide +kernel,rfl,rfl,(fun y hy => nomatch hy),(fun y hy => nomatch hy)⟩ rfl (pi_tup (pv 0))
    (fun _ _ _ _ => pg_name (i:=0) (show (["tree"]:List Str).Nodup from by decide +kernel) rfl (Or.inl rfl)) (fun _ _ _ _ => pe_call GI hr rfl mI kI bI .nil pass0 (pa_cons (pv 0) pa_nil))) pa_nil))),?_⟩
  have xl:=hxs.length
  rw [List.length_map] at xl
  refine ⟨_,rfl,p,rfl,⟨_,SqT.of hp⟩,?_⟩
  refine comp_eachT (xs:=xs) (fun i H v => ∀ d,is[i]? = some d → DAt H v d.d) (fun i H H' v e h d hd => (h d hd).same e) hp (by omega) ?_ ?_
  · intro i u H3 N B hu s3 hN
    obtain ⟨t,ht,hat⟩:=hxs.get hu
    obtain ⟨k0,hk0,rfl⟩:=map_get ht
    refine ⟨rfl,tYes_go ⟨_,rfl,u,k0,rfl,hat.same s3,hok k0 (List.mem_of_getElem? hk0),fun H4 v s4 hv => hN _ _ s4 fun d hd => ?_⟩⟩
    rw [hk0] at hd
    cases hd
    exact hv
  · intro zs H3 D s3 hl hz hD
    have hzs:DsAt H3 zs (is.map PI.d):=DsAt.of (by rw [hl,xl,List.length_map]) fun i v d hv hd => by
      obtain ⟨k0,hk0,rfl⟩:=map_get hd
      exact hz i v hv k0 hk0
    have sD:=same_new hD (.lst zs)
    refine ⟨D,zs,rfl,.inl ⟨SqL.of upd_same,fun l hl => ?_⟩⟩
    have sl:=same_new hl (.tup zs)
    exact q _ _ (s3.trans (sD.trans sl)) (.t upd_same (hzs.same (sD.trans sl)))
theorem scFaceOf:FnScope ["tree"] ["tree"] (defScope sFaceOf):=⟨rfl,rfl,rfl,by decide +kernel,rfl,by decide +kernel,by decide +kernel⟩
set_option maxHeartbeats 0 in
theorem ok_faceOf {f fb fn fi:Addr} {fd fdb fdn fdi:FuncData} (F:Fun K "face_of_tree" "face_of_tree" sFaceOf f fd)
    (GB:FnOk P w K mg base CX0 1 fb fdb ["tree","least","most"] (spBracket K)) (bB:Binds K fdb ["tree","least","most"] []) (kB:PySem.W.keepIn K (.ref fb) = true) (mB:mg "bracket" = some (.ref fb))
    (GN:FnOk P w K mg base CX0 2 fn fdn ["tree"] spNameOf) (bN:Binds K fdn ["tree"] []) (kN:PySem.W.keepIn K (.ref fn) = true) (mN:mg "name_of_tree" = some (.ref fn))
    (GI:FnOk P w K mg base CX0 6 fi fdi ["tree"] (spFIOf K)) (bI:Binds K fdi ["tree"] []) (kI:PySem.W.keepIn K (.ref fi) = true) (mI:mg "face_item" = some (.ref fi)) (mt:mg "tuple" = none):FnOk P w K mg base CX0 7 f fd ["tree"] (spFaceOf K):=by
  refine F.ok scFaceOf (fun vs H Q E h => ?_) (fun cdv A outer s H vs Q E hr h => ?_)
  · obtain ⟨x,_,sl,rfl,_⟩:=h
    rfl
  obtain ⟨x,z,is,rfl,hx,hok,q⟩:=h
  obtain ⟨hz,h16,hok⟩:=hok
  have hr1:Room 1 _:=hr.mono (by decide)
  have hr2:Room 2 _:=hr.mono (by decide)
  refine ⟨_,pss_cons (ps_expr (pe_call GB hr1 rfl mB kB bB .nil pass0 (pa_cons (pv 0) (pa_cons pe_int (pa_cons pe_non pa_nil)))))
    (pss_one (ps_ret (pe_tup (pa_cons pe_str (pa_cons (pe_call GN hr2 rfl mN kN bN .nil pass0 (pa_cons (pe_ix ix_tup (pv 0) pe_int (fun _ _ => rfl)) pa_nil)) (pa_cons (pe_callTy call_tuple_of rfl mt bootTuple (pa_cons (pe_comp (own:=["item"]) (caps:=[]) (κ:=[]) (cl:=[]) rfl ⟨rfl,by decide +kernel,by decide +kernel,rfl,rfl,(fun y hy => nomatch hy),(fun y hy => nomatch hy)⟩ rfl (pi_tup (pe_slice sl_tup (pv 0) (po_some pe_int) po_none))
      (fun _ _ _ _ => pg_name (i:=0) (show (["item"]:List Str).Nodup from by decide +kernel) rfl (Or.inl rfl)) (fun _ _ _ _ => pe_call GI hr rfl mI kI bI .nil pass0 (pa_cons (pv 0) pa_nil))) pa_nil)) pa_nil)))))),?_⟩
  obtain ⟨p,xs,rfl,hp,hs⟩:=TrAt.node (show TrAt K H x (.n (.w "face" :: .w z :: is.map FI.tr)) from hx)
  obtain ⟨x1,xs1,rfl,h1,hs1⟩:=hs.one
  obtain ⟨x2,ys,rfl,h2,hys⟩:=hs1.one
  cases h1.word
  cases h2.word
  have yl:=hys.length
  rw [List.length_map] at yl
  refine ⟨_,rfl,p,_,2,.non,rfl,hp,by show (2:Int) ≤ ((ys.length + 1 + 1:Nat):Int); omega,.inl rfl,?_⟩
  refine ⟨_,rfl,p,_,_,.str z,rfl,rfl,SqT.of hp,at1 _ _ _,z,rfl,hz,fun H1 s1 => ?_⟩
  refine ⟨_,rfl,_,rfl,p,_,rfl,SqT.of (s1 _ _ hp),not_whole (k:=2) (by decide) (by simp),fun p5 hp5 => ?_⟩
  have s5:=same_new hp5 (.tup (cutV (.str "face" :: .str z :: ys) (some 2) none))
  have h5:upd H1 p5 (.tup (cutV (.str "face" :: .str z :: ys) (some 2) none)) p5 = some (.tup ys):=cut_k 2 H1
  refine ⟨p5,rfl,⟨_,SqT.of h5⟩,?_⟩
  refine comp_eachT (xs:=ys) (fun i H v => ∀ d,is[i]? = some d → DAt H v d.d) (fun i H H' v e h d hd => (h d hd).same e) h5 (by omega) ?_ ?_
  · intro i u H3 N B hu s3 hN
    obtain ⟨t,ht,hat⟩:=hys.get hu
    obtain ⟨k0,hk0,rfl⟩:=map_get ht
    refine ⟨rfl,tYes_go ⟨_,rfl,u,k0,rfl,hat.same (s1.trans (s5.trans s3)),hok k0 (List.mem_of_getElem? hk0),fun H4 v s4 hv => hN _ _ s4 fun d hd => ?_⟩⟩
    rw [hk0] at hd
    cases hd
    exact hv
  · intro zs H3 D s3 hl hzz hD
    have hzs:DsAt H3 zs (is.map FI.d):=DsAt.of (by rw [hl,yl,List.length_map]) fun i v d hv hd => by
      obtain ⟨k0,hk0,rfl⟩:=map_get hd
      exact hzz i v hv k0 hk0
    have sD:=same_new hD (.lst zs)
    refine ⟨D,zs,rfl,.inl ⟨SqL.of upd_same,fun l hl => ⟨(by show 3 ≤ sizeLine; decide),fun p7 hp7 => ?_⟩⟩⟩
    have sl:=same_new hl (.tup zs)
    have s7:=same_new hp7 (.tup [.str "face",.str z,.ref l])
    exact q _ _ (s1.trans (s5.trans (s3.trans (sD.trans (sl.trans s7))))) (.t upd_same (.cons (.s _) (.cons (.s _) (.cons (.t (s7 _ _ upd_same) (hzs.same (sD.trans (sl.trans s7)))) .nil))))
theorem scPartOf:FnScope ["tree"] ["tree"] (defScope sPartOf):=⟨rfl,rfl,rfl,by decide +kernel,rfl,by decide +kernel,by decide +kernel⟩
set_option maxHeartbeats 0 in
theorem ok_partOf {f fb fn fs fi:Addr} {fd fdb fdn fds fdi:FuncData} (F:Fun K "part_of_tree" "part_of_tree" sPartOf f fd)
    (GB:FnOk P w K mg base CX0 1 fb fdb ["tree","least","most"] (spBracket K)) (bB:Binds K fdb ["tree","least","most"] []) (kB:PySem.W.keepIn K (.ref fb) = true) (mB:mg "bracket" = some (.ref fb))
    (GN:FnOk P w K mg base CX0 2 fn fdn ["tree"] spNameOf) (bN:Binds K fdn ["tree"] []) (kN:PySem.W.keepIn K (.ref fn) = true) (mN:mg "name_of_tree" = some (.ref fn))
    (GS:FnOk P w K mg base CX0 8 fs fds ["tree"] (spSealOf K)) (bS:Binds K fds ["tree"] []) (kS:PySem.W.keepIn K (.ref fs) = true) (mS:mg "seal_of_tree" = some (.ref fs))
    (GI:FnOk P w K mg base CX0 16 fi fdi ["trees"] (spPIsOf K)) (bI:Binds K fdi ["trees"] []) (kI:PySem.W.keepIn K (.ref fi) = true) (mI:mg "part_items" = some (.ref fi)):FnOk P w K mg base CX0 17 f fd ["tree"] (spPartOf K):=by
  refine F.ok scPartOf (fun vs H Q E h => ?_) (fun cdv A outer s H vs Q E hr h => ?_)
  · obtain ⟨x,_,_,sl,rfl,_⟩:=h
    rfl
  obtain ⟨x,z,sl,is,rfl,hx,hok,q⟩:=h
  obtain ⟨hz,hsl,h16,hok⟩:=hok
  have hr1:Room 1 _:=hr.mono (by decide)
  have hr2:Room 2 _:=hr.mono (by decide)
  have hr8:Room 8 _:=hr.mono (by decide)
  refine ⟨_,pss_cons (ps_expr (pe_call GB hr1 rfl mB kB bB .nil pass0 (pa_cons (pv 0) (pa_cons pe_int (pa_cons pe_non pa_nil)))))
    (pss_one (ps_ret (pe_tup (pa_cons pe_str (pa_cons (pe_call GN hr2 rfl mN kN bN .nil pass0 (pa_cons (pe_ix ix_tup (pv 0) pe_int (fun _ _ => rfl)) pa_nil)) (pa_cons (pe_call GS hr8 rfl mS kS bS .nil pass0 (pa_cons (pe_ix ix_tup (pv 0) pe_int (fun _ _ => rfl)) pa_nil)) (pa_cons (pe_call GI hr rfl mI kI bI .nil pass0 (pa_cons (pe_slice sl_tup (pv 0) (po_some pe_int) po_none) pa_nil)) pa_nil))))))),?_⟩
  obtain ⟨p,xs,rfl,hp,hs⟩:=TrAt.node (show TrAt K H x (.n (.w "part" :: .w z :: sealT sl :: is.map PI.tr)) from hx)
  obtain ⟨x1,xs1,rfl,h1,hs1⟩:=hs.one
  obtain ⟨x2,xs2,rfl,h2,hs2⟩:=hs1.one
  obtain ⟨x3,ys,rfl,h3,hys⟩:=hs2.one
  cases h1.word
  cases h2.word
  have yl:=hys.length
  rw [List.length_map] at yl
  refine ⟨_,rfl,p,_,3,.non,rfl,hp,by show (3:Int) ≤ ((ys.length + 1 + 1 + 1:Nat):Int); omega,.inl rfl,?_⟩
  refine ⟨_,rfl,p,_,_,.str z,rfl,rfl,SqT.of hp,at1 _ _ _,z,rfl,hz,fun H1 s1 => ?_⟩
  refine ⟨_,rfl,p,_,_,x3,rfl,rfl,SqT.of (s1 _ _ hp),at2 _ _ _ _,x3,sl,rfl,h3.same s1,hsl,fun H2 v2 s2 hv2 => ?_⟩
  refine ⟨_,rfl,_,rfl,p,_,rfl,SqT.of ((s1.trans s2) _ _ hp),not_whole (k:=3) (by decide) (by simp),fun p5 hp5 => ?_⟩
  have s5:=same_new hp5 (.tup (cutV (.str "part" :: .str z :: x3 :: ys) (some 3) none))
  have h5:upd H2 p5 (.tup (cutV (.str "part" :: .str z :: x3 :: ys) (some 3) none)) p5 = some (.tup ys):=cut_k 3 H2
  refine ⟨p5,ys,is,rfl,h5,hys.same (s1.trans (s2.trans s5)),h16,hok,fun H6 v6 s6 hv6 => ⟨(by show 4 ≤ sizeLine; decide),fun p7 hp7 => ?_⟩⟩
  have s7:=same_new hp7 (.tup [.str "part",.str z,v2,v6])
  exact q _ _ (s1.trans (s2.trans (s5.trans (s6.trans s7)))) (.t upd_same (.cons (.s _) (.cons (.s _) (.cons (hv2.same (s5.trans (s6.trans s7))) (.cons (hv6.same s7) .nil)))))
theorem scMakerOf:FnScope ["tree","formals"] ["tree"] (defScope sMakerOf):=⟨rfl,rfl,rfl,by decide +kernel,rfl,by decide +kernel,by decide +kernel⟩
set_option maxHeartbeats 0 in
theorem ok_makerOf {f fb fn fs fi fo:Addr} {fd fdb fdn fds fdi fdo:FuncData} {tM:Tok} (F:Fun K "maker_of_tree" "maker_of_tree" sMakerOf f fd)
    (GB:FnOk P w K mg base CX0 1 fb fdb ["tree","least","most"] (spBracket K)) (bB:Binds K fdb ["tree","least","most"] []) (kB:PySem.W.keepIn K (.ref fb) = true) (mB:mg "bracket" = some (.ref fb))
    (GN:FnOk P w K mg base CX0 2 fn fdn ["tree"] spNameOf) (bN:Binds K fdn ["tree"] []) (kN:PySem.W.keepIn K (.ref fn) = true) (mN:mg "name_of_tree" = some (.ref fn))
    (GS:FnOk P w K mg base CX0 8 fs fds ["tree"] (spSealOf K)) (bS:Binds K fds ["tree"] []) (kS:PySem.W.keepIn K (.ref fs) = true) (mS:mg "seal_of_tree" = some (.ref fs))
    (GO:FnOk P w K mg base CX0 8 fo fdo ["tree"] (spFormalOf K)) (bO:Binds K fdo ["tree"] []) (kO:PySem.W.keepIn K (.ref fo) = true) (mO:mg "formal_of_tree" = some (.ref fo))
    (GI:FnOk P w K mg base CX0 16 fi fdi ["trees"] (spPIsOf K)) (bI:Binds K fdi ["trees"] []) (kI:PySem.W.keepIn K (.ref fi) = true) (mI:mg "part_items" = some (.ref fi))
    (mM:mg "MOST_ARGUMENTS" = some (.int 4 tM)) (mt:mg "tuple" = none):FnOk P w K mg base CX0 17 f fd ["tree"] (spMakerOf K):=by
  refine F.ok scMakerOf (fun vs H Q E h => ?_) (fun cdv A outer s H vs Q E hr h => ?_)
  · obtain ⟨x,_,_,_,sl,rfl,_⟩:=h
    rfl
  obtain ⟨x,z,fs,sl,is,rfl,hx,hok,q⟩:=h
  obtain ⟨hz,⟨f1,f4,hfo⟩,hsl,h16,hok⟩:=hok
  have hr1:Room 1 _:=hr.mono (by decide)
  have hr2:Room 2 _:=hr.mono (by decide)
  have hr8:Room 8 _:=hr.mono (by decide)
  refine ⟨_,pss_cons (ps_expr (pe_call GB hr1 rfl mB kB bB .nil pass0 (pa_cons (pv 0) (pa_cons pe_int (pa_cons pe_non pa_nil)))))
    (pss_cons (ps_set (i:=1) scMakerOf.nd rfl (Or.inl rfl) (pe_callTy call_tuple_of rfl mt bootTuple (pa_cons (pe_comp (own:=["formal"]) (caps:=[]) (κ:=[]) (cl:=[]) rfl ⟨rfl,by decide +kernel,by decide +kernel,rfl,rfl,(fun y hy => nomatch hy),(fun y hy => nomatch hy)⟩ rfl (pi_tup (pe_call GB hr1 rfl mB kB bB .nil pass0 (pa_cons (pe_ix ix_tup (pv 0) pe_int (fun _ _ => rfl)) (pa_cons pe_int (pa_cons (pe_glob rfl mM (v:=.int 4) ⟨tM,rfl⟩) pa_nil)))))
      (fun _ _ _ _ => pg_name (i:=0) (show (["formal"]:List Str).Nodup from by decide +kernel) rfl (Or.inl rfl)) (fun _ _ _ _ => pe_call GO hr8 rfl mO kO bO .nil pass0 (pa_cons (pv 0) pa_nil))) pa_nil)))
    (pss_one (ps_ret (pe_tup (pa_cons pe_str (pa_cons (pe_call GN hr2 rfl mN kN bN .nil pass0 (pa_cons (pe_ix ix_tup (pv 0) pe_int (fun _ _ => rfl)) pa_nil)) (pa_cons (pv 1) (pa_cons (pe_call GS hr8 rfl mS kS bS .nil pass0 (pa_cons (pe_ix ix_tup (pv 0) pe_int (fun _ _ => rfl)) pa_nil)) (pa_cons (pe_call GI hr rfl mI kI bI .nil pass0 (pa_cons (pe_slice sl_tup (pv 0) (po_some pe_int) po_none) pa_nil)) pa_nil))))))))),?_⟩
  obtain ⟨p,xs,rfl,hp,hs⟩:=TrAt.node (show TrAt K H x (.n (.w "maker" :: .w z :: .n (fs.map foT) :: sealT sl :: is.map PI.tr)) from hx)
  obtain ⟨x1,xs1,rfl,h1,hs1⟩:=hs.one
  obtain ⟨x2,xs2,rfl,h2,hs2⟩:=hs1.one
  obtain ⟨x3,xs3,rfl,h3,hs3⟩:=hs2.one
  obtain ⟨x4,ys,rfl,h4,hys⟩:=hs3.one
  cases h1.word
  cases h2.word
  obtain ⟨p3,us,rfl,hp3,hus⟩:=h3.node
  have ul:=hus.length
  rw [List.length_map] at ul
  have yl:=hys.length
  rw [List.length_map] at yl
  refine ⟨_,rfl,p,_,4,.non,rfl,hp,by show (4:Int) ≤ ((ys.length + 1 + 1 + 1 + 1:Nat):Int); omega,.inl rfl,?_⟩
  refine ⟨_,rfl,p,_,_,.ref p3,rfl,rfl,SqT.of hp,at2 _ _ _ _,p3,us,1,.int 4,rfl,hp3,by omega,.inr ⟨4,rfl,by omega⟩,p3,rfl,⟨_,SqT.of hp3⟩,?_⟩
  refine comp_eachT (xs:=us) (fun i H v => ∀ d,fs[i]? = some d → DAt H v (foD d)) (fun i H H' v e h d hd => (h d hd).same e) hp3 (by omega) ?_ ?_
  · intro i u H3 N B hu s3 hN
    obtain ⟨t,ht,hat⟩:=hus.get hu
    obtain ⟨k0,hk0,rfl⟩:=map_get ht
    refine ⟨rfl,tYes_go ⟨_,rfl,u,k0,rfl,hat.same s3,hfo k0 (List.mem_of_getElem? hk0),fun H4 v s4 hv => hN _ _ s4 fun d hd => ?_⟩⟩
    rw [hk0] at hd
    cases hd
    exact hv
  · intro zs H3 D s3 hl hzz hD
    have hzs:DsAt H3 zs (fs.map foD):=DsAt.of (by rw [hl,ul,List.length_map]) fun i v d hv hd => by
      obtain ⟨k0,hk0,rfl⟩:=map_get hd
      exact hzz i v hv k0 hk0
    have sD:=same_new hD (.lst zs)
    refine ⟨D,zs,rfl,.inl ⟨SqL.of upd_same,fun l hl => ?_⟩⟩
    have sl':=same_new hl (.tup zs)
    have s0:=s3.trans (sD.trans sl')
    refine ⟨_,rfl,p,_,_,.str z,rfl,rfl,SqT.of (s0 _ _ hp),at1 _ _ _,z,rfl,hz,fun H1 s1 => ?_⟩
    have s01:=s0.trans s1
    refine ⟨_,rfl,_,rfl,p,_,_,x4,rfl,rfl,SqT.of (s01 _ _ hp),at3 _ _ _ _ _,x4,sl,rfl,h4.same s01,hsl,fun H2 v2 s2 hv2 => ?_⟩
    have s02:=s01.trans s2
    refine ⟨_,rfl,_,rfl,p,_,rfl,SqT.of (s02 _ _ hp),not_whole (k:=4) (by decide) (by simp),fun p5 hp5 => ?_⟩
    have s5:=same_new hp5 (.tup (cutV (.str "maker" :: .str z :: .ref p3 :: x4 :: ys) (some 4) none))
    have h5:upd H2 p5 (.tup (cutV (.str "maker" :: .str z :: .ref p3 :: x4 :: ys) (some 4) none)) p5 = some (.tup ys):=cut_k 4 H2
    refine ⟨p5,ys,is,rfl,h5,hys.same (s02.trans s5),h16,hok,fun H6 v6 s6 hv6 => ⟨(by show 5 ≤ sizeLine; decide),fun p7 hp7 => ?_⟩⟩
    have s7:=same_new hp7 (.tup [.str "maker",.str z,.ref l,v2,v6])
    have s27:=s5.trans (s6.trans s7)
    have s17:=s1.trans (s2.trans s27)
    exact q _ _ (s02.trans s27) (.t upd_same (.cons (.s _) (.cons (.s _) (.cons (.t (s17 _ _ upd_same) (hzs.same (sD.trans (sl'.trans s17)))) (.cons (hv2.same s27) (.cons (hv6.same s7) .nil))))))
theorem scMadeOf:FnScope ["tree","parts"] ["tree"] (defScope sMadeOf):=⟨rfl,rfl,rfl,by decide +kernel,rfl,by decide +kernel,by decide +kernel⟩
set_option maxHeartbeats 0 in
theorem ok_madeOf {f fb fn:Addr} {fd fdb fdn:FuncData} (F:Fun K "made_of_tree" "made_of_tree" sMadeOf f fd)
    (GB:FnOk P w K mg base CX0 1 fb fdb ["tree","least","most"] (spBracket K)) (bB:Binds K fdb ["tree","least","most"] []) (kB:PySem.W.keepIn K (.ref fb) = true) (mB:mg "bracket" = some (.ref fb))
    (GN:FnOk P w K mg base CX0 2 fn fdn ["tree"] spNameOf) (bN:Binds K fdn ["tree"] []) (kN:PySem.W.keepIn K (.ref fn) = true) (mN:mg "name_of_tree" = some (.ref fn))
    (mt:mg "tuple" = none):FnOk P w K mg base CX0 3 f fd ["tree"] (spMadeOf K):=by
  refine F.ok scMadeOf (fun vs H Q E h => ?_) (fun cdv A outer s H vs Q E hr h => ?_)
  · obtain ⟨x,_,_,sl,rfl,_⟩:=h
    rfl
  obtain ⟨x,z,m,ps,rfl,hx,hok,q⟩:=h
  obtain ⟨hz,hm,p1,p6,hps⟩:=hok
  have hr1:Room 1 _:=hr.mono (by decide)
  refine ⟨_,pss_cons (ps_expr (pe_call GB hr1 rfl mB kB bB .nil pass0 (pa_cons (pv 0) (pa_cons pe_int (pa_cons pe_non pa_nil)))))
    (pss_cons (ps_set (i:=1) scMadeOf.nd rfl (Or.inl rfl) (pe_callTy call_tuple_of rfl mt bootTuple (pa_cons (pe_comp (own:=["part"]) (caps:=[]) (κ:=[]) (cl:=[]) rfl ⟨rfl,by decide +kernel,by decide +kernel,rfl,rfl,(fun y hy => nomatch hy),(fun y hy => nomatch hy)⟩ rfl (pi_tup (pe_slice sl_tup (pv 0) (po_some pe_int) po_none))
      (fun _ _ _ _ => pg_name (i:=0) (show (["part"]:List Str).Nodup from by decide +kernel) rfl (Or.inl rfl)) (fun _ _ _ _ => pe_call GN hr rfl mN kN bN .nil pass0 (pa_cons (pv 0) pa_nil))) pa_nil)))
    (pss_one (ps_ret (pe_tup (pa_cons pe_str (pa_cons (pe_call GN hr rfl mN kN bN .nil pass0 (pa_cons (pe_ix ix_tup (pv 0) pe_int (fun _ _ => rfl)) pa_nil)) (pa_cons (pe_call GN hr rfl mN kN bN .nil pass0 (pa_cons (pe_ix ix_tup (pv 0) pe_int (fun _ _ => rfl)) pa_nil)) (pa_cons (pv 1) pa_nil)))))))),?_⟩
  obtain ⟨p,xs,rfl,hp,hs⟩:=TrAt.node (show TrAt K H x (.n (.w "made" :: .w z :: .w m :: ps.map Tr.w)) from hx)
  obtain ⟨x1,xs1,rfl,h1,hs1⟩:=hs.one
  obtain ⟨x2,xs2,rfl,h2,hs2⟩:=hs1.one
  obtain ⟨x3,ys,rfl,h3,hys⟩:=hs2.one
  cases h1.word
  cases h2.word
  cases h3.word
  have yl:=hys.length
  rw [List.length_map] at yl
  refine ⟨_,rfl,p,_,4,.non,rfl,hp,by show (4:Int) ≤ ((ys.length + 1 + 1 + 1:Nat):Int); omega,.inl rfl,?_⟩
  refine ⟨_,rfl,_,rfl,p,_,rfl,SqT.of hp,not_whole (k:=3) (by decide) (by simp),fun p5 hp5 => ?_⟩
  have s5:=same_new hp5 (.tup (cutV (.str "made" :: .str z :: .str m :: ys) (some 3) none))
  have h5:upd H p5 (.tup (cutV (.str "made" :: .str z :: .str m :: ys) (some 3) none)) p5 = some (.tup ys):=cut_k 3 H
  refine ⟨p5,rfl,⟨_,SqT.of h5⟩,?_⟩
  refine comp_eachT (xs:=ys) (fun i H v => ∀ d,ps[i]? = some d → DAt H v (.s d)) (fun i H H' v e h d hd => (h d hd).same e) h5 (by omega) ?_ ?_
  · intro i u H3 N B hu s3 hN
    obtain ⟨t,ht,hat⟩:=hys.get hu
    obtain ⟨k0,hk0,rfl⟩:=map_get ht
    cases hat.word
    refine ⟨rfl,tYes_go ⟨_,rfl,k0,rfl,hps k0 (List.mem_of_getElem? hk0),fun H4 s4 => hN _ _ s4 fun d hd => ?_⟩⟩
    rw [hk0] at hd
    cases hd
    exact .s _
  · intro zs H3 D s3 hl hzz hD
    have hzs:DsAt H3 zs (ps.map Dd.s):=DsAt.of (by rw [hl,yl,List.length_map]) fun i v d hv hd => by
      obtain ⟨k0,hk0,rfl⟩:=map_get hd
      exact hzz i v hv k0 hk0
    have sD:=same_new hD (.lst zs)
    refine ⟨D,zs,rfl,.inl ⟨SqL.of upd_same,fun l hl => ?_⟩⟩
    have sl':=same_new hl (.tup zs)
    have s0:=s5.trans (s3.trans (sD.trans sl'))
    refine ⟨_,rfl,p,_,_,.str z,rfl,rfl,SqT.of (s0 _ _ hp),at1 _ _ _,z,rfl,hz,fun H1 s1 => ?_⟩
    refine ⟨_,rfl,p,_,_,.str m,rfl,rfl,SqT.of ((s0.trans s1) _ _ hp),at2 _ _ _ _,m,rfl,hm,fun H2 s2 => ⟨_,rfl,(by show 4 ≤ sizeLine; decide),fun p7 hp7 => ?_⟩⟩
    have s7:=same_new hp7 (.tup [.str "made",.str z,.str m,.ref l])
    have s17:=s1.trans (s2.trans s7)
    exact q _ _ (s0.trans s17) (.t upd_same (.cons (.s _) (.cons (.s _) (.cons (.s _) (.cons (.t (s17 _ _ upd_same) (hzs.same (sD.trans (sl'.trans s17)))) .nil)))))
theorem scDeclOf:FnScope ["tree","ahead"] ["tree"] (defScope sDeclOf):=⟨rfl,rfl,rfl,by decide +kernel,rfl,by decide +kernel,by decide +kernel⟩
set_option maxHeartbeats 0 in
theorem ok_declOf {f fa ff fp fm fx:Addr} {fd fda fdf fdp fdm fdx:FuncData} (F:Fun K "declaration_of_tree" "declaration_of_tree" sDeclOf f fd)
    (GA:FnOk P w K mg base CX0 2 fa fda ["tree"] spAhead) (bA:Binds K fda ["tree"] []) (kA:PySem.W.keepIn K (.ref fa) = true) (mA:mg "word_ahead" = some (.ref fa))
    (GF:FnOk P w K mg base CX0 7 ff fdf ["tree"] (spFaceOf K)) (bF:Binds K fdf ["tree"] []) (kF:PySem.W.keepIn K (.ref ff) = true) (mF:mg "face_of_tree" = some (.ref ff))
    (GP:FnOk P w K mg base CX0 17 fp fdp ["tree"] (spPartOf K)) (bP:Binds K fdp ["tree"] []) (kP:PySem.W.keepIn K (.ref fp) = true) (mP:mg "part_of_tree" = some (.ref fp))
    (GM:FnOk P w K mg base CX0 17 fm fdm ["tree"] (spMakerOf K)) (bM:Binds K fdm ["tree"] []) (kM:PySem.W.keepIn K (.ref fm) = true) (mM:mg "maker_of_tree" = some (.ref fm))
    (GX:FnOk P w K mg base CX0 3 fx fdx ["tree"] (spMadeOf K)) (bX:Binds K fdx ["tree"] []) (kX:PySem.W.keepIn K (.ref fx) = true) (mX:mg "made_of_tree" = some (.ref fx)):FnOk P w K mg base CX0 18 f fd ["tree"] (spDcOf K):=by
  refine F.ok scDeclOf (fun vs H Q E h => ?_) (fun cdv A outer s H vs Q E hr h => ?_)
  · obtain ⟨x,sl,rfl,_⟩:=h
    rfl
  obtain ⟨x,d,rfl,hx,hok,q⟩:=h
  have hr2:Room 2 _:=hr.mono (by decide)
  have hr3:Room 3 _:=hr.mono (by decide)
  have hr7:Room 7 _:=hr.mono (by decide)
  refine ⟨_,pss_cons (ps_set (i:=1) scDeclOf.nd rfl (Or.inl rfl) (pe_call GA hr2 rfl mA kA bA .nil pass0 (pa_cons (pv 0) pa_nil)))
    (pss_cons (ps_if (pt_cmpR op_eq (pv 1) pe_str (nomark _)) (pss_one (ps_ret (pe_call GF hr7 rfl mF kF bF .nil pass0 (pa_cons (pv 0) pa_nil)))) pss_nil)
    (pss_cons (ps_if (pt_cmpR op_eq (pv 1) pe_str (nomark _)) (pss_one (ps_ret (pe_call GP hr rfl mP kP bP .nil pass0 (pa_cons (pv 0) pa_nil)))) pss_nil)
    (pss_cons (ps_if (pt_cmpR op_eq (pv 1) pe_str (nomark _)) (pss_one (ps_ret (pe_call GM hr rfl mM kM bM .nil pass0 (pa_cons (pv 0) pa_nil)))) pss_nil)
    (pss_cons (ps_if (pt_cmpR op_eq (pv 1) pe_str (nomark _)) (pss_one (ps_ret (pe_call GX hr3 rfl mX kX bX .nil pass0 (pa_cons (pv 0) pa_nil)))) pss_nil)
    pss_no)))),?_⟩
  cases d with
  | face z is =>
    obtain ⟨p,xs,rfl,hp,hs⟩:=TrAt.node (show TrAt K H x (.n (.w "face" :: .w z :: is.map FI.tr)) from hx)
    obtain ⟨x1,xs1,rfl,h1,_⟩:=hs.one
    cases h1.word
    refine ⟨_,rfl,p,_,_,rfl,hp,?_⟩
    refine ⟨_,rfl,rfl,_,rfl,ite2 (fun _ => ?_) (fun c => absurd (by decide +kernel) c)⟩
    exact ⟨_,rfl,_,z,is,rfl,hx,hok,q⟩
  | part z sl is =>
    obtain ⟨p,xs,rfl,hp,hs⟩:=TrAt.node (show TrAt K H x (.n (.w "part" :: .w z :: sealT sl :: is.map PI.tr)) from hx)
    obtain ⟨x1,xs1,rfl,h1,_⟩:=hs.one
    cases h1.word
    refine ⟨_,rfl,p,_,_,rfl,hp,?_⟩
    refine ⟨_,rfl,rfl,_,rfl,ite2 (fun c => absurd c (by decide +kernel)) (fun _ => ?_)⟩
    refine ⟨_,rfl,rfl,_,rfl,ite2 (fun _ => ?_) (fun c => absurd (by decide +kernel) c)⟩
    exact ⟨_,rfl,_,z,sl,is,rfl,hx,hok,q⟩
  | maker z fs sl is =>
    obtain ⟨p,xs,rfl,hp,hs⟩:=TrAt.node (show TrAt K H x (.n (.w "maker" :: .w z :: .n (fs.map foT) :: sealT sl :: is.map PI.tr)) from hx)
    obtain ⟨x1,xs1,rfl,h1,_⟩:=hs.one
    cases h1.word
    refine ⟨_,rfl,p,_,_,rfl,hp,?_⟩
    refine ⟨_,rfl,rfl,_,rfl,ite2 (fun c => absurd c (by decide +kernel)) (fun _ => ?_)⟩
    refine ⟨_,rfl,rfl,_,rfl,ite2 (fun c => absurd c (by decide +kernel)) (fun _ => ?_)⟩
    refine ⟨_,rfl,rfl,_,rfl,ite2 (fun _ => ?_) (fun c => absurd (by decide +kernel) c)⟩
    exact ⟨_,rfl,_,z,fs,sl,is,rfl,hx,hok,q⟩
  | made z m ps =>
    obtain ⟨p,xs,rfl,hp,hs⟩:=TrAt.node (show TrAt K H x (.n (.w "made" :: .w z :: .w m :: ps.map Tr.w)) from hx)
    obtain ⟨x1,xs1,rfl,h1,_⟩:=hs.one
    cases h1.word
    refine ⟨_,rfl,p,_,_,rfl,hp,?_⟩
    refine ⟨_,rfl,rfl,_,rfl,ite2 (fun c => absurd c (by decide +kernel)) (fun _ => ?_)⟩
    refine ⟨_,rfl,rfl,_,rfl,ite2 (fun c => absurd c (by decide +kernel)) (fun _ => ?_)⟩
    refine ⟨_,rfl,rfl,_,rfl,ite2 (fun c => absurd c (by decide +kernel)) (fun _ => ?_)⟩
    refine ⟨_,rfl,rfl,_,rfl,ite2 (fun _ => ?_) (fun c => absurd (by decide +kernel) c)⟩
    exact ⟨_,rfl,_,z,m,ps,rfl,hx,hok,q⟩
theorem scReadHouse:FnScope ["text"] ["text"] (defScope sReadHouse):=⟨rfl,rfl,rfl,by decide +kernel,rfl,by decide +kernel,by decide +kernel⟩
set_option maxHeartbeats 0 in
theorem ok_readHouse {f ft fk:Addr} {fd fdt fdk:FuncData} (F:Fun K "read_house" "read_house" sReadHouse f fd)
    (GT:FnOk P w K mg base CX0 2 ft fdt ["text"] (spTrees K)) (bT:Binds K fdt ["text"] []) (kT:PySem.W.keepIn K (.ref ft) = true) (mT:mg "trees_of" = some (.ref ft))
    (GK:FnOk P w K mg base CX0 18 fk fdk ["tree"] (spDcOf K)) (bK:Binds K fdk ["tree"] []) (kK:PySem.W.keepIn K (.ref fk) = true) (mK:mg "declaration_of_tree" = some (.ref fk)):FnOk P w K mg base CX0 19 f fd ["text"] (spReadHouse K):=by
  refine F.ok scReadHouse (fun vs H Q E h => ?_) (fun cdv A outer s H vs Q E hr h => ?_)
  · obtain ⟨z,k,rfl,_⟩:=h
    rfl
  obtain ⟨z,ds,rfl,hz,ht,h2,hok,q⟩:=h
  have hr2:Room 2 _:=hr.mono (by decide)
  refine ⟨_,pss_one (ps_ret (pe_comp (own:=["tree"]) (caps:=[]) (κ:=[]) (cl:=[]) rfl ⟨rfl,by decide +kernel,by decide +kernel,rfl,rfl,(fun y hy => nomatch hy),(fun y hy => nomatch hy)⟩ rfl (pi_list (pe_call GT hr2 rfl mT kT bT .nil pass0 (pa_cons (pv 0) pa_nil)))
    (fun _ _ _ _ => pg_name (i:=0) (show (["tree"]:List Str).Nodup from by decide +kernel) rfl (Or.inl rfl)) (fun _ _ _ _ => pe_call GK hr rfl mK kK bK .nil pass0 (pa_cons (pv 0) pa_nil)))),?_⟩
  have hoks:oks (ds.map Dc.tr):=oks_of (all_map fun d hd => (tg_dc (hok d hd)).1)
  have hg:hgt 0 (Tk.toks (cps z)) = some 0:=by
    have hd:deps (ds.map Dc.tr) ≤ 6:=deps_of (all_map fun d hd => (tg_dc (hok d hd)).2.2)
    rw [ht,← List.append_nil (flats (ds.map Dc.tr)),hgt_ins hoks (by omega)]
    rfl
  refine ⟨_,rfl,z,rfl,hz,hg,fun H1 l xs ts s1 hln hl1 hts hokt hf => ?_⟩
  obtain rfl:ts = ds.map Dc.tr:=one_reading hokt hoks (by rw [hf,ht])
  have xl:=hts.length
  rw [List.length_map] at xl
  refine ⟨l,rfl,⟨_,SqL.of hl1⟩,?_⟩
  refine comp_eachL (xs:=xs) (fun i H v => ∀ d,ds[i]? = some d → DAt H v d.d) (fun i H H' v e h d hd => (h d hd).same e) (SqL.of hl1) (by omega) ?_ ?_
  · intro i u H3 N B hu s3 hN
    obtain ⟨t,ht,hat⟩:=hts.get hu
    obtain ⟨k0,hk0,rfl⟩:=map_get ht
    refine ⟨rfl,tYes_go ⟨_,rfl,u,k0,rfl,hat.same s3,hok k0 (List.mem_of_getElem? hk0),fun H4 v s4 hv => hN _ _ s4 fun d hd => ?_⟩⟩
    rw [hk0] at hd
    cases hd
    exact hv
  · intro zs H3 D s3 hl hzz hD
    have hzs:DsAt H3 zs (ds.map Dc.d):=DsAt.of (by rw [hl,xl,List.length_map]) fun i v d hv hd => by
      obtain ⟨k0,hk0,rfl⟩:=map_get hd
      exact hzz i v hv k0 hk0
    have sD:=same_new hD (.lst zs)
    exact q _ D zs (s1.trans (s3.trans sD)) (Same.free (s1.trans s3) hD) upd_same (hzs.same sD)
end
end K17
namespace K17
open PySem L2
noncomputable def spNamedTr (K:PySem.W.Frag):Sp:=fun vs H Q _ => ∃ (x:V) (rs:List Row),vs = [x] ∧ DAt H x (.t (rs.map rwD)) ∧ rowsOk rs ∧ ∀ H' v,Same H H' → TrAt K H' v (.n (rs.map rwT)) → Q v H'
noncomputable def spSealTr (K:PySem.W.Frag):Sp:=fun vs H Q _ => ∃ (x:V) (s:Option Rf),vs = [x] ∧ DAt H x (sealD s) ∧ sealOk s ∧ ∀ H' v,Same H H' → TrAt K H' v (sealT s) → Q v H'
noncomputable def spFITr (K:PySem.W.Frag):Sp:=fun vs H Q _ => ∃ (x:V) (i:FI),vs = [x] ∧ DAt H x i.d ∧ i.ok ∧ ∀ H' v,Same H H' → TrAt K H' v i.tr → Q v H'
noncomputable def spPITr (K:PySem.W.Frag):Sp:=fun vs H Q _ => ∃ (x:V) (i:PI),vs = [x] ∧ DAt H x i.d ∧ i.ok ∧ ∀ H' v,Same H H' → TrAt K H' v i.tr → Q v H'
noncomputable def spPIsTr (K:PySem.W.Frag):Sp:=fun vs H Q _ => ∃ (x:V) (is:List PI),vs = [x] ∧ DAt H x (.t (is.map PI.d)) ∧ is.length ≤ 16 ∧ (∀ i ∈ is,i.ok) ∧ ∀ H' v,Same H H' → TrAt K H' v (.n (is.map PI.tr)) → Q v H'
noncomputable def spDcTr (K:PySem.W.Frag):Sp:=fun vs H Q _ => ∃ (x:V) (d:Dc),vs = [x] ∧ DAt H x d.d ∧ d.ok ∧ ∀ H' v,Same H H' → TrAt K H' v d.tr → Q v H'
noncomputable def spHouseText (K:PySem.W.Frag):Sp:=fun vs H Q _ => ∃ (p:Addr) (xs:List V) (ds:List Dc),vs = [.ref p] ∧ SqL K H p xs ∧ DsAt H xs (ds.map Dc.d) ∧ (∀ d ∈ ds,d.ok) ∧ ds.length ≤ 2 ∧ (flats (ds.map Dc.tr)).length ≤ 1900 ∧ ∀ H' (z:Str),Same H H' → cps z = lines (ds.map Dc.tr) → Q (.str z) H'
theorem cat_go {K:PySem.W.Frag} {H:Hp} {a b:Addr} {xs ys:List V} {Q:VK} (ha:H a = some (.tup xs)) (hb:H b = some (.tup ys)) (hne:xs ≠ []) (hl:xs.length + ys.length ≤ 1000) (k:∀ H' p,Same H H' → H' p = some (.tup (xs ++ ys)) → Q (.ref p) H'):rCatT K (.ref a) (.ref b) H Q :=
  ⟨a,b,xs,ys,rfl,rfl,SqT.of ha,SqT.of hb,hne,small hl,fun e => by
    subst e
    exact k H a (Same.refl _) (by rw [List.append_nil]; exact ha),fun _ p hp => k _ p (same_new hp _) upd_same⟩
section
variable {P:Program} {w:World} {K:PySem.W.Frag} {mg:Str → Option Value} {base:Heap}
theorem scNamedTr:FnScope ["named"] ["named"] (defScope sNamedTr):=⟨rfl,rfl,rfl,by decide +kernel,rfl,by decide +kernel,by decide +kernel⟩
set_option maxHeartbeats 0 in
theorem ok_namedTr {f fk:Addr} {fd fdk:FuncData} (F:Fun K "named_trees" "named_trees" sNamedTr f fd)
    (GK:FnOk P w K mg base CX0 3 fk fdk ["kind"] (spKindTree K 2)) (bK:Binds K fdk ["kind"] []) (kK:PySem.W.keepIn K (.ref fk) = true) (mK:mg "kind_tree" = some (.ref fk)) (mt:mg "tuple" = none):FnOk P w K mg base CX0 4 f fd ["named"] (spNamedTr K):=by
  refine F.ok scNamedTr (fun vs H Q E h => ?_) (fun cdv A outer s H vs Q E hr h => ?_)
  · obtain ⟨x,rs,rfl,_⟩:=h
    rfl
  obtain ⟨x,rs,rfl,hx,hrs,q⟩:=h
  refine ⟨_,pss_one (ps_ret (pe_callTy call_tuple_of rfl mt bootTuple (pa_cons (pe_comp (own:=["name","kind"]) (caps:=[]) (κ:=[]) (cl:=[]) rfl ⟨rfl,by decide +kernel,by decide +kernel,rfl,rfl,(fun y hy => nomatch hy),(fun y hy => nomatch hy)⟩ rfl (pi_tup (pv 0))
    (fun _ _ _ _ => pg_two (K:=K) (i:=0) (j:=1) rfl rfl (show (["name","kind"]:List Str).Nodup from by decide +kernel) rfl (Or.inl rfl) (Or.inr rfl) rfl (Or.inl rfl) (Or.inr rfl)) (fun _ _ _ _ => pe_tup (pa_cons (pv 0) (pa_cons (pe_call GK hr rfl mK kK bK .nil pass0 (pa_cons (pv 1) pa_nil)) pa_nil)))) pa_nil))),?_⟩
  obtain ⟨p,xs,rfl,hp,hxs⟩:=hx.tup
  have xl:=hxs.length
  rw [List.length_map] at xl
  have r4:=hrs.1
  refine ⟨_,rfl,p,rfl,⟨_,SqT.of hp⟩,?_⟩
  refine comp_eachT (xs:=xs) (fun i H v => ∀ r,rs[i]? = some r → TrAt K H v (rwT r)) (fun i H H' v e h d hd => (h d hd).same e) hp (by omega) ?_ ?_
  · intro i u H3 N B hu s3 hN
    obtain ⟨t,ht,hat⟩:=hxs.get hu
    obtain ⟨r,hr',rfl⟩:=map_get ht
    obtain ⟨hw,hk⟩:=hrs.2 r (List.mem_of_getElem? hr')
    obtain ⟨a,ys,rfl,ha,hs⟩:=DAt.tup (show DAt H3 u (.t [.s r.1,r.2.d]) from hat.same s3)
    obtain ⟨x1,_,rfl,h1,hs⟩:=hs.one
    obtain ⟨x2,_,rfl,h2,hs⟩:=hs.one
    cases hs.none
    cases h1.str
    refine ⟨a,_,rfl,SqT.of ha,rfl,_,_,rfl,_,_,rfl,rfl,rfl,tYes_go ⟨_,rfl,_,rfl,x2,r.2,rfl,d_kd h2,hk.1,hk.dp,fun H4 v s4 hv => ⟨(by show 2 ≤ sizeLine; decide),fun p5 hp5 => ?_⟩⟩⟩
    have s5:=same_new hp5 (.tup [.str r.1,v])
    refine hN _ _ (s4.trans s5) fun r' hr2 => ?_
    rw [hr'] at hr2
    cases hr2
    exact .n upd_same (.cons (.w _) (.cons (hv.same s5) .nil))
  · intro zs H3 D s3 hl hz hD
    have hzs:TrsAt K H3 zs (rs.map rwT):=trsAt_of (by rw [hl,xl,List.length_map]) fun i v d hv hd => by
      obtain ⟨k0,hk0,rfl⟩:=map_get hd
      exact hz i v hv k0 hk0
    have sD:=same_new hD (.lst zs)
    refine ⟨D,zs,rfl,.inl ⟨SqL.of upd_same,fun l hl => ?_⟩⟩
    have sl:=same_new hl (.tup zs)
    exact q _ _ (s3.trans (sD.trans sl)) (.n upd_same (hzs.same (sD.trans sl)))
theorem scSealTr:FnScope ["seal"] ["seal"] (defScope sSealTree):=⟨rfl,rfl,rfl,by decide +kernel,rfl,by decide +kernel,by decide +kernel⟩
set_option maxHeartbeats 0 in
theorem ok_sealTr {f fn:Addr} {fd fdn:FuncData} (F:Fun K "seal_tree" "seal_tree" sSealTree f fd)
    (GN:FnOk P w K mg base CX0 4 fn fdn ["named"] (spNamedTr K)) (bN:Binds K fdn ["named"] []) (kN:PySem.W.keepIn K (.ref fn) = true) (mN:mg "named_trees" = some (.ref fn)):FnOk P w K mg base CX0 5 f fd ["seal"] (spSealTr K):=by
  refine F.ok scSealTr (fun vs H Q E h => ?_) (fun cdv A outer s H vs Q E hr h => ?_)
  · obtain ⟨x,rs,rfl,_⟩:=h
    rfl
  obtain ⟨x,sl,rfl,hx,hok,q⟩:=h
  refine ⟨_,pss_cons (ps_if (pt_cmpR op_isN (pv 0) pe_non (nomark _)) (pss_one (ps_ret pe_str)) pss_nil)
    (pss_one (ps_ret (pe_op op_catT (pe_tup (pa_cons (pe_ix ix_tup (pv 0) pe_int (fun _ _ => rfl)) pa_nil)) (pe_call GN hr rfl mN kN bN .nil pass0 (pa_cons (pe_ix ix_tup (pv 0) pe_int (fun _ _ => rfl)) pa_nil))))),?_⟩
  cases sl with
  | none =>
    cases hx.none
    exact ⟨_,rfl,rfl,_,rfl,iteT (q _ _ (Same.refl _) (.w _))⟩
  | some r =>
    obtain ⟨p,xs,rfl,hp,hs⟩:=DAt.tup (show DAt H x (.t [.s r.w,.t (r.rows.map rwD)]) from hx)
    obtain ⟨x1,_,rfl,h1,hs⟩:=hs.one
    obtain ⟨x2,_,rfl,h2,hs⟩:=hs.one
    cases hs.none
    cases h1.str
    refine ⟨_,rfl,rfl,_,rfl,ite2 (fun c => absurd (of_decide_eq_true c) (by intro h; cases h)) (fun _ => ?_)⟩
    refine ⟨_,rfl,p,_,_,.str r.w,rfl,rfl,SqT.of hp,rfl,(by show 1 ≤ sizeLine; decide),fun p1 hp1 => ?_⟩
    have s1:=same_new hp1 (.tup [.str r.w])
    refine ⟨_,rfl,p,_,_,x2,rfl,rfl,SqT.of (s1 _ _ hp),rfl,x2,r.rows,rfl,h2.same s1,hok.2,fun H2 v2 s2 hv2 => ?_⟩
    obtain ⟨a,ys,rfl,ha,hys⟩:=hv2.node
    have yl:=hys.length
    rw [List.length_map] at yl
    have r4:=hok.2.1
    refine cat_go (s2 _ _ upd_same) ha (by simp) (by show 1 + ys.length ≤ 1000; omega) fun H3 p3 s3 h3 => ?_
    exact q _ _ (s1.trans (s2.trans s3)) (.n h3 (.cons (.w _) (hys.same s3)))
theorem scFITr:FnScope ["item"] ["item"] (defScope sFITr):=⟨rfl,rfl,rfl,by decide +kernel,rfl,by decide +kernel,by decide +kernel⟩
set_option maxHeartbeats 0 in
theorem ok_fiTr {f fk:Addr} {fd fdk:FuncData} (F:Fun K "face_item_tree" "face_item_tree" sFITr f fd)
    (GK:FnOk P w K mg base CX0 3 fk fdk ["kind"] (spKindTree K 2)) (bK:Binds K fdk ["kind"] []) (kK:PySem.W.keepIn K (.ref fk) = true) (mK:mg "kind_tree" = some (.ref fk)) (mt:mg "tuple" = none):FnOk P w K mg base CX0 4 f fd ["item"] (spFITr K):=by
  refine F.ok scFITr (fun vs H Q E h => ?_) (fun cdv A outer s H vs Q E hr h => ?_)
  · obtain ⟨x,rs,rfl,_⟩:=h
    rfl
  obtain ⟨x,it,rfl,hx,hok,q⟩:=h
  refine ⟨_,pss_cons (ps_if (pt_cmpR op_eq (pe_ix ix_tup (pv 0) pe_int (fun _ _ => rfl)) pe_str (nomark _)) (pss_one (ps_ret (pv 0))) pss_nil)
    (pss_cons (ps_if (pt_cmpR op_eq (pe_ix ix_tup (pv 0) pe_int (fun _ _ => rfl)) pe_str (nomark _)) (pss_one (ps_ret (pe_tup (pa_cons pe_str (pa_cons (pe_ix ix_tup (pv 0) pe_int (fun _ _ => rfl)) (pa_cons (pe_call GK hr rfl mK kK bK .nil pass0 (pa_cons (pe_ix ix_tup (pv 0) pe_int (fun _ _ => rfl)) pa_nil)) pa_nil)))))) pss_nil)
    (pss_one (ps_ret (pe_tup (pa_cons pe_str (pa_cons (pe_ix ix_tup (pv 0) pe_int (fun _ _ => rfl)) (pa_cons (pe_callTy call_tuple_of rfl mt bootTuple (pa_cons (pe_comp (own:=["kind"]) (caps:=[]) (κ:=[]) (cl:=[]) rfl ⟨rfl,by decide +kernel,by decide +kernel,rfl,rfl,(fun y hy => nomatch hy),(fun y hy => nomatch hy)⟩ rfl (pi_tup (pe_ix ix_tup (pv 0) pe_int (fun _ _ => rfl)))
      (fun _ _ _ _ => pg_name (i:=0) (show (["kind"]:List Str).Nodup from by decide +kernel) rfl (Or.inl rfl)) (fun _ _ _ _ => pe_call GK hr rfl mK kK bK .nil pass0 (pa_cons (pv 0) pa_nil))) pa_nil)) (pa_cons (pe_call GK hr rfl mK kK bK .nil pass0 (pa_cons (pe_ix ix_tup (pv 0) pe_int (fun _ _ => rfl)) pa_nil)) pa_nil)))))))),?_⟩
  cases it with
  | hid z =>
    obtain ⟨p,xs,rfl,hp,hs⟩:=DAt.tup (show DAt H x (.t [.s "hid",.s z]) from hx)
    obtain ⟨x1,_,rfl,h1,hs⟩:=hs.one
    obtain ⟨x2,_,rfl,h2,hs⟩:=hs.one
    cases hs.none
    cases h1.str
    cases h2.str
    exact ⟨_,rfl,p,_,_,.str "hid",rfl,rfl,SqT.of hp,rfl,rfl,_,rfl,ite2 (fun _ => ⟨_,rfl,q _ _ (Same.refl _) (.n hp (.cons (.w _) (.cons (.w _) .nil)))⟩) (fun c => absurd (by decide +kernel) c)⟩
  | told z k =>
    obtain ⟨p,xs,rfl,hp,hs⟩:=DAt.tup (show DAt H x (.t [.s "told",.s z,k.d]) from hx)
    obtain ⟨x1,_,rfl,h1,hs⟩:=hs.one
    obtain ⟨x2,_,rfl,h2,hs⟩:=hs.one
    obtain ⟨x3,_,rfl,h3,hs⟩:=hs.one
    cases hs.none
    cases h1.str
    cases h2.str
    refine ⟨_,rfl,p,_,_,.str "told",rfl,rfl,SqT.of hp,rfl,rfl,_,rfl,ite2 (fun c => absurd c (by decide +kernel)) (fun _ => ?_)⟩
    refine ⟨_,rfl,p,_,_,.str "told",rfl,rfl,SqT.of hp,rfl,rfl,_,rfl,ite2 (fun _ => ?_) (fun c => absurd (by decide +kernel) c)⟩
    refine ⟨_,rfl,p,_,_,.str z,rfl,rfl,SqT.of hp,rfl,_,rfl,p,_,_,x3,rfl,rfl,SqT.of hp,rfl,x3,k,rfl,d_kd h3,hok.2.1,hok.2.dp,fun H2 v2 s2 hv2 => ⟨(by show 3 ≤ sizeLine; decide),fun p3 hp3 => ?_⟩⟩
    have s3:=same_new hp3 (.tup [.str "told",.str z,v2])
    exact q _ _ (s2.trans s3) (.n upd_same (.cons (.w _) (.cons (.w _) (.cons (hv2.same s3) .nil))))
  | fn z ks k =>
    obtain ⟨p,xs,rfl,hp,hs⟩:=DAt.tup (show DAt H x (.t [.s "fun",.s z,.t (ks.map Kd.d),k.d]) from hx)
    obtain ⟨x1,_,rfl,h1,hs⟩:=hs.one
    obtain ⟨x2,_,rfl,h2,hs⟩:=hs.one
    obtain ⟨x3,_,rfl,h3,hs⟩:=hs.one
    obtain ⟨x4,_,rfl,h4,hs⟩:=hs.one
    cases hs.none
    cases h1.str
    cases h2.str
    obtain ⟨p3,ys,rfl,hp3,hys⟩:=h3.tup
    have yl:=hys.length
    rw [List.length_map] at yl
    have k4:=hok.2.1.1
    refine ⟨_,rfl,p,_,_,.str "fun",rfl,rfl,SqT.of hp,rfl,rfl,_,rfl,ite2 (fun c => absurd c (by decide +kernel)) (fun _ => ?_)⟩
    refine ⟨_,rfl,p,_,_,.str "fun",rfl,rfl,SqT.of hp,rfl,rfl,_,rfl,ite2 (fun c => absurd c (by decide +kernel)) (fun _ => ?_)⟩
    refine ⟨_,rfl,p,_,_,.str z,rfl,rfl,SqT.of hp,rfl,_,rfl,p,_,_,.ref p3,rfl,rfl,SqT.of hp,rfl,p3,rfl,⟨_,SqT.of hp3⟩,?_⟩
    refine comp_eachT (xs:=ys) (fun i H v => ∀ d,ks[i]? = some d → TrAt K H v d.tr) (fun i H H' v e h d hd => (h d hd).same e) hp3 (by omega) ?_ ?_
    · intro i u H3 N B hu s3 hN
      obtain ⟨t,ht,hat⟩:=hys.get hu
      obtain ⟨k0,hk0,rfl⟩:=map_get ht
      have hm:=hok.2.1.2 k0 (List.mem_of_getElem? hk0)
      refine ⟨rfl,tYes_go ⟨_,rfl,u,k0,rfl,d_kd (hat.same s3),hm.1,hm.dp,fun H4 v s4 hv => hN _ _ s4 fun d hd => ?_⟩⟩
      rw [hk0] at hd
      cases hd
      exact hv
    · intro zs H3 D s3 hl hz hD
      have hzs:TrsAt K H3 zs (ks.map Kd.tr):=trsAt_of (by rw [hl,yl,List.length_map]) fun i v d hv hd => by
        obtain ⟨k0,hk0,rfl⟩:=map_get hd
        exact hz i v hv k0 hk0
      have sD:=same_new hD (.lst zs)
      refine ⟨D,zs,rfl,.inl ⟨SqL.of upd_same,fun l hl => ?_⟩⟩
      have sl:=same_new hl (.tup zs)
      have s1:=s3.trans (sD.trans sl)
      refine ⟨_,rfl,p,_,_,x4,rfl,rfl,SqT.of (s1 _ _ hp),rfl,x4,k,rfl,d_kd (h4.same s1),hok.2.2.1,hok.2.2.dp,fun H6 v6 s6 hv6 => ⟨(by show 4 ≤ sizeLine; decide),fun p7 hp7 => ?_⟩⟩
      have s7:=same_new hp7 (.tup [.str "fun",.str z,.ref l,v6])
      have s67:=s6.trans s7
      exact q _ _ (s1.trans s67) (.n upd_same (.cons (.w _) (.cons (.w _) (.cons (.n (s67 _ _ upd_same) (hzs.same (sD.trans (sl.trans s67)))) (.cons (hv6.same s7) .nil)))))
theorem scPITr:FnScope ["item"] ["item"] (defScope sPITr):=⟨rfl,rfl,rfl,by decide +kernel,rfl,by decide +kernel,by decide +kernel⟩
set_option maxHeartbeats 0 in
theorem ok_piTr {f fk fn fe:Addr} {fd fdk fdn fde:FuncData} (F:Fun K "part_item_tree" "part_item_tree" sPITr f fd)
    (GK:FnOk P w K mg base CX0 3 fk fdk ["kind"] (spKindTree K 2)) (bK:Binds K fdk ["kind"] []) (kK:PySem.W.keepIn K (.ref fk) = true) (mK:mg "kind_tree" = some (.ref fk))
    (GN:FnOk P w K mg base CX0 4 fn fdn ["named"] (spNamedTr K)) (bN:Binds K fdn ["named"] []) (kN:PySem.W.keepIn K (.ref fn) = true) (mN:mg "named_trees" = some (.ref fn))
    (GE:FnOk P w K mg base CX0 5 fe fde ["expression"] (spExTree K 3)) (bE:Binds K fde ["expression"] []) (kE:PySem.W.keepIn K (.ref fe) = true) (mE:mg "expression_tree" = some (.ref fe)):FnOk P w K mg base CX0 6 f fd ["item"] (spPITr K):=by
  refine F.ok scPITr (fun vs H Q E h => ?_) (fun cdv A outer s H vs Q E hr h => ?_)
  · obtain ⟨x,rs,rfl,_⟩:=h
    rfl
  obtain ⟨x,it,rfl,hx,hok,q⟩:=h
  have hr3:Room 3 _:=hr.mono (by decide)
  have hr4:Room 4 _:=hr.mono (by decide)
  refine ⟨_,pss_cons (ps_if (pt_cmpR op_eq (pe_ix ix_tup (pv 0) pe_int (fun _ _ => rfl)) pe_str (nomark _)) (pss_one (ps_ret (pe_tup (pa_cons pe_str (pa_cons (pe_ix ix_tup (pv 0) pe_int (fun _ _ => rfl)) (pa_cons (pe_call GK hr3 rfl mK kK bK .nil pass0 (pa_cons (pe_ix ix_tup (pv 0) pe_int (fun _ _ => rfl)) pa_nil)) pa_nil)))))) pss_nil)
    (pss_cons (ps_if (pt_cmpR op_eq (pe_ix ix_tup (pv 0) pe_int (fun _ _ => rfl)) pe_str (nomark _)) (pss_one (ps_ret (pv 0))) pss_nil)
    (pss_one (ps_ret (pe_tup (pa_cons pe_str (pa_cons (pe_ix ix_tup (pv 0) pe_int (fun _ _ => rfl)) (pa_cons (pe_call GN hr4 rfl mN kN bN .nil pass0 (pa_cons (pe_ix ix_tup (pv 0) pe_int (fun _ _ => rfl)) pa_nil)) (pa_cons (pe_call GK hr3 rfl mK kK bK .nil pass0 (pa_cons (pe_ix ix_tup (pv 0) pe_int (fun _ _ => rfl)) pa_nil)) (pa_cons (pe_call GE hr rfl mE kE bE .nil pass0 (pa_cons (pe_ix ix_tup (pv 0) pe_int (fun _ _ => rfl)) pa_nil)) pa_nil))))))))),?_⟩
  cases it with
  | opn z =>
    obtain ⟨p,xs,rfl,hp,hs⟩:=DAt.tup (show DAt H x (.t [.s "open",.s z]) from hx)
    obtain ⟨x1,_,rfl,h1,hs⟩:=hs.one
    obtain ⟨x2,_,rfl,h2,hs⟩:=hs.one
    cases hs.none
    cases h1.str
    cases h2.str
    refine ⟨_,rfl,p,_,_,.str "open",rfl,rfl,SqT.of hp,rfl,rfl,_,rfl,ite2 (fun c => absurd c (by decide +kernel)) (fun _ => ?_)⟩
    exact ⟨_,rfl,p,_,_,.str "open",rfl,rfl,SqT.of hp,rfl,rfl,_,rfl,ite2 (fun _ => ⟨_,rfl,q _ _ (Same.refl _) (.n hp (.cons (.w _) (.cons (.w _) .nil)))⟩) (fun c => absurd (by decide +kernel) c)⟩
  | kind z k =>
    obtain ⟨p,xs,rfl,hp,hs⟩:=DAt.tup (show DAt H x (.t [.s "kind",.s z,k.d]) from hx)
    obtain ⟨x1,_,rfl,h1,hs⟩:=hs.one
    obtain ⟨x2,_,rfl,h2,hs⟩:=hs.one
    obtain ⟨x3,_,rfl,h3,hs⟩:=hs.one
    cases hs.none
    cases h1.str
    cases h2.str
    refine ⟨_,rfl,p,_,_,.str "kind",rfl,rfl,SqT.of hp,rfl,rfl,_,rfl,ite2 (fun _ => ?_) (fun c => absurd (by decide +kernel) c)⟩
    refine ⟨_,rfl,p,_,_,.str z,rfl,rfl,SqT.of hp,rfl,_,rfl,p,_,_,x3,rfl,rfl,SqT.of hp,rfl,x3,k,rfl,d_kd h3,hok.2.1,hok.2.dp,fun H2 v2 s2 hv2 => ⟨(by show 3 ≤ sizeLine; decide),fun p3 hp3 => ?_⟩⟩
    have s3:=same_new hp3 (.tup [.str "kind",.str z,v2])
    exact q _ _ (s2.trans s3) (.n upd_same (.cons (.w _) (.cons (.w _) (.cons (hv2.same s3) .nil))))
  | fn z rs k e =>
    obtain ⟨p,xs,rfl,hp,hs⟩:=DAt.tup (show DAt H x (.t [.s "fun",.s z,.t (rs.map rwD),k.d,e.d]) from hx)
    obtain ⟨x1,_,rfl,h1,hs⟩:=hs.one
    obtain ⟨x2,_,rfl,h2,hs⟩:=hs.one
    obtain ⟨x3,_,rfl,h3,hs⟩:=hs.one
    obtain ⟨x4,_,rfl,h4,hs⟩:=hs.one
    obtain ⟨x5,_,rfl,h5,hs⟩:=hs.one
    cases hs.none
    cases h1.str
    cases h2.str
    refine ⟨_,rfl,p,_,_,.str "fun",rfl,rfl,SqT.of hp,rfl,rfl,_,rfl,ite2 (fun c => absurd c (by decide +kernel)) (fun _ => ?_)⟩
    refine ⟨_,rfl,p,_,_,.str "fun",rfl,rfl,SqT.of hp,rfl,rfl,_,rfl,ite2 (fun c => absurd c (by decide +kernel)) (fun _ => ?_)⟩
    refine ⟨_,rfl,p,_,_,.str z,rfl,rfl,SqT.of hp,rfl,_,rfl,p,_,_,x3,rfl,rfl,SqT.of hp,rfl,x3,rs,rfl,h3,hok.2.1,fun H1 v1 s1 hv1 => ?_⟩
    refine ⟨_,rfl,p,_,_,x4,rfl,rfl,SqT.of (s1 _ _ hp),rfl,x4,k,rfl,d_kd (h4.same s1),hok.2.2.1.1,hok.2.2.1.dp,fun H2 v2 s2 hv2 => ?_⟩
    refine ⟨_,rfl,p,_,_,x5,rfl,rfl,SqT.of ((s1.trans s2) _ _ hp),rfl,x5,e,rfl,d_ex (h5.same (s1.trans s2)),hok.2.2.2.1,(by have:=hok.2.2.2.2.1; omega),fun H3 v3 s3 hv3 => ⟨(by show 5 ≤ sizeLine; decide),fun p4 hp4 => ?_⟩⟩
    have s4:=same_new hp4 (.tup [.str "fun",.str z,v1,v2,v3])
    exact q _ _ (s1.trans (s2.trans (s3.trans s4))) (.n upd_same (.cons (.w _) (.cons (.w _) (.cons (hv1.same (s2.trans (s3.trans s4))) (.cons (hv2.same (s3.trans s4)) (.cons (hv3.same s4) .nil))))))
theorem scPIsTr:FnScope ["items"] ["items"] (defScope sPIsTr):=⟨rfl,rfl,rfl,by decide +kernel,rfl,by decide +kernel,by decide +kernel⟩
set_option maxHeartbeats 0 in
theorem ok_pisTr {f fi:Addr} {fd fdi:FuncData} (F:Fun K "part_item_trees" "part_item_trees" sPIsTr f fd)
    (GI:FnOk P w K mg base CX0 6 fi fdi ["item"] (spPITr K)) (bI:Binds K fdi ["item"] []) (kI:PySem.W.keepIn K (.ref fi) = true) (mI:mg "part_item_tree" = some (.ref fi)) (mt:mg "tuple" = none):FnOk P w K mg base CX0 7 f fd ["items"] (spPIsTr K):=by
  refine F.ok scPIsTr (fun vs H Q E h => ?_) (fun cdv A outer s H vs Q E hr h => ?_)
  · obtain ⟨x,rs,rfl,_⟩:=h
    rfl
  obtain ⟨x,is,rfl,hx,h16,hok,q⟩:=h
  refine ⟨_,pss_one (ps_ret (pe_callTy call_tuple_of rfl mt bootTuple (pa_cons (pe_comp (own:=["item"]) (caps:=[]) (κ:=[]) (cl:=[]) rfl ⟨rfl,by decide +kernel,by decide +kernel,rfl,rfl,(fun y hy => nomatch hy),(fun y hy => nomatch hy)⟩ rfl (pi_tup (pv 0))
    (fun _ _ _ _ => pg_name (i:=0) (show (["item"]:List Str).Nodup from by decide +kernel) rfl (Or.inl rfl)) (fun _ _ _ _ => pe_call GI hr rfl mI kI bI .nil pass0 (pa_cons (pv 0) pa_nil))) pa_nil))),?_⟩
  obtain ⟨p,xs,rfl,hp,hxs⟩:=hx.tup
  have xl:=hxs.length
  rw [List.length_map] at xl
  refine ⟨_,rfl,p,rfl,⟨_,SqT.of hp⟩,?_⟩
  refine comp_eachT (xs:=xs) (fun i H v => ∀ r,is[i]? = some r → TrAt K H v r.tr) (fun i H H' v e h d hd => (h d hd).same e) hp (by omega) ?_ ?_
  · intro i u H3 N B hu s3 hN
    obtain ⟨t,ht,hat⟩:=hxs.get hu
    obtain ⟨k0,hk0,rfl⟩:=map_get ht
    refine ⟨rfl,tYes_go ⟨_,rfl,u,k0,rfl,hat.same s3,hok k0 (List.mem_of_getElem? hk0),fun H4 v s4 hv => hN _ _ s4 fun d hd => ?_⟩⟩
    rw [hk0] at hd
    cases hd
    exact hv
  · intro zs H3 D s3 hl hz hD
    have hzs:TrsAt K H3 zs (is.map PI.tr):=trsAt_of (by rw [hl,xl,List.length_map]) fun i v d hv hd => by
      obtain ⟨k0,hk0,rfl⟩:=map_get hd
      exact hz i v hv k0 hk0
    have sD:=same_new hD (.lst zs)
    refine ⟨D,zs,rfl,.inl ⟨SqL.of upd_same,fun l hl => ?_⟩⟩
    have sl:=same_new hl (.tup zs)
    exact q _ _ (s3.trans (sD.trans sl)) (.n upd_same (hzs.same (sD.trans sl)))
noncomputable abbrev dtN:List Str:=["declaration","form","name","formals"]
theorem scDcTr:FnScope dtN ["declaration"] (defScope sDeclTree):=⟨rfl,rfl,rfl,by decide +kernel,rfl,by decide +kernel,by decide +kernel⟩
set_option maxHeartbeats 0 in
theorem ok_dcTr {f fi fs fp:Addr} {fd fdi fds fdp:FuncData} (F:Fun K "declaration_tree" "declaration_tree" sDeclTree f fd)
    (GI:FnOk P w K mg base CX0 4 fi fdi ["item"] (spFITr K)) (bI:Binds K fdi ["item"] []) (kI:PySem.W.keepIn K (.ref fi) = true) (mI:mg "face_item_tree" = some (.ref fi))
    (GS:FnOk P w K mg base CX0 5 fs fds ["seal"] (spSealTr K)) (bS:Binds K fds ["seal"] []) (kS:PySem.W.keepIn K (.ref fs) = true) (mS:mg "seal_tree" = some (.ref fs))
    (GP:FnOk P w K mg base CX0 7 fp fdp ["items"] (spPIsTr K)) (bP:Binds K fdp ["items"] []) (kP:PySem.W.keepIn K (.ref fp) = true) (mP:mg "part_item_trees" = some (.ref fp))
    (mt:mg "tuple" = none):FnOk P w K mg base CX0 8 f fd ["declaration"] (spDcTr K):=by
  refine F.ok scDcTr (fun vs H Q E h => ?_) (fun cdv A outer s H vs Q E hr h => ?_)
  · obtain ⟨x,rs,rfl,_⟩:=h
    rfl
  obtain ⟨x,d,rfl,hx,hok,q⟩:=h
  have hr4:Room 4 _:=hr.mono (by decide)
  have hr5:Room 5 _:=hr.mono (by decide)
  refine ⟨_,pss_cons (ps_set (i:=1) scDcTr.nd rfl (Or.inl rfl) (pe_ix ix_tup (pv 0) pe_int (fun _ _ => rfl)))
    (pss_cons (ps_set (i:=2) scDcTr.nd rfl (Or.inl rfl) (pe_ix ix_tup (pv 0) pe_int (fun _ _ => rfl)))
    (pss_cons (ps_if (pt_cmpR op_eq (pv 1) pe_str (nomark _)) (pss_one (ps_ret (pe_op op_catT (pe_tup (pa_cons pe_str (pa_cons (pv 2) pa_nil))) (pe_callTy call_tuple_of rfl mt bootTuple (pa_cons (pe_comp (own:=["item"]) (caps:=[]) (κ:=[]) (cl:=[]) rfl ⟨rfl,by decide +kernel,by decide +kernel,rfl,rfl,(fun y hy => nomatch hy),(fun y hy => nomatch hy)⟩ rfl (pi_tup (pe_ix ix_tup (pv 0) pe_int (fun _ _ => rfl)))
      (fun _ _ _ _ => pg_name (i:=0) (show (["item"]:List Str).Nodup from by decide +kernel) rfl (Or.inl rfl)) (fun _ _ _ _ => pe_call GI hr4 rfl mI kI bI .nil pass0 (pa_cons (pv 0) pa_nil))) pa_nil))))) pss_nil)
    (pss_cons (ps_if (pt_cmpR op_eq (pv 1) pe_str (nomark _)) (pss_one (ps_ret (pe_op op_catT (pe_tup (pa_cons pe_str (pa_cons (pv 2) (pa_cons (pe_call GS hr5 rfl mS kS bS .nil pass0 (pa_cons (pe_ix ix_tup (pv 0) pe_int (fun _ _ => rfl)) pa_nil)) pa_nil)))) (pe_call GP hr rfl mP kP bP .nil pass0 (pa_cons (pe_ix ix_tup (pv 0) pe_int (fun _ _ => rfl)) pa_nil))))) pss_nil)
    (pss_cons (ps_if (pt_cmpR op_eq (pv 1) pe_str (nomark _))
      (pss_cons (ps_set (i:=3) scDcTr.nd rfl (Or.inl rfl) (pe_callTy call_tuple_of rfl mt bootTuple (pa_cons (pe_comp (own:=["formal"]) (caps:=[]) (κ:=[]) (cl:=[]) rfl ⟨rfl,by decide +kernel,by decide +kernel,rfl,rfl,(fun y hy => nomatch hy),(fun y hy => nomatch hy)⟩ rfl (pi_tup (pe_ix ix_tup (pv 0) pe_int (fun _ _ => rfl)))
        (fun _ _ _ _ => pg_name (i:=0) (show (["formal"]:List Str).Nodup from by decide +kernel) rfl (Or.inl rfl)) (fun _ _ _ _ => pe_op (r:=rCatT K) op_catT (pe_tup (pa_cons (pe_ix (r:=rIxT K) ix_tup (pv 0) pe_int (fun _ _ => rfl)) pa_nil)) (pe_call GS hr5 rfl mS kS bS .nil pass0 (pa_cons (pe_ix (r:=rIxT K) ix_tup (pv 0) pe_int (fun _ _ => rfl)) pa_nil)))) pa_nil)))
      (pss_one (ps_ret (pe_op op_catT (pe_tup (pa_cons pe_str (pa_cons (pv 2) (pa_cons (pv 3) (pa_cons (pe_call GS hr5 rfl mS kS bS .nil pass0 (pa_cons (pe_ix ix_tup (pv 0) pe_int (fun _ _ => rfl)) pa_nil)) pa_nil))))) (pe_call GP hr rfl mP kP bP .nil pass0 (pa_cons (pe_ix ix_tup (pv 0) pe_int (fun _ _ => rfl)) pa_nil)))))) pss_nil)
    (pss_one (ps_ret (pe_op op_catT (pe_tup (pa_cons pe_str (pa_cons (pv 2) (pa_cons (pe_ix ix_tup (pv 0) pe_int (fun _ _ => rfl)) pa_nil)))) (pe_ix ix_tup (pv 0) pe_int (fun _ _ => rfl))))))))),?_⟩
  cases d with
  | face z is =>
    obtain ⟨hz,h16,hok⟩:=hok
    obtain ⟨p,xs,rfl,hp,hs⟩:=DAt.tup (show DAt H x (.t [.s "face",.s z,.t (is.map FI.d)]) from hx)
    obtain ⟨x1,_,rfl,h1,hs⟩:=hs.one
    obtain ⟨x2,_,rfl,h2,hs⟩:=hs.one
    obtain ⟨x3,_,rfl,h3,hs⟩:=hs.one
    cases hs.none
    cases h1.str
    cases h2.str
    obtain ⟨p3,ys,rfl,hp3,hys⟩:=h3.tup
    have yl:=hys.length
    rw [List.length_map] at yl
    refine ⟨_,rfl,p,_,_,.str "face",rfl,rfl,SqT.of hp,rfl,_,rfl,p,_,_,.str z,rfl,rfl,SqT.of hp,rfl,?_⟩
    refine ⟨_,rfl,rfl,_,rfl,ite2 (fun _ => ?_) (fun c => absurd (by decide +kernel) c)⟩
    refine ⟨_,rfl,(by show 2 ≤ sizeLine; decide),fun p1 hp1 => ?_⟩
    have s1:=same_new hp1 (.tup [.str "face",.str z])
    have hp3':=s1 _ _ hp3
    refine ⟨_,rfl,p,_,_,.ref p3,rfl,rfl,SqT.of (s1 _ _ hp),rfl,p3,rfl,⟨_,SqT.of hp3'⟩,?_⟩
    refine comp_eachT (xs:=ys) (fun i H v => ∀ d,is[i]? = some d → TrAt K H v d.tr) (fun i H H' v e h d hd => (h d hd).same e) hp3' (by omega) ?_ ?_
    · intro i u H3 N B hu s3 hN
      obtain ⟨t,ht,hat⟩:=hys.get hu
      obtain ⟨k0,hk0,rfl⟩:=map_get ht
      refine ⟨rfl,tYes_go ⟨_,rfl,u,k0,rfl,hat.same (s1.trans s3),hok k0 (List.mem_of_getElem? hk0),fun H4 v s4 hv => hN _ _ s4 fun d hd => ?_⟩⟩
      rw [hk0] at hd
      cases hd
      exact hv
    · intro zs H3 D s3 hl hzz hD
      have hzs:TrsAt K H3 zs (is.map FI.tr):=trsAt_of (by rw [hl,yl,List.length_map]) fun i v d hv hd => by
        obtain ⟨k0,hk0,rfl⟩:=map_get hd
        exact hzz i v hv k0 hk0
      have sD:=same_new hD (.lst zs)
      refine ⟨D,zs,rfl,.inl ⟨SqL.of upd_same,fun l hl' => ?_⟩⟩
      have sl:=same_new hl' (.tup zs)
      have s13:=s3.trans (sD.trans sl)
      refine cat_go (s13 _ _ upd_same) upd_same (by simp) (by show 2 + zs.length ≤ 1000; omega) fun H5 p5 s5 h5 => ?_
      exact q _ _ (s1.trans (s13.trans s5)) (.n h5 (.cons (.w _) (.cons (.w _) (hzs.same (sD.trans (sl.trans s5))))))
  | part z sl is =>
    obtain ⟨hz,hsl,h16,hok⟩:=hok
    obtain ⟨p,xs,rfl,hp,hs⟩:=DAt.tup (show DAt H x (.t [.s "part",.s z,sealD sl,.t (is.map PI.d)]) from hx)
    obtain ⟨x1,_,rfl,h1,hs⟩:=hs.one
    obtain ⟨x2,_,rfl,h2,hs⟩:=hs.one
    obtain ⟨x3,_,rfl,h3,hs⟩:=hs.one
    obtain ⟨x4,_,rfl,h4,hs⟩:=hs.one
    cases hs.none
    cases h1.str
    cases h2.str
    refine ⟨_,rfl,p,_,_,.str "part",rfl,rfl,SqT.of hp,rfl,_,rfl,p,_,_,.str z,rfl,rfl,SqT.of hp,rfl,?_⟩
    refine ⟨_,rfl,rfl,_,rfl,ite2 (fun c => absurd c (by decide +kernel)) (fun _ => ?_)⟩
    refine ⟨_,rfl,rfl,_,rfl,ite2 (fun _ => ?_) (fun c => absurd (by decide +kernel) c)⟩
    refine ⟨_,rfl,_,rfl,p,_,_,x3,rfl,rfl,SqT.of hp,rfl,x3,sl,rfl,h3,hsl,fun H1 v1 s1 hv1 => ⟨(by show 3 ≤ sizeLine; decide),fun p2 hp2 => ?_⟩⟩
    have s2:=same_new hp2 (.tup [.str "part",.str z,v1])
    have s12:=s1.trans s2
    refine ⟨_,rfl,p,_,_,x4,rfl,rfl,SqT.of (s12 _ _ hp),rfl,x4,is,rfl,h4.same s12,h16,hok,fun H3 v3 s3 hv3 => ?_⟩
    obtain ⟨a,ys,rfl,ha,hys⟩:=hv3.node
    have yl:=hys.length
    rw [List.length_map] at yl
    refine cat_go (s3 _ _ upd_same) ha (by simp) (by show 3 + ys.length ≤ 1000; omega) fun H5 p5 s5 h5 => ?_
    exact q _ _ (s12.trans (s3.trans s5)) (.n h5 (.cons (.w _) (.cons (.w _) (.cons (hv1.same (s2.trans (s3.trans s5))) (hys.same s5)))))
  | maker z fs sl is =>
    obtain ⟨hz,⟨f1,f4,hfo⟩,hsl,h16,hok⟩:=hok
    obtain ⟨p,xs,rfl,hp,hs⟩:=DAt.tup (show DAt H x (.t [.s "maker",.s z,.t (fs.map foD),sealD sl,.t (is.map PI.d)]) from hx)
    obtain ⟨x1,_,rfl,h1,hs⟩:=hs.one
    obtain ⟨x2,_,rfl,h2,hs⟩:=hs.one
    obtain ⟨x3,_,rfl,h3,hs⟩:=hs.one
    obtain ⟨x4,_,rfl,h4,hs⟩:=hs.one
    obtain ⟨x5,_,rfl,h5,hs⟩:=hs.one
    cases hs.none
    cases h1.str
    cases h2.str
    obtain ⟨p3,us,rfl,hp3,hus⟩:=h3.tup
    have ul:=hus.length
    rw [List.length_map] at ul
    refine ⟨_,rfl,p,_,_,.str "maker",rfl,rfl,SqT.of hp,rfl,_,rfl,p,_,_,.str z,rfl,rfl,SqT.of hp,rfl,?_⟩
    refine ⟨_,rfl,rfl,_,rfl,ite2 (fun c => absurd c (by decide +kernel)) (fun _ => ?_)⟩
    refine ⟨_,rfl,rfl,_,rfl,ite2 (fun c => absurd c (by decide +kernel)) (fun _ => ?_)⟩
    refine ⟨_,rfl,rfl,_,rfl,ite2 (fun _ => ?_) (fun c => absurd (by decide +kernel) c)⟩
    refine ⟨_,rfl,p,_,_,.ref p3,rfl,rfl,SqT.of hp,rfl,p3,rfl,⟨_,SqT.of hp3⟩,?_⟩
    refine comp_eachT (xs:=us) (fun i H v => ∀ d,fs[i]? = some d → TrAt K H v (foT d)) (fun i H H' v e h d hd => (h d hd).same e) hp3 (by omega) ?_ ?_
    · intro i u H3 N B hu s3 hN
      obtain ⟨t,ht,hat⟩:=hus.get hu
      obtain ⟨fo,hk0,rfl⟩:=map_get ht
      obtain ⟨hf1,hf2⟩:=hfo fo (List.mem_of_getElem? hk0)
      obtain ⟨a,ys,rfl,ha,hs⟩:=DAt.tup (show DAt H3 u (.t [.s fo.1,fo.2.d]) from hat.same s3)
      obtain ⟨y1,_,rfl,g1,hs⟩:=hs.one
      obtain ⟨y2,_,rfl,g2,hs⟩:=hs.one
      cases hs.none
      cases g1.str
      refine ⟨rfl,tYes_go ⟨_,rfl,a,_,_,.str fo.1,rfl,rfl,SqT.of ha,rfl,(by show 1 ≤ sizeLine; decide),fun p1 hp1 => ?_⟩⟩
      have s1:=same_new hp1 (.tup [.str fo.1])
      refine ⟨_,rfl,a,_,_,y2,rfl,rfl,SqT.of (s1 _ _ ha),rfl,y2,some fo.2,rfl,g2.same s1,hf2,fun H4 v4 s4 hv4 => ?_⟩
      obtain ⟨b,ws,rfl,hb,hws⟩:=TrAt.node (show TrAt K H4 v4 (.n fo.2.ts) from hv4)
      have wl:=hws.length
      have wl2:fo.2.ts.length = fo.2.rows.length + 1:=by
        show (_ :: fo.2.rows.map rwT).length = _
        rw [List.length_cons,List.length_map]
      have r4:=hf2.2.1
      refine cat_go (s4 _ _ upd_same) hb (by simp) (by show 1 + ws.length ≤ 1000; omega) fun H5 p5 s5 h5 => hN _ _ (s1.trans (s4.trans s5)) fun d hd => ?_
      rw [hk0] at hd
      cases hd
      exact .n h5 (.cons (.w _) (hws.same s5))
    · intro zs H3 D s3 hl hzz hD
      have hzs:TrsAt K H3 zs (fs.map foT):=trsAt_of (by rw [hl,ul,List.length_map]) fun i v d hv hd => by
        obtain ⟨k0,hk0,rfl⟩:=map_get hd
        exact hzz i v hv k0 hk0
      have sD:=same_new hD (.lst zs)
      refine ⟨D,zs,rfl,.inl ⟨SqL.of upd_same,fun l hl' => ?_⟩⟩
      have sl':=same_new hl' (.tup zs)
      have s0:=s3.trans (sD.trans sl')
      refine ⟨_,rfl,_,rfl,_,rfl,p,_,_,x4,rfl,rfl,SqT.of (s0 _ _ hp),rfl,x4,sl,rfl,h4.same s0,hsl,fun H1 v1 s1 hv1 => ⟨(by show 4 ≤ sizeLine; decide),fun p2 hp2 => ?_⟩⟩
      have s2:=same_new hp2 (.tup [.str "maker",.str z,.ref l,v1])
      have s02:=s0.trans (s1.trans s2)
      refine ⟨_,rfl,p,_,_,x5,rfl,rfl,SqT.of (s02 _ _ hp),rfl,x5,is,rfl,h5.same s02,h16,hok,fun H4 v4 s4 hv4 => ?_⟩
      obtain ⟨a,ys,rfl,ha,hys⟩:=hv4.node
      have yl:=hys.length
      rw [List.length_map] at yl
      refine cat_go (s4 _ _ upd_same) ha (by simp) (by show 4 + ys.length ≤ 1000; omega) fun H5 p5 s5 h5' => ?_
      have s15:=s1.trans (s2.trans (s4.trans s5))
      exact q _ _ (s02.trans (s4.trans s5)) (.n h5' (.cons (.w _) (.cons (.w _) (.cons (.n (s15 _ _ upd_same) (hzs.same (sD.trans (sl'.trans s15)))) (.cons (hv1.same (s2.trans (s4.trans s5))) (hys.same s5))))))
  | made z m ps =>
    obtain ⟨hz,hm,p1,p6,hps⟩:=hok
    obtain ⟨p,xs,rfl,hp,hs⟩:=DAt.tup (show DAt H x (.t [.s "made",.s z,.s m,.t (ps.map Dd.s)]) from hx)
    obtain ⟨x1,_,rfl,h1,hs⟩:=hs.one
    obtain ⟨x2,_,rfl,h2,hs⟩:=hs.one
    obtain ⟨x3,_,rfl,h3,hs⟩:=hs.one
    obtain ⟨x4,_,rfl,h4,hs⟩:=hs.one
    cases hs.none
    cases h1.str
    cases h2.str
    cases h3.str
    obtain ⟨p3,us,rfl,hp3,hus⟩:=h4.tup
    have ul:=hus.length
    rw [List.length_map] at ul
    refine ⟨_,rfl,p,_,_,.str "made",rfl,rfl,SqT.of hp,rfl,_,rfl,p,_,_,.str z,rfl,rfl,SqT.of hp,rfl,?_⟩
    refine ⟨_,rfl,rfl,_,rfl,ite2 (fun c => absurd c (by decide +kernel)) (fun _ => ?_)⟩
    refine ⟨_,rfl,rfl,_,rfl,ite2 (fun c => absurd c (by decide +kernel)) (fun _ => ?_)⟩
    refine ⟨_,rfl,rfl,_,rfl,ite2 (fun c => absurd c (by decide +kernel)) (fun _ => ?_)⟩
    refine ⟨_,rfl,_,rfl,p,_,_,.str m,rfl,rfl,SqT.of hp,rfl,(by show 3 ≤ sizeLine; decide),fun p2 hp2 => ?_⟩
    have s2:=same_new hp2 (.tup [.str "made",.str z,.str m])
    refine ⟨_,rfl,p,_,_,.ref p3,rfl,rfl,SqT.of (s2 _ _ hp),rfl,?_⟩
    refine cat_go upd_same (s2 _ _ hp3) (by simp) (by show 3 + us.length ≤ 1000; omega) fun H5 p5 s5 h5 => ?_
    have hws:TrsAt K H5 us (ps.map Tr.w):=trsAt_of (by rw [ul,List.length_map]) fun i v t hv ht => by
      obtain ⟨k0,hk0,rfl⟩:=map_get ht
      obtain ⟨e,he,hat⟩:=hus.get hv
      rw [map_get' hk0] at he
      cases he
      cases hat.str
      exact .w _
    exact q _ _ (s2.trans s5) (.n h5 (.cons (.w _) (.cons (.w _) (.cons (.w _) hws))))
theorem scHouseText:FnScope ["house"] ["house"] (defScope sHouseText):=⟨rfl,rfl,rfl,by decide +kernel,rfl,by decide +kernel,by decide +kernel⟩
set_option maxHeartbeats 0 in
theorem ok_houseText {f fd' fo:Addr} {fd fdd fdo:FuncData} (F:Fun K "house_text" "house_text" sHouseText f fd)
    (GD:FnOk P w K mg base CX0 8 fd' fdd ["declaration"] (spDcTr K)) (bD:Binds K fdd ["declaration"] []) (kD:PySem.W.keepIn K (.ref fd') = true) (mD:mg "declaration_tree" = some (.ref fd'))
    (GO:FnOk P w K mg base CX0 3 fo fdo ["trees"] (spTextOf K)) (bO:Binds K fdo ["trees"] []) (kO:PySem.W.keepIn K (.ref fo) = true) (mO:mg "text_of" = some (.ref fo)):FnOk P w K mg base CX0 9 f fd ["house"] (spHouseText K):=by
  refine F.ok scHouseText (fun vs H Q E h => ?_) (fun cdv A outer s H vs Q E hr h => ?_)
  · obtain ⟨x,_,rs,rfl,_⟩:=h
    rfl
  obtain ⟨p,xs,ds,rfl,hp,hxs,hok,h2,hfl,q⟩:=h
  have hr3:Room 3 _:=hr.mono (by decide)
  refine ⟨_,pss_one (ps_ret (pe_call GO hr3 rfl mO kO bO .nil pass0 (pa_cons (pe_comp (own:=["declaration"]) (caps:=[]) (κ:=[]) (cl:=[]) rfl ⟨rfl,by decide +kernel,by decide +kernel,rfl,rfl,(fun y hy => nomatch hy),(fun y hy => nomatch hy)⟩ rfl (pi_list (pv 0))
    (fun _ _ _ _ => pg_name (i:=0) (show (["declaration"]:List Str).Nodup from by decide +kernel) rfl (Or.inl rfl)) (fun _ _ _ _ => pe_call GD hr rfl mD kD bD .nil pass0 (pa_cons (pv 0) pa_nil))) pa_nil))),?_⟩
  have xl:=hxs.length
  rw [List.length_map] at xl
  have hsum:((flats (ds.map Dc.tr)).map List.length).sum ≤ 60000:=by
    have:=sum_le (ps:=flats (ds.map Dc.tr)) fun p hp => by
      obtain ⟨t,ht,hz⟩:=flats_all hp
      obtain ⟨d,hd,rfl⟩:=List.mem_map.mp ht
      exact ((tg_dc (hok d hd)).2.1 p hz).1
    omega
  obtain ⟨g1,g2,g3⟩:=text_fits hfl hsum
  refine ⟨_,rfl,p,rfl,⟨_,hp⟩,?_⟩
  refine comp_eachL (xs:=xs) (fun i H v => ∀ d,ds[i]? = some d → TrAt K H v d.tr) (fun i H H' v e h d hd => (h d hd).same e) hp (by omega) ?_ ?_
  · intro i u H3 N B hu s3 hN
    obtain ⟨t,ht,hat⟩:=hxs.get hu
    obtain ⟨k0,hk0,rfl⟩:=map_get ht
    refine ⟨rfl,tYes_go ⟨_,rfl,u,k0,rfl,hat.same s3,hok k0 (List.mem_of_getElem? hk0),fun H4 v s4 hv => hN _ _ s4 fun d hd => ?_⟩⟩
    rw [hk0] at hd
    cases hd
    exact hv
  · intro zs H3 D s3 hl hzz hD
    have hzs:TrsAt K H3 zs (ds.map Dc.tr):=trsAt_of (by rw [hl,xl,List.length_map]) fun i v d hv hd => by
      obtain ⟨k0,hk0,rfl⟩:=map_get hd
      exact hzz i v hv k0 hk0
    have sD:=same_new hD (.lst zs)
    exact ⟨D,zs,_,rfl,SqL.of upd_same,hzs.same sD,g1,g2,g3,fun H5 z s5 hz => q _ _ (s3.trans (sD.trans s5)) hz⟩
end
end K17
namespace K17
open PySem L2
noncomputable def Pr (K:PySem.W.Frag) (H:Hp) (v:V) (d:Dd) (t:Tr):Prop:=∃ (p:Addr) (vd vt:V),v = .ref p ∧ H p = some (.tup [vd,vt]) ∧ DAt H vd d ∧ TrAt K H vt t
theorem Pr.same {K:PySem.W.Frag} {H H':Hp} {v:V} {d:Dd} {t:Tr} (e:Same H H') (h:Pr K H v d t):Pr K H' v d t:=by
  obtain ⟨p,vd,vt,rfl,hp,h1,h2⟩:=h
  exact ⟨p,vd,vt,rfl,e _ _ hp,h1.same e,h2.same e⟩
noncomputable def spKindL (K:PySem.W.Frag):Sp:=fun vs H Q _ => ∃ c:Int,vs = [.int c] ∧ ∀ H' v k,Same H H' → Pr K H' v k.d k.tr → kSm k → Q v H'
structure KsAt (K:PySem.W.Frag) (H:Hp) (p:Addr) (ks:List Kd):Prop where
  ex:∃ l1 l2 xs ys,H p = some (.tup [.ref l1,.ref l2]) ∧ H l1 = some (.lst xs) ∧ H l2 = some (.lst ys) ∧ DsAt H xs (ks.map Kd.d) ∧ TrsAt K H ys (ks.map Kd.tr)
  ok:∀ k ∈ ks,kSm k
noncomputable def spKindsL (K:PySem.W.Frag):Sp:=fun vs H Q _ => ∃ (c:Int) (m:Nat),vs = [.int c,.int m] ∧ m ≤ 4 ∧ ∀ H' p ks,Same H H' → KsAt K H' p ks → ks.length = m → Q (.ref p) H'
noncomputable def spRowsL (K:PySem.W.Frag):Sp:=fun vs H Q _ => ∃ (c:Int) (m:Nat),vs = [.int c,.int m] ∧ m ≤ 4 ∧ ∀ H' v rs,Same H H' → Pr K H' v (.t (rs.map rwD)) (.n (rs.map rwT)) → rowsOk rs → Q v H'
noncomputable def spWantL (K:PySem.W.Frag):Sp:=fun vs H Q _ => ∃ (c:Int) (m:Nat),vs = [.int c,.int m] ∧ m ≤ 4 ∧ ∀ H' v (r:Rf),Same H H' → Pr K H' v r.d (.n r.ts) → r.ok → Q v H'
noncomputable def spSealL (K:PySem.W.Frag):Sp:=fun vs H Q _ => ∃ c:Int,vs = [.int c] ∧ ∀ H' v s,Same H H' → Pr K H' v (sealD s) (sealT s) → sealOk s → Q v H'
theorem strs_ex:∀ {ys:List V},(∀ (i:Nat) (v:V),ys[i]? = some v → ∃ z:Str,v = .str z ∧ nameOk z = true) → ∃ ws:List Str,ys = ws.map V.str ∧ ∀ z ∈ ws,nameOk z = true
  | [],_ => ⟨[],rfl,fun z h => nomatch h⟩
  | y :: ys,h => by
    obtain ⟨z,rfl,hz⟩:=h 0 y rfl
    obtain ⟨ws,rfl,hw⟩:=strs_ex (ys:=ys) fun i v hv => h (i + 1) v hv
    exact ⟨z :: ws,rfl,fun x hx => by
      rcases List.mem_cons.mp hx with rfl | hx
      · exact hz
      · exact hw x hx⟩
theorem lst_upd {H:Hp} {l l2:Addr} {o:HO} {xs:List V} (h:H l2 = some (.lst xs)) (hn:l2 ≠ l):upd H l o l2 = some (.lst xs):=by
  rw [upd_ne hn]
  exact h
section
variable {P:Program} {w:World} {K:PySem.W.Frag} {mg:Str → Option Value} {base:Heap}
noncomputable abbrev kdN:List Str:=["_law_cell_here","_law_size_here","_law_word","_law_owner"]
theorem scKindL:FnScope kdN ["_law_cell_here"] (defScope sKindL):=⟨rfl,rfl,rfl,by decide +kernel,rfl,by decide +kernel,by decide +kernel⟩
set_option maxHeartbeats 0 in
theorem ok_kindL {f fn fs:Addr} {fd fdn fds:FuncData} (F:Fun K "_law_kind" "_law_kind" sKindL f fd)
    (GN:FnOk P w K mg base CX0 1 fn fdn ["_law_cell_here"] spNameL) (bN:Binds K fdn ["_law_cell_here"] []) (kN:PySem.W.keepIn K (.ref fn) = true) (mN:mg "_law_name" = some (.ref fn))
    (GS:FnOk P w K mg base CX0 1 fs fds ["_law_cell_here"] spSizeL) (bS:Binds K fds ["_law_cell_here"] []) (kS:PySem.W.keepIn K (.ref fs) = true) (mS:mg "_law_size" = some (.ref fs))
    (ms:mg "str" = none):FnOk P w K mg base CX0 2 f fd ["_law_cell_here"] (spKindL K):=by
  refine F.ok scKindL (fun vs H Q E h => ?_) (fun cdv A outer s H vs Q E hr h => ?_)
  · obtain ⟨c,rfl,_⟩:=h
    rfl
  obtain ⟨c,rfl,q⟩:=h
  refine ⟨_,pss_cons (ps_set (i:=1) scKindL.nd rfl (Or.inl rfl) (pe_call GS hr rfl mS kS bS .nil pass0 (pa_cons (pe_op op_fdiv (pv 0) pe_int) pa_nil)))
    (pss_cons (ps_set (i:=2) scKindL.nd rfl (Or.inl rfl) (pe_call GN hr rfl mN kN bN .nil pass0 (pa_cons (pe_op op_fdiv (pv 0) pe_int) pa_nil)))
    (pss_cons (ps_set (i:=3) scKindL.nd rfl (Or.inl rfl) (pe_call GN hr rfl mN kN bN .nil pass0 (pa_cons (pe_op op_add (pe_op op_fdiv (pv 0) pe_int) pe_int) pa_nil)))
    (pss_cons (ps_if (pt_cmpR op_eq (pe_op op_mod (pv 0) pe_int) pe_int (nomark _)) (pss_one (ps_ret (pe_tup (pa_cons (pe_tup (pa_cons pe_str (pa_cons (pv 1) pa_nil))) (pa_cons (pe_tup (pa_cons pe_str (pa_cons (pe_callTy call_str_int rfl ms bootStr (pa_cons (pv 1) pa_nil)) pa_nil))) pa_nil))))) pss_nil)
    (pss_cons (ps_if (pt_cmpR op_eq (pe_op op_mod (pv 0) pe_int) pe_int (nomark _)) (pss_one (ps_ret (pe_tup (pa_cons (pe_tup (pa_cons pe_str (pa_cons pe_str (pa_cons (pv 2) pa_nil)))) (pa_cons (pv 2) pa_nil))))) pss_nil)
    (pss_cons (ps_if (pt_cmpR op_eq (pe_op op_mod (pv 0) pe_int) pe_int (nomark _)) (pss_one (ps_ret (pe_tup (pa_cons (pe_tup (pa_cons pe_str (pa_cons (pv 3) (pa_cons (pv 2) pa_nil)))) (pa_cons (pe_op op_add_str (pe_op op_add_str (pv 3) pe_str) (pv 2)) pa_nil))))) pss_nil)
    (pss_one (ps_ret (pe_tup (pa_cons (pe_tup (pa_cons pe_str (pa_cons (pe_tup (pa_cons pe_str (pa_cons (pv 3) (pa_cons (pv 2) pa_nil)))) (pa_cons (pe_tup (pa_cons pe_str (pa_cons (pv 1) pa_nil))) pa_nil)))) (pa_cons (pe_tup (pa_cons pe_str (pa_cons (pe_op op_add_str (pe_op op_add_str (pv 3) pe_str) (pv 2)) (pa_cons (pe_tup (pa_cons pe_str (pa_cons (pe_callTy call_str_int rfl ms bootStr (pa_cons (pv 1) pa_nil)) pa_nil))) pa_nil)))) pa_nil)))))))))),?_⟩
  refine ⟨_,rfl,_,_,rfl,rfl,⟨by decide,by decide⟩,_,rfl,fun n n1 n2 => ?_⟩
  refine ⟨_,rfl,_,_,rfl,rfl,⟨by decide,by decide⟩,_,rfl,fun H1 z s1 hz => ?_⟩
  refine ⟨_,rfl,_,_,rfl,rfl,⟨by decide,by decide⟩,_,_,rfl,rfl,_,rfl,fun H2 y s2 hy => ?_⟩
  have s12:=s1.trans s2
  obtain ⟨_,y2,_⟩:=name_facts hy
  obtain ⟨_,z2,_⟩:=name_facts hz
  have d1:(Str.ofString ".").length = 1:=by decide +kernel
  have g1:y.length + (Str.ofString ".").length ≤ sizeLine:=small (by rw [d1]; omega)
  have g2:(y ++ Str.ofString ".").length + z.length ≤ sizeLine:=small (by rw [len_app,d1]; omega)
  have en:nearW y z = (y ++ ".") ++ z:=if_neg (name_ne hy)
  refine ⟨_,rfl,_,_,rfl,rfl,(by show (0:Int) < 4; decide),rfl,_,rfl,ite2 (fun _ => ?_) (fun _ => ?_)⟩
  · refine ⟨_,rfl,(by show 2 ≤ sizeLine; decide),fun p1 hp1 => ?_⟩
    have t1:=same_new hp1 (.tup [.str "num",.int n])
    refine ⟨_,rfl,n,rfl,log_small n2,(by show 2 ≤ sizeLine; decide),fun p2 hp2 => ⟨(by show 2 ≤ sizeLine; decide),fun p3 hp3 => ?_⟩⟩
    have t2:=same_new hp2 (.tup [.str "num",.str (numS n)])
    have t3:=same_new hp3 (.tup [.ref p1,.ref p2])
    exact q _ _ (.num n) (s12.trans (t1.trans (t2.trans t3))) ⟨p3,_,_,rfl,upd_same,.t (t3 _ _ (t2 _ _ upd_same)) (.cons (.s _) (.cons (.i _) .nil)),.n (t3 _ _ upd_same) (.cons (.w _) (.cons (.w _) .nil))⟩ ⟨⟨n1,n2⟩,by show 1 ≤ 2; decide⟩
  refine ⟨_,rfl,_,_,rfl,rfl,(by show (0:Int) < 4; decide),rfl,_,rfl,ite2 (fun _ => ?_) (fun _ => ?_)⟩
  · refine ⟨_,rfl,(by show 3 ≤ sizeLine; decide),fun p1 hp1 => ⟨_,rfl,(by show 2 ≤ sizeLine; decide),fun p3 hp3 => ?_⟩⟩
    have t1:=same_new hp1 (.tup [.str "name",.str "",.str z])
    have t3:=same_new hp3 (.tup [.ref p1,.str z])
    have e0:nearW "" z = z:=if_pos rfl
    refine q _ _ (.name "" z) (s12.trans (t1.trans t3)) ⟨p3,_,_,rfl,upd_same,.t (t3 _ _ upd_same) (.cons (.s _) (.cons (.s _) (.cons (.s _) .nil))),?_⟩ ⟨⟨hz,.inl rfl⟩,by show 1 ≤ 2; decide⟩
    show TrAt K _ _ (.w (nearW "" z))
    rw [e0]
    exact .w z
  refine ⟨_,rfl,_,_,rfl,rfl,(by show (0:Int) < 4; decide),rfl,_,rfl,ite2 (fun _ => ?_) (fun _ => ?_)⟩
  · refine ⟨_,rfl,_,rfl,(by show 3 ≤ sizeLine; decide),fun p1 hp1 => ⟨_,rfl,y,_,rfl,rfl,g1,_,rfl,_,z,rfl,rfl,g2,(by show 2 ≤ sizeLine; decide),fun p3 hp3 => ?_⟩⟩
    have t1:=same_new hp1 (.tup [.str "name",.str y,.str z])
    have t3:=same_new hp3 (.tup [.ref p1,.str ((y ++ Str.ofString ".") ++ z)])
    refine q _ _ (.name y z) (s12.trans (t1.trans t3)) ⟨p3,_,_,rfl,upd_same,.t (t3 _ _ upd_same) (.cons (.s _) (.cons (.s _) (.cons (.s _) .nil))),?_⟩ ⟨⟨hz,.inr hy⟩,by show 1 ≤ 2; decide⟩
    show TrAt K _ _ (.w (nearW y z))
    rw [en]
    exact .w _
  · refine ⟨_,rfl,_,rfl,(by show 3 ≤ sizeLine; decide),fun p1 hp1 => ⟨_,rfl,(by show 2 ≤ sizeLine; decide),fun p2 hp2 => ⟨(by show 3 ≤ sizeLine; decide),fun p3 hp3 => ?_⟩⟩⟩
    have t1:=same_new hp1 (.tup [.str "name",.str y,.str z])
    have t2:=same_new hp2 (.tup [.str "num",.int n])
    have t3:=same_new hp3 (.tup [.str "pair",.ref p1,.ref p2])
    refine ⟨_,rfl,y,_,rfl,rfl,g1,_,rfl,_,z,rfl,rfl,g2,_,rfl,n,rfl,log_small n2,(by show 2 ≤ sizeLine; decide),fun p4 hp4 => ⟨(by show 3 ≤ sizeLine; decide),fun p5 hp5 => ⟨(by show 2 ≤ sizeLine; decide),fun p6 hp6 => ?_⟩⟩⟩
    have t4:=same_new hp4 (.tup [.str "num",.str (numS n)])
    have t5:=same_new hp5 (.tup [.str "pair",.str ((y ++ Str.ofString ".") ++ z),.ref p4])
    have t6:=same_new hp6 (.tup [.ref p3,.ref p5])
    have t46:=t4.trans (t5.trans t6)
    refine q _ _ (.pair (.name y z) (.num n)) (s12.trans (t1.trans (t2.trans (t3.trans t46)))) ⟨p6,_,_,rfl,upd_same,.t (t46 _ _ upd_same) (.cons (.s _) (.cons (.t (t46 _ _ (t3 _ _ (t2 _ _ upd_same))) (.cons (.s _) (.cons (.s _) (.cons (.s _) .nil)))) (.cons (.t (t46 _ _ (t3 _ _ upd_same)) (.cons (.s _) (.cons (.i _) .nil))) .nil))),?_⟩ ⟨⟨⟨hz,.inr hy⟩,⟨n1,n2⟩⟩,by show 2 ≤ 2; decide⟩
    refine .n (t6 _ _ upd_same) (.cons (.w _) (.cons ?_ (.cons (.n (t6 _ _ (t5 _ _ upd_same)) (.cons (.w _) (.cons (.w _) .nil))) .nil)))
    show TrAt K _ _ (.w (nearW y z))
    rw [en]
    exact .w _
noncomputable abbrev kdsN:List Str:=["_law_cell_here","_law_many","_law_kinds_here","_law_trees","_law_k","_law_kind_here","_law_tree"]
theorem scKindsL:FnScope kdsN ["_law_cell_here","_law_many"] (defScope sKindsL):=⟨rfl,rfl,rfl,by decide +kernel,rfl,by decide +kernel,by decide +kernel⟩
set_option maxHeartbeats 0 in
theorem ok_kindsL {f fn fk:Addr} {fd fdn fdk:FuncData} (F:Fun K "_law_kinds" "_law_kinds" sKindsL f fd)
    (GN:FnOk P w K mg base CX0 1 fn fdn ["_law_cell_here"] spNameL) (bN:Binds K fdn ["_law_cell_here"] []) (kN:PySem.W.keepIn K (.ref fn) = true) (mN:mg "_law_name" = some (.ref fn))
    (GK:FnOk P w K mg base CX0 2 fk fdk ["_law_cell_here"] (spKindL K)) (bK:Binds K fdk ["_law_cell_here"] []) (kK:PySem.W.keepIn K (.ref fk) = true) (mK:mg "_law_kind" = some (.ref fk))
    (mr:mg "range" = none):FnOk P w K mg base CX0 3 f fd ["_law_cell_here","_law_many"] (spKindsL K):=by
  refine F.ok scKindsL (fun vs H Q E h => ?_) (fun cdv A outer s H vs Q E hr h => ?_)
  · obtain ⟨c,m,rfl,_⟩:=h
    rfl
  obtain ⟨c,m,rfl,hm,q⟩:=h
  have hr1:Room 1 _:=hr.mono (by decide)
  refine ⟨_,pss_cons (ps_set (i:=2) scKindsL.nd rfl (Or.inl rfl) (pe_lst pa_nil))
    (pss_cons (ps_set (i:=3) scKindsL.nd rfl (Or.inl rfl) (pe_lst pa_nil))
    (pss_cons (ps_for PassesOwn.never rfl (pi_range1 rfl mr (pa_cons (pv 1) pa_nil)) (pg_name (i:=4) scKindsL.nd rfl (Or.inl rfl))
      (pss_cons (ps_asg (pe_call GK hr rfl mK kK bK .nil pass0 (pa_cons (pe_op op_fdiv (pv 0) (pe_op op_add (pv 4) pe_int)) pa_nil)) (pg_two (K:=K) (i:=5) (j:=6) rfl rfl scKindsL.nd rfl (Or.inl rfl) (Or.inl rfl) rfl (Or.inl rfl) (Or.inl rfl)))
      (pss_cons (ps_if (pt_cmpR op_gt (pv 4) pe_int (nomark _))
        (pss_cons (ps_set (i:=6) scKindsL.nd rfl (Or.inl rfl) (pe_call GN hr1 rfl mN kN bN .nil pass0 (pa_cons (pe_op op_fdiv (pv 0) (pe_op op_add (pv 4) pe_int)) pa_nil)))
        (pss_one (ps_set (i:=5) scKindsL.nd rfl (Or.inl rfl) (pe_tup (pa_cons pe_str (pa_cons pe_str (pa_cons (pv 6) pa_nil))))))) pss_nil)
      (pss_cons (ps_expr (pe_bm PySem.F.plainAttrs_list PySem.F.slot_list_append PySem.F.type_list_append mt_append (pv 2) (pa_cons (pv 5) pa_nil)))
      (pss_one (ps_expr (pe_bm PySem.F.plainAttrs_list PySem.F.slot_list_append PySem.F.type_list_append mt_append (pv 3) (pa_cons (pv 6) pa_nil))))))))
    (pss_one (ps_ret (pe_tup (pa_cons (pv 2) (pa_cons (pv 3) pa_nil))))))),?_⟩
  refine ⟨(by show 0 ≤ sizeLine; decide),fun l1 hl1 => ⟨(by show 0 ≤ sizeLine; decide),fun l2 hl2 => ?_⟩⟩
  have n12:l2 ≠ l1:=fun e => by rw [e,upd_same] at hl2; cases hl2
  have hl2':H l2 = none:=by rw [upd_ne n12] at hl2; exact hl2
  have s0:=(same_new hl1 (.lst [])).trans (same_new hl2 (.lst []))
  refine ⟨_,rfl,_,rfl,by omega,by omega,for_range (lo:=0) (n:=((m:Nat):Int).toNat) (fun i σ H4 => ∃ (xs ys:List V) (ks:List Kd) (v4 v5 v6:Option V),σ = [some (.int c),some (.int m),some (.ref l1),some (.ref l2),v4,v5,v6] ∧ Same H H4 ∧ H4 l1 = some (.lst xs) ∧ H4 l2 = some (.lst ys) ∧ DsAt H4 xs (ks.map Kd.d) ∧ TrsAt K H4 ys (ks.map Kd.tr) ∧ ks.length = i ∧ ∀ k ∈ ks,kSm k)
    ⟨[],[],[],none,none,none,rfl,s0,by rw [upd_ne (Ne.symm n12)]; exact upd_same,upd_same,.nil,.nil,rfl,fun k hk => nomatch hk⟩ ?_ ?_⟩
  · rintro i σ H4 hi ⟨xs,ys,ks,v4,v5,v6,rfl,s4,h1,h2,hxs,hys,hkl,hks⟩
    rw [Int.toNat_natCast] at hi
    have xl:=hxs.length
    rw [List.length_map] at xl
    have yl:=hys.length
    rw [List.length_map] at yl
    have fin:∀ (H5:Hp) (vk vt:V) (k:Kd),Same H4 H5 → DAt H5 vk k.d → TrAt K H5 vt k.tr → kSm k → ∀ Z:Prop,(∀ H7,Same H H7 → H7 l1 = some (.lst (xs ++ [vk])) → H7 l2 = some (.lst (ys ++ [vt])) → DsAt H7 (xs ++ [vk]) ((ks ++ [k]).map Kd.d) → TrsAt K H7 (ys ++ [vt]) ((ks ++ [k]).map Kd.tr) → (ks ++ [k]).length = i + 1 → (∀ k' ∈ ks ++ [k],kSm k') → H7 = upd (upd H5 l1 (.lst (xs ++ [vk]))) l2 (.lst (ys ++ [vt])) → Z) → Z:=fun H5 vk vt k s5 hk ht hok Z hZ => by
      have g1:=s5 _ _ h1
      have g2:=s5 _ _ h2
      have g2':upd H5 l1 (.lst (xs ++ [vk])) l2 = some (.lst ys):=lst_upd g2 n12
      have kp:∀ a us,H5 a = some (.tup us) → upd (upd H5 l1 (.lst (xs ++ [vk]))) l2 (.lst (ys ++ [vt])) a = some (.tup us):=fun a us h => tup_upd g2' (tup_upd g1 h)
      refine hZ _ (sput (sput (s4.trans s5) hl1) hl2') (lst_upd upd_same (Ne.symm n12)) upd_same ?_ ?_ (by rw [List.length_append,hkl]; rfl) (fun k' hk' => ?_) rfl
      · rw [List.map_append]
        exact ((hxs.same s5).keep kp).append (.cons (hk.keep kp) .nil)
      · rw [List.map_append]
        exact ((hys.same s5).keep kp).append (.cons (ht.keep kp) .nil)
      · rcases List.mem_append.mp hk' with z | z
        · exact hks k' z
        · rw [List.mem_singleton.mp z]
          exact hok
    refine ⟨_,rfl,_,rfl,_,_,rfl,rfl,_,_,rfl,rfl,⟨by show (0:Int) < 0 + (i:Int) + 3; omega,by show (0 + (i:Int) + 3:Int) < 1073741824; omega⟩,_,rfl,fun H5 v k s5 hv hok => ?_⟩
    obtain ⟨p,vd,vt,rfl,hp,hd,ht⟩:=hv
    refine ⟨p,_,rfl,SqT.of hp,rfl,_,_,rfl,_,_,rfl,rfl,?_⟩
    refine ⟨_,rfl,_,_,rfl,rfl,_,rfl,ite2 (fun _ => ?_) (fun _ => ?_)⟩
    · refine ⟨_,rfl,_,rfl,_,_,rfl,rfl,_,_,rfl,rfl,⟨by show (0:Int) < 0 + (i:Int) + 2; omega,by show (0 + (i:Int) + 2:Int) < 1073741824; omega⟩,_,rfl,fun H6 z s6 hz => ⟨_,rfl,(by show 3 ≤ sizeLine; decide),fun p7 hp7 => ?_⟩⟩
      have s7:=same_new hp7 (.tup [.str "name",.str "",.str z])
      have e0:nearW "" z = z:=if_pos rfl
      have htz:TrAt K (upd H6 p7 (.tup [.str "name",.str "",.str z])) (.str z) (Kd.name "" z).tr:=by
        show TrAt K _ _ (.w (nearW "" z))
        rw [e0]
        exact .w z
      refine fin _ (.ref p7) (.str z) (.name "" z) (s5.trans (s6.trans s7)) (.t upd_same (.cons (.s _) (.cons (.s _) (.cons (.s _) .nil)))) htz ⟨⟨hz,.inl rfl⟩,by show 1 ≤ 2; decide⟩ _ fun H8 a1 a2 a3 a4 a5 a6 a7 e8 => ?_
      have g1:=(s5.trans (s6.trans s7)) _ _ h1
      refine ⟨_,rfl,.inl ⟨rfl,_,SqL.of g1⟩,_,rfl,l1,_,_,rfl,rfl,g1,mid (by omega),?_⟩
      have g2:upd (upd H6 p7 (.tup [.str "name",.str "",.str z])) l1 (.lst (xs ++ [.ref p7])) l2 = some (.lst ys):=lst_upd ((s5.trans (s6.trans s7)) _ _ h2) n12
      refine ⟨_,rfl,.inl ⟨rfl,_,SqL.of g2⟩,_,rfl,l2,_,_,rfl,rfl,g2,mid (by omega),?_⟩
      rw [← e8]
      exact ⟨_,_,_,_,_,_,rfl,a1,a2,a3,a4,a5,a6,a7⟩
    · refine fin _ vd vt k s5 hd ht hok _ fun H8 a1 a2 a3 a4 a5 a6 a7 e8 => ?_
      have g1:=s5 _ _ h1
      refine ⟨_,rfl,.inl ⟨rfl,_,SqL.of g1⟩,_,rfl,l1,_,_,rfl,rfl,g1,mid (by omega),?_⟩
      have g2:upd H5 l1 (.lst (xs ++ [vd])) l2 = some (.lst ys):=lst_upd (s5 _ _ h2) n12
      refine ⟨_,rfl,.inl ⟨rfl,_,SqL.of g2⟩,_,rfl,l2,_,_,rfl,rfl,g2,mid (by omega),?_⟩
      rw [← e8]
      exact ⟨_,_,_,_,_,_,rfl,a1,a2,a3,a4,a5,a6,a7⟩
  · rintro σ H4 ⟨xs,ys,ks,v4,v5,v6,rfl,s4,h1,h2,hxs,hys,hkl,hks⟩
    rw [Int.toNat_natCast] at hkl
    refine ⟨_,rfl,_,rfl,(by show 2 ≤ sizeLine; decide),fun p hp => ?_⟩
    have s5:=same_new hp (.tup [.ref l1,.ref l2])
    exact q _ p ks (s4.trans s5) ⟨⟨l1,l2,xs,ys,upd_same,s5 _ _ h1,s5 _ _ h2,hxs.same s5,hys.same s5⟩,hks⟩ hkl
end
end K17
namespace K17
open PySem L2
theorem one_of {α:Type} {a:α} {p:α → Prop} (ha:p a):∀ y ∈ [a],p y:=fun y hy => by
  rw [List.mem_singleton.mp hy]
  exact ha
theorem zip_get {α β:Type} {as:List α} {bs:List β} {i:Nat} {x:α × β} (h:(as.zip bs)[i]? = some x):as[i]? = some x.1 ∧ bs[i]? = some x.2:=by
  obtain ⟨a,b⟩:=x
  exact List.getElem?_zip_eq_some.mp h
theorem strs_get {ws:List Str} {i:Nat} (h:i < ws.length):∃ z,ws[i]? = some z ∧ (ws.map V.str)[i]? = some (.str z):=⟨_,List.getElem?_eq_getElem h,by rw [List.getElem?_map,List.getElem?_eq_getElem h]; rfl⟩
section
variable {P:Program} {w:World} {K:PySem.W.Frag} {mg:Str → Option Value} {base:Heap}
noncomputable abbrev rwN:List Str:=["_law_cell_here","_law_many","_law_kinds_here","_law_trees","_law_apart","_law_words","_law_rows_here"]
theorem scRowsL:FnScope rwN ["_law_cell_here","_law_many"] (defScope sRowsL):=⟨rfl,rfl,rfl,by decide +kernel,rfl,by decide +kernel,by decide +kernel⟩
set_option maxHeartbeats 0 in
theorem ok_rowsL {f fn fk:Addr} {fd fdn fdk:FuncData} (F:Fun K "_law_rows" "_law_rows" sRowsL f fd)
    (GN:FnOk P w K mg base CX0 1 fn fdn ["_law_cell_here"] spNameL) (bN:Binds K fdn ["_law_cell_here"] []) (kN:PySem.W.keepIn K (.ref fn) = true) (mN:mg "_law_name" = some (.ref fn))
    (GK:FnOk P w K mg base CX0 3 fk fdk ["_law_cell_here","_law_many"] (spKindsL K)) (bK:Binds K fdk ["_law_cell_here","_law_many"] []) (kK:PySem.W.keepIn K (.ref fk) = true) (mK:mg "_law_kinds" = some (.ref fk))
    (mr:mg "range" = none) (mI:mg "int" = none) (mt:mg "tuple" = none):FnOk P w K mg base CX0 4 f fd ["_law_cell_here","_law_many"] (spRowsL K):=by
  refine F.ok scRowsL (fun vs H Q E h => ?_) (fun cdv A outer s H vs Q E hr h => ?_)
  · obtain ⟨c,m,rfl,_⟩:=h
    rfl
  obtain ⟨c,m,rfl,hm,q⟩:=h
  have hr1:Room 1 _:=hr.mono (by decide)
  refine ⟨_,pss_cons (ps_asg (pe_call GK hr rfl mK kK bK .nil pass0 (pa_cons (pv 0) (pa_cons (pv 1) pa_nil))) (pg_two (K:=K) (i:=2) (j:=3) rfl rfl scRowsL.nd rfl (Or.inr rfl) (Or.inl rfl) rfl (Or.inr rfl) (Or.inl rfl)))
    (pss_cons (ps_set (i:=4) scRowsL.nd rfl (Or.inr rfl) (pe_callTy call_int1 rfl mI bootInt (pa_cons (pe_cmpR op_gt (pe_op op_mod (pv 0) pe_int) pe_int (nomark _)) pa_nil)))
    (pss_cons (ps_set (i:=5) scRowsL.nd rfl (Or.inr rfl) (pe_comp (own:=["_law_k"]) (caps:=["_law_cell_here","_law_apart"]) (κ:=[0,4]) rfl ⟨rfl,by decide +kernel,by decide +kernel,rfl,rfl,(two_of rfl rfl),(two_of ⟨.inl rfl,rfl,.inl rfl⟩ ⟨.inl rfl,rfl,.inl rfl⟩)⟩ rfl
        (pi_range1 rfl mr (pa_cons (pv 1) pa_nil)) (fun _ _ _ _ => pg_name (i:=0) (show (["_law_k","_law_cell_here","_law_apart"]:List Str).Nodup from by decide +kernel) rfl (Or.inl rfl))
        (fun _ _ _ _ => pe_call GN hr1 rfl mN kN bN .nil pass0 (pa_cons (pe_op op_add (pe_op op_fdiv (pv 1) (pe_op op_add (pe_op op_mul (pv 2) (pv 0)) pe_int)) (pe_op op_mul (pe_op op_mul pe_int (pv 2)) (pv 0))) pa_nil))))
    (pss_cons (ps_set (i:=6) scRowsL.nd rfl (Or.inl rfl) (pe_callTy call_tuple_of rfl mt bootTuple (pa_cons (pe_comp (own:=["_law_k"]) (caps:=["_law_words","_law_kinds_here"]) (κ:=[5,2]) rfl ⟨rfl,by decide +kernel,by decide +kernel,rfl,rfl,(two_of rfl rfl),(two_of ⟨.inl rfl,rfl,.inl rfl⟩ ⟨.inl rfl,rfl,.inl rfl⟩)⟩ rfl
        (pi_range1 rfl mr (pa_cons (pv 1) pa_nil)) (fun _ _ _ _ => pg_name (i:=0) (show (["_law_k","_law_words","_law_kinds_here"]:List Str).Nodup from by decide +kernel) rfl (Or.inl rfl))
        (fun _ _ _ _ => pe_tup (pa_cons (pe_ix (r:=rIxL K) ix_list (pv 1) (pv 0) (fun _ _ => rfl)) (pa_cons (pe_ix (r:=rIxL K) ix_list (pv 2) (pv 0) (fun _ _ => rfl)) pa_nil)))) pa_nil)))
    (pss_one (ps_ret (pe_tup (pa_cons (pv 6) (pa_cons (pe_callTy call_tuple_of rfl mt bootTuple (pa_cons (pe_comp (own:=["_law_k"]) (caps:=["_law_words","_law_trees"]) (κ:=[5,3]) rfl ⟨rfl,by decide +kernel,by decide +kernel,rfl,rfl,(two_of rfl rfl),(two_of ⟨.inl rfl,rfl,.inl rfl⟩ ⟨.inl rfl,rfl,.inl rfl⟩)⟩ rfl
        (pi_range1 rfl mr (pa_cons (pv 1) pa_nil)) (fun _ _ _ _ => pg_name (i:=0) (show (["_law_k","_law_words","_law_trees"]:List Str).Nodup from by decide +kernel) rfl (Or.inl rfl))
        (fun _ _ _ _ => pe_tup (pa_cons (pe_ix (r:=rIxL K) ix_list (pv 1) (pv 0) (fun _ _ => rfl)) (pa_cons (pe_ix (r:=rIxL K) ix_list (pv 2) (pv 0) (fun _ _ => rfl)) pa_nil)))) pa_nil)) pa_nil)))))))),?_⟩
  refine ⟨_,rfl,_,rfl,c,m,rfl,hm,fun H1 p ks s1 hks hkl => ?_⟩
  obtain ⟨⟨l1,l2,xs,ys,hp,h1,h2,hxs,hys⟩,hok⟩:=hks
  refine ⟨p,_,rfl,SqT.of hp,rfl,_,_,rfl,_,_,rfl,rfl,?_⟩
  refine ⟨_,rfl,_,_,rfl,rfl,(by show (0:Int) < 4; decide),_,_,rfl,rfl,.inr ⟨_,rfl,?_⟩⟩
  obtain ⟨ap,eap,hap⟩:∃ ap:Int,(if decide (c % 4 > 0) = true then (1:Int) else 0) = ap ∧ (ap = 0 ∨ ap = 1):=⟨_,rfl,by split <;> omega⟩
  rw [eap]
  have xl:=hxs.length
  rw [List.length_map] at xl
  have yl:=hys.length
  rw [List.length_map] at yl
  refine ⟨_,rfl,_,rfl,by omega,by omega,?_⟩
  refine comp_eachR (m:=((m:Nat):Int).toNat) (fun i H v => ∃ z:Str,v = .str z ∧ nameOk z = true) (fun i H H' v e h => h) (by omega) ?_ ?_
  · intro i H3 N B hi s3 hN
    rw [Int.toNat_natCast] at hi
    have hb:0 ≤ ap * (0 + (i:Int)) ∧ ap * (0 + (i:Int)) ≤ 4:=by
      rcases hap with rfl | rfl
      · rw [Int.zero_mul]; omega
      · rw [Int.one_mul]; omega
    refine ⟨rfl,tYes_go ⟨_,rfl,_,rfl,_,rfl,_,_,rfl,rfl,.inl ⟨by omega,by omega⟩,_,_,rfl,rfl,_,_,rfl,rfl,⟨by show (0:Int) < ap * (0 + (i:Int)) + 1; omega,by show ap * (0 + (i:Int)) + 1 < (1073741824:Int); omega⟩,_,rfl,_,_,rfl,rfl,.inl ⟨by decide,by decide⟩,_,rfl,_,_,rfl,rfl,.inl ⟨by omega,by omega⟩,_,_,rfl,rfl,_,rfl,fun H4 z s4 hz => hN _ _ s4 ⟨z,rfl,hz⟩⟩⟩
  · intro us H2 D s2 hul hus hD
    rw [Int.toNat_natCast] at hul
    obtain ⟨ws,rfl,hws⟩:=strs_ex hus
    rw [List.length_map] at hul
    have sD:=same_new hD (.lst (ws.map V.str))
    have s12:=s2.trans sD
    have hD':∀ H',Same (upd H2 D (.lst (ws.map V.str))) H' → H' D = some (.lst (ws.map V.str)):=fun H' e => e _ _ upd_same
    refine ⟨_,rfl,_,rfl,by omega,by omega,?_⟩
    refine comp_eachR (m:=((m:Nat):Int).toNat) (fun i H v => ∀ z k,ws[i]? = some z → ks[i]? = some k → DAt H v (rwD (z,k))) (fun i H H' v e h z k h1 h2 => (h z k h1 h2).same e) (by omega) ?_ ?_
    · intro i H3 N B hi s3 hN
      rw [Int.toNat_natCast] at hi
      obtain ⟨z,hz,hz'⟩:=strs_get (ws:=ws) (i:=i) (by omega)
      obtain ⟨vx,hvx⟩:∃ v,xs[i]? = some v:=⟨_,List.getElem?_eq_getElem (by omega)⟩
      obtain ⟨e,he,hat⟩:=hxs.get hvx
      obtain ⟨k0,hk0,rfl⟩:=map_get he
      have a1:atI (ws.map V.str) (0 + (i:Int)) = some (.str z):=by rw [Int.zero_add]; exact atI_nat hz'
      have a2:atI xs (0 + (i:Int)) = some vx:=by rw [Int.zero_add]; exact atI_nat hvx
      refine ⟨rfl,tYes_go ⟨_,rfl,_,rfl,D,_,_,_,rfl,rfl,SqL.of (hD' _ s3),a1,_,rfl,_,rfl,l1,_,_,_,rfl,rfl,SqL.of ((s12.trans s3) _ _ h1),a2,(by show 2 ≤ sizeLine; decide),fun p5 hp5 => ?_⟩⟩
      have s5:=same_new hp5 (.tup [.str z,vx])
      refine hN _ _ s5 fun z' k' e1 e2 => ?_
      rw [hz] at e1
      rw [hk0] at e2
      cases e1
      cases e2
      exact .t upd_same (.cons (.s _) (.cons (hat.same (s12.trans (s3.trans s5))) .nil))
    · intro zs H3 D3 s3 hl3 hz3 hD3
      rw [Int.toNat_natCast] at hl3
      have zl:(ws.zip ks).length = m:=by rw [List.length_zip,hul,hkl]; exact Nat.min_self _
      have hzs:DsAt H3 zs ((ws.zip ks).map rwD):=DsAt.of (by rw [hl3,List.length_map,zl]) fun i v d hv hd => by
        obtain ⟨r,hr',rfl⟩:=map_get hd
        obtain ⟨e1,e2⟩:=zip_get hr'
        exact hz3 i v hv _ _ e1 e2
      have sD3:=same_new hD3 (.lst zs)
      refine ⟨D3,zs,rfl,.inl ⟨SqL.of upd_same,fun l3 hl3' => ?_⟩⟩
      have sl3:=same_new hl3' (.tup zs)
      have s4:=s3.trans (sD3.trans sl3)
      refine ⟨_,rfl,_,rfl,_,rfl,by omega,by omega,?_⟩
      refine comp_eachR (m:=((m:Nat):Int).toNat) (fun i H v => ∀ z k,ws[i]? = some z → ks[i]? = some k → TrAt K H v (rwT (z,k))) (fun i H H' v e h z k h1 h2 => (h z k h1 h2).same e) (by omega) ?_ ?_
      · intro i H5 N B hi s5 hN
        rw [Int.toNat_natCast] at hi
        obtain ⟨z,hz,hz'⟩:=strs_get (ws:=ws) (i:=i) (by omega)
        obtain ⟨vx,hvx⟩:∃ v,ys[i]? = some v:=⟨_,List.getElem?_eq_getElem (by omega)⟩
        obtain ⟨e,he,hat⟩:=hys.get hvx
        obtain ⟨k0,hk0,rfl⟩:=map_get he
        have a1:atI (ws.map V.str) (0 + (i:Int)) = some (.str z):=by rw [Int.zero_add]; exact atI_nat hz'
        have a2:atI ys (0 + (i:Int)) = some vx:=by rw [Int.zero_add]; exact atI_nat hvx
        refine ⟨rfl,tYes_go ⟨_,rfl,_,rfl,D,_,_,_,rfl,rfl,SqL.of (hD' _ (s4.trans s5)),a1,_,rfl,_,rfl,l2,_,_,_,rfl,rfl,SqL.of ((s12.trans (s4.trans s5)) _ _ h2),a2,(by show 2 ≤ sizeLine; decide),fun p6 hp6 => ?_⟩⟩
        have s6:=same_new hp6 (.tup [.str z,vx])
        refine hN _ _ s6 fun z' k' e1 e2 => ?_
        rw [hz] at e1
        rw [hk0] at e2
        cases e1
        cases e2
        exact .n upd_same (.cons (.w _) (.cons (hat.same (s12.trans (s4.trans (s5.trans s6)))) .nil))
      · intro ts H5 D5 s5 hl5 hz5 hD5
        rw [Int.toNat_natCast] at hl5
        have hts:TrsAt K H5 ts ((ws.zip ks).map rwT):=trsAt_of (by rw [hl5,List.length_map,zl]) fun i v d hv hd => by
          obtain ⟨r,hr',rfl⟩:=map_get hd
          obtain ⟨e1,e2⟩:=zip_get hr'
          exact hz5 i v hv _ _ e1 e2
        have sD5:=same_new hD5 (.lst ts)
        refine ⟨D5,ts,rfl,.inl ⟨SqL.of upd_same,fun l5 hl5' => ⟨(by show 2 ≤ sizeLine; decide),fun p7 hp7 => ?_⟩⟩⟩
        have sl5:=same_new hl5' (.tup ts)
        have s7:=same_new hp7 (.tup [.ref l3,.ref l5])
        have s57:=s5.trans (sD5.trans (sl5.trans s7))
        refine q _ _ (ws.zip ks) (s1.trans (s12.trans (s4.trans s57))) ⟨p7,_,_,rfl,upd_same,.t (s57 _ _ upd_same) (hzs.same (sD3.trans (sl3.trans s57))),.n (s7 _ _ upd_same) (hts.same (sD5.trans (sl5.trans s7)))⟩ ⟨by omega,fun r hr' => ?_⟩
        obtain ⟨a,b⟩:=r
        have hz:=List.of_mem_zip hr'
        exact ⟨hws a hz.1,hok b hz.2⟩
noncomputable abbrev wtN:List Str:=["_law_cell_here","_law_many","_law_word","_law_rows_here","_law_trees"]
theorem scWantL:FnScope wtN ["_law_cell_here","_law_many"] (defScope sWantL):=⟨rfl,rfl,rfl,by decide +kernel,rfl,by decide +kernel,by decide +kernel⟩
set_option maxHeartbeats 0 in
theorem ok_wantL {f fn fk:Addr} {fd fdn fdk:FuncData} (F:Fun K "_law_want" "_law_want" sWantL f fd)
    (GN:FnOk P w K mg base CX0 1 fn fdn ["_law_cell_here"] spNameL) (bN:Binds K fdn ["_law_cell_here"] []) (kN:PySem.W.keepIn K (.ref fn) = true) (mN:mg "_law_name" = some (.ref fn))
    (GK:FnOk P w K mg base CX0 4 fk fdk ["_law_cell_here","_law_many"] (spRowsL K)) (bK:Binds K fdk ["_law_cell_here","_law_many"] []) (kK:PySem.W.keepIn K (.ref fk) = true) (mK:mg "_law_rows" = some (.ref fk)):FnOk P w K mg base CX0 5 f fd ["_law_cell_here","_law_many"] (spWantL K):=by
  refine F.ok scWantL (fun vs H Q E h => ?_) (fun cdv A outer s H vs Q E hr h => ?_)
  · obtain ⟨c,m,rfl,_⟩:=h
    rfl
  obtain ⟨c,m,rfl,hm,q⟩:=h
  have hr1:Room 1 _:=hr.mono (by decide)
  refine ⟨_,pss_cons (ps_set (i:=2) scWantL.nd rfl (Or.inl rfl) (pe_call GN hr1 rfl mN kN bN .nil pass0 (pa_cons (pv 0) pa_nil)))
    (pss_cons (ps_asg (pe_call GK hr rfl mK kK bK .nil pass0 (pa_cons (pe_op op_fdiv (pv 0) pe_int) (pa_cons (pv 1) pa_nil))) (pg_two (K:=K) (i:=3) (j:=4) rfl rfl scWantL.nd rfl (Or.inl rfl) (Or.inl rfl) rfl (Or.inl rfl) (Or.inl rfl)))
    (pss_one (ps_ret (pe_tup (pa_cons (pe_tup (pa_cons (pv 2) (pa_cons (pv 3) pa_nil))) (pa_cons (pe_op op_catT (pe_tup (pa_cons (pv 2) pa_nil)) (pv 4)) pa_nil)))))),?_⟩
  refine ⟨_,rfl,c,rfl,fun H1 z s1 hz => ?_⟩
  refine ⟨_,rfl,_,_,rfl,rfl,⟨by decide,by decide⟩,_,rfl,_,m,rfl,hm,fun H2 v rs s2 hv hrs => ?_⟩
  obtain ⟨p,vd,vt,rfl,hp,hd,ht⟩:=hv
  obtain ⟨a,ys,rfl,ha,hys⟩:=ht.node
  have yl:=hys.length
  rw [List.length_map] at yl
  have r4:=hrs.1
  refine ⟨p,_,rfl,SqT.of hp,rfl,_,_,rfl,_,_,rfl,rfl,?_⟩
  refine ⟨_,rfl,_,rfl,(by show 2 ≤ sizeLine; decide),fun p3 hp3 => ⟨_,rfl,(by show 1 ≤ sizeLine; decide),fun p4 hp4 => ⟨_,rfl,?_⟩⟩⟩
  have s3:=same_new hp3 (.tup [.str z,vd])
  have s4:=same_new hp4 (.tup [.str z])
  refine cat_go upd_same (s4 _ _ (s3 _ _ ha)) (by simp) (by show 1 + ys.length ≤ 1000; omega) fun H5 p5 s5 h5 => ⟨(by show 2 ≤ sizeLine; decide),fun p6 hp6 => ?_⟩
  have s6:=same_new hp6 (.tup [.ref p3,.ref p5])
  have s46:=s4.trans (s5.trans s6)
  exact q _ _ ⟨z,rs⟩ (s1.trans (s2.trans (s3.trans s46))) ⟨p6,_,_,rfl,upd_same,.t (s46 _ _ upd_same) (.cons (.s _) (.cons (hd.same (s3.trans s46)) .nil)),.n (s6 _ _ h5) (.cons (.w _) (hys.same (s3.trans s46)))⟩ ⟨hz,hrs⟩
theorem scSealL:FnScope ["_law_cell_here"] ["_law_cell_here"] (defScope sSealL):=⟨rfl,rfl,rfl,by decide +kernel,rfl,by decide +kernel,by decide +kernel⟩
theorem ok_sealL {f fk:Addr} {fd fdk:FuncData} (F:Fun K "_law_seal" "_law_seal" sSealL f fd)
    (GK:FnOk P w K mg base CX0 5 fk fdk ["_law_cell_here","_law_many"] (spWantL K)) (bK:Binds K fdk ["_law_cell_here","_law_many"] []) (kK:PySem.W.keepIn K (.ref fk) = true) (mK:mg "_law_want" = some (.ref fk)):FnOk P w K mg base CX0 6 f fd ["_law_cell_here"] (spSealL K):=by
  refine F.ok scSealL (fun vs H Q E h => ?_) (fun cdv A outer s H vs Q E hr h => ?_)
  · obtain ⟨c,rfl,_⟩:=h
    rfl
  obtain ⟨c,rfl,q⟩:=h
  refine ⟨_,pss_cons (ps_if (pt_cmpR op_eq (pe_op op_mod (pv 0) pe_int) pe_int (nomark _)) (pss_one (ps_ret (pe_tup (pa_cons pe_non (pa_cons pe_str pa_nil))))) pss_nil)
    (pss_one (ps_ret (pe_call GK hr rfl mK kK bK .nil pass0 (pa_cons (pe_op op_fdiv (pv 0) pe_int) (pa_cons (pe_op op_mod (pe_op op_fdiv (pv 0) pe_int) pe_int) pa_nil))))),?_⟩
  refine ⟨_,rfl,_,_,rfl,rfl,(by show (0:Int) < 3; decide),rfl,_,rfl,ite2 (fun _ => ?_) (fun _ => ?_)⟩
  · refine ⟨(by show 2 ≤ sizeLine; decide),fun p hp => ?_⟩
    exact q _ _ none (same_new hp _) ⟨p,_,_,rfl,upd_same,.o,.w _⟩ True.intro
  · obtain ⟨m,em,hm⟩:∃ m:Nat,(c / 3 % 4:Int) = m ∧ m ≤ 4:=⟨(c / 3 % 4).toNat,by omega,by omega⟩
    refine ⟨_,rfl,_,_,rfl,rfl,⟨by decide,by decide⟩,_,rfl,_,_,rfl,rfl,⟨by decide,by decide⟩,_,_,rfl,rfl,(by show (0:Int) < 4; decide),_,m,(by show [V.int (c / 9),V.int (c / 3 % 4)] = _; rw [em]),hm,fun H' v r s1 hv hok => q _ _ (some r) s1 hv hok⟩
end
end K17
namespace K17
open PySem L2
noncomputable def cellOf (ns:List Int) (k:Int):Int :=
  if k < (ns.length:Int) then (match atI (ns.map V.int) k with | some (.int v) => v * 48271 + 7919 * k | _ => 0)
  else if 0 < (ns.length:Int) then (match atI (ns.map V.int) (k % (ns.length:Int)) with | some (.int v) => (v % 1000003 * 48271 + 7919 * k * k) % 2147483647 | _ => 0)
  else (7919 * k + 11) % 2147483647
noncomputable def spCellX (K:PySem.W.Frag):Sp:=fun vs H Q _ => ∃ (a:Addr) (ns:List Int) (k:Int),vs = [.ref a,.int k] ∧ SqL K H a (ns.map V.int) ∧ ns.length ≤ 63 ∧ 0 ≤ k ∧ k ≤ 1000 ∧ ∀ c:Int,c = cellOf ns k → Q (.int c) H
noncomputable def PrsAt {α:Type} (K:PySem.W.Frag) (H:Hp) (D:α → Dd) (T:α → Tr) (xs:List V) (as:List α):Prop:=xs.length = as.length ∧ ∀ (i:Nat) (v:V) (a:α),xs[i]? = some v → as[i]? = some a → Pr K H v (D a) (T a)
theorem Pr.keep {K:PySem.W.Frag} {H H':Hp} (k:∀ a xs,H a = some (.tup xs) → H' a = some (.tup xs)) {v:V} {d:Dd} {t:Tr} (h:Pr K H v d t):Pr K H' v d t:=by
  obtain ⟨p,vd,vt,rfl,hp,h1,h2⟩:=h
  exact ⟨p,vd,vt,rfl,k _ _ hp,h1.keep k,h2.keep k⟩
theorem prs_snoc {α:Type} {K:PySem.W.Frag} {H:Hp} {D:α → Dd} {T:α → Tr} {xs:List V} {as:List α} {v:V} {a:α} (h:PrsAt K H D T xs as) (hv:Pr K H v (D a) (T a)):PrsAt K H D T (xs ++ [v]) (as ++ [a]):=by
  refine ⟨by rw [List.length_append,List.length_append,h.1]; rfl,fun i u b hu hb => ?_⟩
  by_cases c:i < xs.length
  · rw [List.getElem?_append_left c] at hu
    rw [List.getElem?_append_left (by rw [← h.1]; exact c)] at hb
    exact h.2 i u b hu hb
  · rw [List.getElem?_append_right (Nat.le_of_not_lt c)] at hu
    rw [List.getElem?_append_right (by rw [← h.1]; exact Nat.le_of_not_lt c),← h.1] at hb
    have e:i - xs.length = 0:=by
      have:=(List.getElem?_eq_some_iff.mp hu).1
      have h1:[v].length = 1:=rfl
      omega
    rw [e] at hu hb
    cases hu
    cases hb
    exact hv
theorem prs_ex {α:Type} {K:PySem.W.Frag} {H:Hp} {D:α → Dd} {T:α → Tr} {ok:α → Prop}:∀ {ys:List V},(∀ (i:Nat) (v:V),ys[i]? = some v → ∃ a,Pr K H v (D a) (T a) ∧ ok a) → ∃ as:List α,PrsAt K H D T ys as ∧ ∀ a ∈ as,ok a
  | [],_ => ⟨[],⟨rfl,fun i v a h => nomatch h⟩,fun z h => nomatch h⟩
  | y :: ys,h => by
    obtain ⟨a,ha,hk⟩:=h 0 y rfl
    obtain ⟨as,hl,hw⟩:=prs_ex (ys:=ys) fun i v hv => h (i + 1) v hv
    refine ⟨a :: as,⟨congrArg (· + 1) hl.1,fun i v b hv hb => ?_⟩,fun x hx => ?_⟩
    · cases i with
      | zero => cases hv; cases hb; exact ha
      | succ i => exact hl.2 i v b hv hb
    · rcases List.mem_cons.mp hx with rfl | hx
      · exact hk
      · exact hw x hx
noncomputable def spExL (K:PySem.W.Frag):Sp:=fun vs H Q _ => ∃ c:Int,vs = [.int c] ∧ ∀ H' v (e:Ex),Same H H' → Pr K H' v e.d e.tr → exSm e → Q v H'
noncomputable def spFIL (K:PySem.W.Frag):Sp:=fun vs H Q _ => ∃ (c:Int) (m:Nat),vs = [.int c,.int m] ∧ m ≤ 4 ∧ ∀ H' v (i:FI),Same H H' → Pr K H' v i.d i.tr → i.ok → Q v H'
noncomputable def spPIL (K:PySem.W.Frag):Sp:=fun vs H Q _ => ∃ (c:Int) (m:Nat),vs = [.int c,.int m] ∧ m ≤ 4 ∧ ∀ H' v (i:PI),Same H H' → Pr K H' v i.d i.tr → i.ok → Q v H'
noncomputable def spFormalsL (K:PySem.W.Frag):Sp:=fun vs H Q _ => ∃ c:Int,vs = [.int c] ∧ ∀ H' v (fs:List Fo),Same H H' → Pr K H' v (.t (fs.map foD)) (.n (fs.map foT)) → 1 ≤ fs.length → fs.length ≤ 4 → (∀ f ∈ fs,foOk f) → Q v H'
section
variable {P:Program} {w:World} {K:PySem.W.Frag} {mg:Str → Option Value} {base:Heap}
theorem ok_cellX {f:Addr} {fd:FuncData} (F:Fun K "_law_cell" "_law_cell" sCell f fd) (ml:mg "len" = none):FnOk P w K mg base CX0 1 f fd ["_law_script","_law_k"] (spCellX K):=by
  refine F.ok scCell (fun vs H Q E h => ?_) (fun cdv A outer s H vs Q E hr h => ?_)
  · obtain ⟨a,ns,k,rfl,_⟩:=h
    rfl
  obtain ⟨a,ns,k,rfl,hS,h63,h0,h1,q⟩:=h
  refine ⟨_,pss_cons (ps_if (pt_cmpR op_lt (pv 1) (pe_callB call_len_seq rfl ml PySem.boot_len (pa_cons (pv 0) pa_nil)) (nomark _))
      (pss_one (ps_ret (pe_op op_add (pe_op op_mul (pe_ix ix_list (pv 0) (pv 1) (fun _ _ => rfl)) pe_int) (pe_op op_mul pe_int (pv 1))))) pss_nil)
    (pss_cons (ps_set (i:=2) scCell.nd rfl (Or.inl rfl) (pe_op op_add (pe_op op_mul pe_int (pv 1)) pe_int))
    (pss_cons (ps_if (pt_cmpR op_gt (pe_callB call_len_seq rfl ml PySem.boot_len (pa_cons (pv 0) pa_nil)) pe_int (nomark _))
      (pss_one (ps_set (i:=2) scCell.nd rfl (Or.inl rfl) (pe_op op_add (pe_op op_mul (pe_op op_mod (pe_ix ix_list (pv 0) (pe_op op_mod (pv 1) (pe_callB call_len_seq rfl ml PySem.boot_len (pa_cons (pv 0) pa_nil))) (fun _ _ => rfl)) pe_int) pe_int)
        (pe_op op_mul (pe_op op_mul pe_int (pv 1)) (pv 1))))) pss_nil)
    (pss_one (ps_ret (pe_op op_mod (pv 2) pe_int))))),?_⟩
  have hl:(ns.map V.int).length = ns.length:=List.length_map _
  refine ⟨_,rfl,_,rfl,a,_,rfl,.inl hS,_,_,rfl,rfl,_,rfl,?_⟩
  refine ite2 (fun c => ?_) (fun c => ?_)
  · have c':k < (((ns.map V.int).length:Nat):Int):=of_decide_eq_true c
    rw [hl] at c'
    obtain ⟨v,hv⟩:=at_int (ns:=ns) h0 c'
    exact ⟨_,rfl,_,rfl,a,_,_,_,rfl,rfl,hS,hv,_,_,rfl,rfl,.inr ⟨by omega,by omega⟩,_,rfl,_,_,rfl,rfl,.inl ⟨by omega,by omega⟩,_,_,rfl,rfl,q _ (by unfold cellOf; rw [if_pos c',hv])⟩
  · have c':¬ k < (((ns.map V.int).length:Nat):Int):=of_decide_eq_false (Bool.eq_false_iff.mpr c)
    rw [hl] at c'
    refine ⟨_,rfl,_,_,rfl,rfl,.inl ⟨by omega,by omega⟩,_,_,rfl,rfl,?_⟩
    refine ⟨_,rfl,a,_,rfl,.inl hS,_,_,rfl,rfl,_,rfl,?_⟩
    refine ite2 (fun d => ?_) (fun d => ?_)
    · have d':0 < (((ns.map V.int).length:Nat):Int):=of_decide_eq_true d
      rw [hl] at d'
      obtain ⟨v,hv⟩:=at_int (ns:=ns) (i:=k % (((ns.map V.int).length:Nat):Int)) (by rw [hl]; exact Int.emod_nonneg _ (by omega)) (by rw [hl]; exact Int.emod_lt_of_pos _ d')
      refine ⟨_,rfl,_,rfl,_,rfl,a,_,rfl,.inl hS,_,_,rfl,rfl,(by rw [hl]; exact d'),a,_,_,_,rfl,rfl,hS,hv,_,_,rfl,rfl,(by show (0:Int) < 1000003; decide),_,_,rfl,rfl,.inr ⟨by omega,by omega⟩,?_⟩
      refine ⟨_,rfl,_,_,rfl,rfl,.inl ⟨by omega,by omega⟩,_,rfl,_,_,rfl,rfl,.inr ⟨by omega,by omega⟩,_,_,rfl,rfl,?_⟩
      exact ⟨_,rfl,_,_,rfl,rfl,(by show (0:Int) < 2147483647; decide),q _ (by rw [hl] at hv; unfold cellOf; rw [if_neg c',if_pos d',hv])⟩
    · have d':¬ 0 < (((ns.map V.int).length:Nat):Int):=of_decide_eq_false (Bool.eq_false_iff.mpr d)
      rw [hl] at d'
      exact ⟨_,rfl,_,_,rfl,rfl,(by show (0:Int) < 2147483647; decide),q _ (by unfold cellOf; rw [if_neg c',if_neg d'])⟩
noncomputable abbrev exlN:List Str:=["_law_cell_here","_law_size_here","_law_value","_law_literal","_law_tree","_law_word","_law_owner"]
theorem scExL:FnScope exlN ["_law_cell_here"] (defScope sExL):=⟨rfl,rfl,rfl,by decide +kernel,rfl,by decide +kernel,by decide +kernel⟩
set_option maxHeartbeats 0 in
theorem ok_exL {f fn fs:Addr} {fd fdn fds:FuncData} (F:Fun K "_law_expression" "_law_expression" sExL f fd)
    (GN:FnOk P w K mg base CX0 1 fn fdn ["_law_cell_here"] spNameL) (bN:Binds K fdn ["_law_cell_here"] []) (kN:PySem.W.keepIn K (.ref fn) = true) (mN:mg "_law_name" = some (.ref fn))
    (GS:FnOk P w K mg base CX0 1 fs fds ["_law_cell_here"] spSizeL) (bS:Binds K fds ["_law_cell_here"] []) (kS:PySem.W.keepIn K (.ref fs) = true) (mS:mg "_law_size" = some (.ref fs))
    (ms:mg "str" = none):FnOk P w K mg base CX0 2 f fd ["_law_cell_here"] (spExL K):=by
  refine F.ok scExL (fun vs H Q E h => ?_) (fun cdv A outer s H vs Q E hr h => ?_)
  · obtain ⟨c,rfl,_⟩:=h
    rfl
  obtain ⟨c,rfl,q⟩:=h
  refine ⟨_,pss_cons (ps_set (i:=1) scExL.nd rfl (Or.inl rfl) (pe_call GS hr rfl mS kS bS .nil pass0 (pa_cons (pe_op op_fdiv (pv 0) pe_int) pa_nil)))
    (pss_cons (ps_set (i:=2) scExL.nd rfl (Or.inl rfl) (pe_ix ix_list (pe_lst (pa_cons pe_int (pa_cons (pe_op op_sub (pv 1) pe_int) (pa_cons (pe_op op_mod (pe_op op_fdiv (pv 0) pe_int) (pv 1)) pa_nil)))) (pe_op op_mod (pe_op op_fdiv (pv 0) pe_int) pe_int) (fun _ _ => rfl)))
    (pss_cons (ps_set (i:=3) scExL.nd rfl (Or.inl rfl) (pe_tup (pa_cons pe_str (pa_cons (pv 2) (pa_cons (pv 1) pa_nil)))))
    (pss_cons (ps_set (i:=4) scExL.nd rfl (Or.inl rfl) (pe_tup (pa_cons pe_str (pa_cons (pe_callTy call_str_int rfl ms bootStr (pa_cons (pv 2) pa_nil)) (pa_cons (pe_callTy call_str_int rfl ms bootStr (pa_cons (pv 1) pa_nil)) pa_nil)))))
    (pss_cons (ps_set (i:=5) scExL.nd rfl (Or.inl rfl) (pe_call GN hr rfl mN kN bN .nil pass0 (pa_cons (pe_op op_fdiv (pv 0) pe_int) pa_nil)))
    (pss_cons (ps_if (pt_cmpR op_eq (pe_op op_mod (pv 0) pe_int) pe_int (nomark _)) (pss_one (ps_ret (pe_tup (pa_cons (pv 3) (pa_cons (pv 4) pa_nil))))) pss_nil)
    (pss_cons (ps_if (pt_cmpR op_eq (pe_op op_mod (pv 0) pe_int) pe_int (nomark _)) (pss_one (ps_ret (pe_tup (pa_cons (pe_tup (pa_cons pe_str (pa_cons (pv 5) pa_nil))) (pa_cons (pv 5) pa_nil))))) pss_nil)
    (pss_cons (ps_if (pt_cmpR op_eq (pe_op op_mod (pv 0) pe_int) pe_int (nomark _)) (pss_one (ps_ret (pe_tup (pa_cons (pe_tup (pa_cons pe_str (pa_cons pe_str (pa_cons (pv 1) (pa_cons (pe_tup (pa_cons pe_str (pa_cons (pv 5) pa_nil))) (pa_cons (pv 3) pa_nil)))))) (pa_cons (pe_tup (pa_cons pe_str (pa_cons (pe_callTy call_str_int rfl ms bootStr (pa_cons (pv 1) pa_nil)) (pa_cons (pv 5) (pa_cons (pv 4) pa_nil))))) pa_nil))))) pss_nil)
    (pss_cons (ps_if (pt_cmpR op_eq (pe_op op_mod (pv 0) pe_int) pe_int (nomark _))
      (pss_cons (ps_set (i:=6) scExL.nd rfl (Or.inl rfl) (pe_call GN hr rfl mN kN bN .nil pass0 (pa_cons (pe_op op_fdiv (pv 0) pe_int) pa_nil)))
      (pss_one (ps_ret (pe_tup (pa_cons (pe_tup (pa_cons pe_str (pa_cons (pv 6) (pa_cons (pv 5) (pa_cons (pe_tup (pa_cons (pv 3) (pa_cons (pe_tup (pa_cons pe_str (pa_cons (pv 6) pa_nil))) pa_nil))) pa_nil))))) (pa_cons (pe_tup (pa_cons (pe_op op_add_str (pe_op op_add_str (pv 6) pe_str) (pv 5)) (pa_cons (pv 4) (pa_cons (pv 6) pa_nil)))) pa_nil)))))) pss_nil)
    (pss_one (ps_ret (pe_tup (pa_cons (pe_tup (pa_cons pe_str (pa_cons (pv 5) (pa_cons (pv 3) (pa_cons (pe_tup (pa_cons pe_str (pa_cons (pv 5) pa_nil))) pa_nil))))) (pa_cons (pe_tup (pa_cons pe_str (pa_cons (pv 5) (pa_cons (pv 4) (pa_cons (pv 5) pa_nil))))) pa_nil))))))))))))),?_⟩
  refine ⟨_,rfl,_,_,rfl,rfl,⟨by decide,by decide⟩,_,rfl,fun n h1 h2 => ?_⟩
  refine ⟨_,rfl,_,_,rfl,rfl,_,rfl,_,_,rfl,rfl,⟨by decide,by decide⟩,_,rfl,_,_,rfl,rfl,(by show (0:Int) < (n:Int); omega),(by show 3 ≤ sizeLine; decide),fun l hl => ?_⟩
  have s1:=same_new hl (.lst [.int 0,.int ((n:Int) - 1),.int (c / 11 % (n:Int))])
  obtain ⟨v,hv⟩:=at_int (ns:=[0,(n:Int) - 1,c / 11 % (n:Int)]) (i:=c / 17 % 3) (by omega) (by show c / 17 % 3 < 3; omega)
  have hm:=mem_at hv
  have hvr:0 ≤ v ∧ v < n:=by
    have m0:=Int.emod_nonneg (c / 11) (b:=(n:Int)) (by omega)
    have m1:=Int.emod_lt_of_pos (c / 11) (b:=(n:Int)) (by omega)
    obtain ⟨k,hk,e⟩:=List.mem_map.mp hm
    have e':k = v:=V.int.inj e
    simp only [List.mem_cons,List.mem_nil_iff,or_false] at hk
    rcases hk with hk | hk | hk <;> omega
  obtain ⟨k,rfl⟩:∃ k:Nat,v = k:=⟨v.toNat,by omega⟩
  refine ⟨_,rfl,_,_,rfl,rfl,⟨by decide,by decide⟩,_,_,rfl,rfl,(by show (0:Int) < 3; decide),l,_,_,.int k,rfl,rfl,SqL.of upd_same,hv,?_⟩
  refine ⟨_,rfl,_,rfl,(by show 3 ≤ sizeLine; decide),fun p1 hp1 => ?_⟩
  have s2:=same_new hp1 (.tup [.str "lit",.int k,.int n])
  refine ⟨_,rfl,k,rfl,log_small (show k ≤ 1000000000000000000 by omega),_,rfl,n,rfl,log_small h2,(by show 3 ≤ sizeLine; decide),fun p2 hp2 => ?_⟩
  have s3:=same_new hp2 (.tup [.str "lit",.str (numS k),.str (numS n)])
  refine ⟨_,rfl,_,_,rfl,rfl,⟨by decide,by decide⟩,_,rfl,fun H4 z s4 hz => ?_⟩
  have s14:=s1.trans (s2.trans (s3.trans s4))
  have dl:∀ H',Same H4 H' → DAt H' (.ref p1) (Ex.node (.lit k n) []).d:=fun H' e => .t (e _ _ (s4 _ _ (s3 _ _ upd_same))) (.cons (.s _) (.cons (.i _) (.cons (.i _) .nil)))
  have tl:∀ H',Same H4 H' → TrAt K H' (.ref p2) (Ex.node (.lit k n) []).tr:=fun H' e => .n (e _ _ (s4 _ _ upd_same)) (.cons (.w _) (.cons (.w _) (.cons (.w _) .nil)))
  have okl:(Ex.node (.lit k n) []).ok:=⟨⟨rfl,by omega,h2⟩,True.intro⟩
  have okv:∀ y,nameOk y = true → (Ex.var y).ok:=fun y hy => hy
  obtain ⟨_,z2,_⟩:=name_facts hz
  have d1:(Str.ofString ".").length = 1:=by decide +kernel
  refine ⟨_,rfl,_,_,rfl,rfl,(by show (0:Int) < 5; decide),rfl,_,rfl,ite2 (fun _ => ?_) (fun _ => ?_)⟩
  · refine ⟨_,rfl,_,rfl,(by show 2 ≤ sizeLine; decide),fun p3 hp3 => ?_⟩
    have s5:=same_new hp3 (.tup [.ref p1,.ref p2])
    exact q _ _ (.node (.lit k n) []) (s14.trans s5) ⟨p3,_,_,rfl,upd_same,dl _ s5,tl _ s5⟩ ⟨okl,by show 1 ≤ 2; decide,by show 5 ≤ 20; decide⟩
  refine ⟨_,rfl,_,_,rfl,rfl,(by show (0:Int) < 5; decide),rfl,_,rfl,ite2 (fun _ => ?_) (fun _ => ?_)⟩
  · refine ⟨_,rfl,(by show 2 ≤ sizeLine; decide),fun p3 hp3 => ⟨_,rfl,(by show 2 ≤ sizeLine; decide),fun p4 hp4 => ?_⟩⟩
    have s5:=same_new hp3 (.tup [.str "var",.str z])
    have s6:=same_new hp4 (.tup [.ref p3,.str z])
    exact q _ _ (.var z) (s14.trans (s5.trans s6)) ⟨p4,_,_,rfl,upd_same,.t (s6 _ _ upd_same) (.cons (.s _) (.cons (.s _) .nil)),.w z⟩ ⟨hz,by show 0 ≤ 2; decide,by show 1 ≤ 20; decide⟩
  refine ⟨_,rfl,_,_,rfl,rfl,(by show (0:Int) < 5; decide),rfl,_,rfl,ite2 (fun _ => ?_) (fun _ => ?_)⟩
  · refine ⟨_,rfl,_,rfl,(by show 2 ≤ sizeLine; decide),fun p3 hp3 => ⟨_,rfl,(by show 5 ≤ sizeLine; decide),fun p4 hp4 => ⟨_,rfl,n,rfl,log_small h2,_,rfl,_,rfl,(by show 4 ≤ sizeLine; decide),fun p5 hp5 => ⟨(by show 2 ≤ sizeLine; decide),fun p6 hp6 => ?_⟩⟩⟩⟩
    have t3:=same_new hp3 (.tup [.str "var",.str z])
    have t4:=same_new hp4 (.tup [.str "op",.str "-",.int n,.ref p3,.ref p1])
    have t5:=same_new hp5 (.tup [.str "-",.str (numS n),.str z,.ref p2])
    have t6:=same_new hp6 (.tup [.ref p4,.ref p5])
    have t46:=t4.trans (t5.trans t6)
    have t36:=t3.trans t46
    exact q _ _ (.node (.op "-" n) [.var z,.node (.lit k n) []]) (s14.trans t36) ⟨p6,_,_,rfl,upd_same,.t ((t5.trans t6) _ _ upd_same) (.cons (.s _) (.cons (.s _) (.cons (.i _) (.cons (.t (t46 _ _ upd_same) (.cons (.s _) (.cons (.s _) .nil))) (.cons (dl _ t36) .nil))))),.n (t6 _ _ upd_same) (.cons (.w _) (.cons (.w _) (.cons (.w _) (.cons (tl _ t36) .nil))))⟩
      ⟨⟨⟨rfl,.inr (.inl rfl),h1,h2⟩,hz,okl,True.intro⟩,by show 2 ≤ 2; decide,by show 10 ≤ 20; decide⟩
  refine ⟨_,rfl,_,_,rfl,rfl,(by show (0:Int) < 5; decide),rfl,_,rfl,ite2 (fun _ => ?_) (fun _ => ?_)⟩
  · refine ⟨_,rfl,_,_,rfl,rfl,⟨by decide,by decide⟩,_,rfl,fun H5 y s5 hy => ?_⟩
    obtain ⟨_,y2,_⟩:=name_facts hy
    have g1:y.length + (Str.ofString ".").length ≤ sizeLine:=small (by rw [d1]; omega)
    have g2:(y ++ Str.ofString ".").length + z.length ≤ sizeLine:=small (by rw [len_app,d1]; omega)
    have en:nearW y z = (y ++ ".") ++ z:=if_neg (name_ne hy)
    refine ⟨_,rfl,_,rfl,_,rfl,_,rfl,(by show 2 ≤ sizeLine; decide),fun p3 hp3 => ⟨(by show 2 ≤ sizeLine; decide),fun p4 hp4 => ⟨(by show 4 ≤ sizeLine; decide),fun p5 hp5 => ⟨_,rfl,y,_,rfl,rfl,g1,_,rfl,_,z,rfl,rfl,g2,_,rfl,_,rfl,(by show 3 ≤ sizeLine; decide),fun p6 hp6 => ⟨(by show 2 ≤ sizeLine; decide),fun p7 hp7 => ?_⟩⟩⟩⟩⟩
    have t3:=same_new hp3 (.tup [.str "var",.str y])
    have t4:=same_new hp4 (.tup [.ref p1,.ref p3])
    have t5:=same_new hp5 (.tup [.str "call",.str y,.str z,.ref p4])
    have t6:=same_new hp6 (.tup [.str ((y ++ Str.ofString ".") ++ z),.ref p2,.str y])
    have t7:=same_new hp7 (.tup [.ref p5,.ref p6])
    have t57:=t5.trans (t6.trans t7)
    have t47:=t4.trans t57
    have t37:=s5.trans (t3.trans t47)
    refine q _ _ (.node (.call y z) [.node (.lit k n) [],.var y]) (s14.trans t37) ⟨p7,_,_,rfl,upd_same,.t ((t6.trans t7) _ _ upd_same) (.cons (.s _) (.cons (.s _) (.cons (.s _) (.cons (.t (t57 _ _ upd_same) (.cons (dl _ t37) (.cons (.t (t47 _ _ upd_same) (.cons (.s _) (.cons (.s _) .nil))) .nil))) .nil)))),?_⟩
      ⟨⟨⟨by show 2 ≤ 4; decide,hz,.inr hy⟩,okl,hy,True.intro⟩,by show 2 ≤ 2; decide,by show 9 ≤ 20; decide⟩
    refine .n (t7 _ _ upd_same) ?_
    show TrsAt K _ _ [.w (nearW y z),_,.w y]
    rw [en]
    exact .cons (.w _) (.cons (tl _ t37) (.cons (.w _) .nil))
  · refine ⟨_,rfl,_,rfl,_,rfl,(by show 2 ≤ sizeLine; decide),fun p3 hp3 => ⟨(by show 4 ≤ sizeLine; decide),fun p4 hp4 => ⟨_,rfl,_,rfl,_,rfl,(by show 4 ≤ sizeLine; decide),fun p5 hp5 => ⟨(by show 2 ≤ sizeLine; decide),fun p6 hp6 => ?_⟩⟩⟩⟩
    have t3:=same_new hp3 (.tup [.str "var",.str z])
    have t4:=same_new hp4 (.tup [.str "let",.str z,.ref p1,.ref p3])
    have t5:=same_new hp5 (.tup [.str "let",.str z,.ref p2,.str z])
    have t6:=same_new hp6 (.tup [.ref p4,.ref p5])
    have t46:=t4.trans (t5.trans t6)
    have t36:=t3.trans t46
    exact q _ _ (.node (.let_ z) [.node (.lit k n) [],.var z]) (s14.trans t36) ⟨p6,_,_,rfl,upd_same,.t ((t5.trans t6) _ _ upd_same) (.cons (.s _) (.cons (.s _) (.cons (dl _ t36) (.cons (.t (t46 _ _ upd_same) (.cons (.s _) (.cons (.s _) .nil))) .nil)))),.n (t6 _ _ upd_same) (.cons (.w _) (.cons (.w _) (.cons (tl _ t36) (.cons (.w _) .nil))))⟩
      ⟨⟨⟨rfl,hz⟩,okl,hz,True.intro⟩,by show 2 ≤ 2; decide,by show 10 ≤ 20; decide⟩
noncomputable abbrev filN:List Str:=["_law_cell_here","_law_most","_law_word","_law_kind_here","_law_tree","_law_kinds_here","_law_trees"]
theorem scFIL:FnScope filN ["_law_cell_here","_law_most"] (defScope sFIL):=⟨rfl,rfl,rfl,by decide +kernel,rfl,by decide +kernel,by decide +kernel⟩
set_option maxHeartbeats 0 in
theorem ok_fiL {f fn fk fm:Addr} {fd fdn fdk fdm:FuncData} (F:Fun K "_law_face_item" "_law_face_item" sFIL f fd)
    (GN:FnOk P w K mg base CX0 1 fn fdn ["_law_cell_here"] spNameL) (bN:Binds K fdn ["_law_cell_here"] []) (kN:PySem.W.keepIn K (.ref fn) = true) (mN:mg "_law_name" = some (.ref fn))
    (GK:FnOk P w K mg base CX0 2 fk fdk ["_law_cell_here"] (spKindL K)) (bK:Binds K fdk ["_law_cell_here"] []) (kK:PySem.W.keepIn K (.ref fk) = true) (mK:mg "_law_kind" = some (.ref fk))
    (GM:FnOk P w K mg base CX0 3 fm fdm ["_law_cell_here","_law_many"] (spKindsL K)) (bM:Binds K fdm ["_law_cell_here","_law_many"] []) (kM:PySem.W.keepIn K (.ref fm) = true) (mM:mg "_law_kinds" = some (.ref fm))
    (mt:mg "tuple" = none):FnOk P w K mg base CX0 4 f fd ["_law_cell_here","_law_most"] (spFIL K):=by
  refine F.ok scFIL (fun vs H Q E h => ?_) (fun cdv A outer s H vs Q E hr h => ?_)
  · obtain ⟨c,m,rfl,_⟩:=h
    rfl
  obtain ⟨c,m,rfl,hm,q⟩:=h
  have hr1:Room 1 _:=hr.mono (by decide)
  have hr2:Room 2 _:=hr.mono (by decide)
  refine ⟨_,pss_cons (ps_set (i:=2) scFIL.nd rfl (Or.inl rfl) (pe_call GN hr1 rfl mN kN bN .nil pass0 (pa_cons (pe_op op_fdiv (pv 0) pe_int) pa_nil)))
    (pss_cons (ps_asg (pe_call GK hr2 rfl mK kK bK .nil pass0 (pa_cons (pe_op op_fdiv (pv 0) pe_int) pa_nil)) (pg_two (K:=K) (i:=3) (j:=4) rfl rfl scFIL.nd rfl (Or.inl rfl) (Or.inl rfl) rfl (Or.inl rfl) (Or.inl rfl)))
    (pss_cons (ps_if (pt_cmpR op_eq (pe_op op_mod (pv 0) pe_int) pe_int (nomark _)) (pss_one (ps_ret (pe_tup (pa_cons (pe_tup (pa_cons pe_str (pa_cons (pv 2) pa_nil))) (pa_cons (pe_tup (pa_cons pe_str (pa_cons (pv 2) pa_nil))) pa_nil))))) pss_nil)
    (pss_cons (ps_if (pt_cmpR op_eq (pe_op op_mod (pv 0) pe_int) pe_int (nomark _)) (pss_one (ps_ret (pe_tup (pa_cons (pe_tup (pa_cons pe_str (pa_cons (pv 2) (pa_cons (pv 3) pa_nil)))) (pa_cons (pe_tup (pa_cons pe_str (pa_cons (pv 2) (pa_cons (pv 4) pa_nil)))) pa_nil))))) pss_nil)
    (pss_cons (ps_asg (pe_call GM hr rfl mM kM bM .nil pass0 (pa_cons (pe_op op_fdiv (pv 0) pe_int) (pa_cons (pe_op op_mod (pe_op op_fdiv (pv 0) pe_int) (pe_op op_add (pv 1) pe_int)) pa_nil))) (pg_two (K:=K) (i:=5) (j:=6) rfl rfl scFIL.nd rfl (Or.inl rfl) (Or.inl rfl) rfl (Or.inl rfl) (Or.inl rfl)))
    (pss_one (ps_ret (pe_tup (pa_cons (pe_tup (pa_cons pe_str (pa_cons (pv 2) (pa_cons (pe_callTy call_tuple_of rfl mt bootTuple (pa_cons (pv 5) pa_nil)) (pa_cons (pv 3) pa_nil))))) (pa_cons (pe_tup (pa_cons pe_str (pa_cons (pv 2) (pa_cons (pe_callTy call_tuple_of rfl mt bootTuple (pa_cons (pv 6) pa_nil)) (pa_cons (pv 4) pa_nil))))) pa_nil))))))))),?_⟩
  refine ⟨_,rfl,_,_,rfl,rfl,⟨by decide,by decide⟩,_,rfl,fun H1 z s1 hz => ?_⟩
  refine ⟨_,rfl,_,_,rfl,rfl,⟨by decide,by decide⟩,_,rfl,fun H2 v k s2 hv hk => ?_⟩
  obtain ⟨p,vd,vt,rfl,hp,hd,ht⟩:=hv
  have s12:=s1.trans s2
  refine ⟨p,_,rfl,SqT.of hp,rfl,_,_,rfl,_,_,rfl,rfl,?_⟩
  refine ⟨_,rfl,_,_,rfl,rfl,(by show (0:Int) < 3; decide),rfl,_,rfl,ite2 (fun _ => ?_) (fun _ => ?_)⟩
  · refine ⟨_,rfl,(by show 2 ≤ sizeLine; decide),fun p3 hp3 => ⟨_,rfl,(by show 2 ≤ sizeLine; decide),fun p4 hp4 => ⟨(by show 2 ≤ sizeLine; decide),fun p5 hp5 => ?_⟩⟩⟩
    have t3:=same_new hp3 (.tup [.str "hid",.str z])
    have t4:=same_new hp4 (.tup [.str "hid",.str z])
    have t5:=same_new hp5 (.tup [.ref p3,.ref p4])
    exact q _ _ (.hid z) (s12.trans (t3.trans (t4.trans t5))) ⟨p5,_,_,rfl,upd_same,.t ((t4.trans t5) _ _ upd_same) (.cons (.s _) (.cons (.s _) .nil)),.n (t5 _ _ upd_same) (.cons (.w _) (.cons (.w _) .nil))⟩ hz
  refine ⟨_,rfl,_,_,rfl,rfl,(by show (0:Int) < 3; decide),rfl,_,rfl,ite2 (fun _ => ?_) (fun _ => ?_)⟩
  · refine ⟨_,rfl,_,rfl,(by show 3 ≤ sizeLine; decide),fun p3 hp3 => ⟨_,rfl,_,rfl,(by show 3 ≤ sizeLine; decide),fun p4 hp4 => ⟨(by show 2 ≤ sizeLine; decide),fun p5 hp5 => ?_⟩⟩⟩
    have t3:=same_new hp3 (.tup [.str "told",.str z,vd])
    have t4:=same_new hp4 (.tup [.str "told",.str z,vt])
    have t5:=same_new hp5 (.tup [.ref p3,.ref p4])
    have t35:=t3.trans (t4.trans t5)
    exact q _ _ (.told z k) (s12.trans t35) ⟨p5,_,_,rfl,upd_same,.t ((t4.trans t5) _ _ upd_same) (.cons (.s _) (.cons (.s _) (.cons (hd.same t35) .nil))),.n (t5 _ _ upd_same) (.cons (.w _) (.cons (.w _) (.cons (ht.same t35) .nil)))⟩ ⟨hz,hk⟩
  · have m0:=Int.emod_nonneg (c / 3) (b:=(m:Int) + 1) (by omega)
    have m1:=Int.emod_lt_of_pos (c / 3) (b:=(m:Int) + 1) (by omega)
    obtain ⟨j,ej,hj⟩:∃ j:Nat,(c / 3 % ((m:Int) + 1):Int) = j ∧ j ≤ 4:=⟨(c / 3 % ((m:Int) + 1)).toNat,by omega,by omega⟩
    refine ⟨_,rfl,_,_,rfl,rfl,⟨by decide,by decide⟩,_,rfl,_,_,rfl,rfl,⟨by decide,by decide⟩,_,rfl,_,_,rfl,rfl,_,_,rfl,rfl,(by show (0:Int) < (m:Int) + 1; omega),_,j,(by show [V.int (c / 19),V.int (c / 3 % ((m:Int) + 1))] = _; rw [ej]),hj,fun H3 p3 ks s3 hks hkl => ?_⟩
    obtain ⟨⟨l1,l2,xs,ys,hp3,g1,g2,hxs,hys⟩,hok⟩:=hks
    refine ⟨p3,_,rfl,SqT.of hp3,rfl,_,_,rfl,_,_,rfl,rfl,?_⟩
    refine ⟨_,rfl,_,rfl,l1,xs,rfl,.inl ⟨SqL.of g1,fun p4 hp4 => ⟨_,rfl,(by show 4 ≤ sizeLine; decide),fun p5 hp5 => ?_⟩⟩⟩
    have t4:=same_new hp4 (.tup xs)
    have t5:=same_new hp5 (.tup [.str "fun",.str z,.ref p4,vd])
    refine ⟨_,rfl,_,rfl,l2,ys,rfl,.inl ⟨SqL.of ((t4.trans t5) _ _ g2),fun p6 hp6 => ⟨_,rfl,(by show 4 ≤ sizeLine; decide),fun p7 hp7 => ⟨(by show 2 ≤ sizeLine; decide),fun p8 hp8 => ?_⟩⟩⟩⟩
    have t6:=same_new hp6 (.tup ys)
    have t7:=same_new hp7 (.tup [.str "fun",.str z,.ref p6,vt])
    have t8:=same_new hp8 (.tup [.ref p5,.ref p7])
    have t68:=t6.trans (t7.trans t8)
    have t48:=t4.trans (t5.trans t68)
    exact q _ _ (.fn z ks k) (s12.trans (s3.trans t48)) ⟨p8,_,_,rfl,upd_same,.t (t68 _ _ upd_same) (.cons (.s _) (.cons (.s _) (.cons (.t ((t5.trans t68) _ _ upd_same) (hxs.same t48)) (.cons (hd.same (s3.trans t48)) .nil)))),.n (t8 _ _ upd_same) (.cons (.w _) (.cons (.w _) (.cons (.n ((t7.trans t8) _ _ upd_same) (hys.same t48)) (.cons (ht.same (s3.trans t48)) .nil))))⟩ ⟨hz,⟨by omega,hok⟩,hk⟩
noncomputable abbrev pilN:List Str:=["_law_cell_here","_law_most","_law_word","_law_kind_here","_law_tree","_law_rows_here","_law_trees","_law_body"]
theorem scPIL:FnScope pilN ["_law_cell_here","_law_most"] (defScope sPIL):=⟨rfl,rfl,rfl,by decide +kernel,rfl,by decide +kernel,by decide +kernel⟩
set_option maxHeartbeats 0 in
theorem ok_piL {f fn fk fm fe:Addr} {fd fdn fdk fdm fde:FuncData} (F:Fun K "_law_part_item" "_law_part_item" sPIL f fd)
    (GN:FnOk P w K mg base CX0 1 fn fdn ["_law_cell_here"] spNameL) (bN:Binds K fdn ["_law_cell_here"] []) (kN:PySem.W.keepIn K (.ref fn) = true) (mN:mg "_law_name" = some (.ref fn))
    (GK:FnOk P w K mg base CX0 2 fk fdk ["_law_cell_here"] (spKindL K)) (bK:Binds K fdk ["_law_cell_here"] []) (kK:PySem.W.keepIn K (.ref fk) = true) (mK:mg "_law_kind" = some (.ref fk))
    (GM:FnOk P w K mg base CX0 4 fm fdm ["_law_cell_here","_law_many"] (spRowsL K)) (bM:Binds K fdm ["_law_cell_here","_law_many"] []) (kM:PySem.W.keepIn K (.ref fm) = true) (mM:mg "_law_rows" = some (.ref fm))
    (GE:FnOk P w K mg base CX0 2 fe fde ["_law_cell_here"] (spExL K)) (bE:Binds K fde ["_law_cell_here"] []) (kE:PySem.W.keepIn K (.ref fe) = true) (mE:mg "_law_expression" = some (.ref fe)):FnOk P w K mg base CX0 5 f fd ["_law_cell_here","_law_most"] (spPIL K):=by
  refine F.ok scPIL (fun vs H Q E h => ?_) (fun cdv A outer s H vs Q E hr h => ?_)
  · obtain ⟨c,m,rfl,_⟩:=h
    rfl
  obtain ⟨c,m,rfl,hm,q⟩:=h
  have hr1:Room 1 _:=hr.mono (by decide)
  have hr2:Room 2 _:=hr.mono (by decide)
  refine ⟨_,pss_cons (ps_set (i:=2) scPIL.nd rfl (Or.inl rfl) (pe_call GN hr1 rfl mN kN bN .nil pass0 (pa_cons (pe_op op_fdiv (pv 0) pe_int) pa_nil)))
    (pss_cons (ps_asg (pe_call GK hr2 rfl mK kK bK .nil pass0 (pa_cons (pe_op op_fdiv (pv 0) pe_int) pa_nil)) (pg_two (K:=K) (i:=3) (j:=4) rfl rfl scPIL.nd rfl (Or.inl rfl) (Or.inl rfl) rfl (Or.inl rfl) (Or.inl rfl)))
    (pss_cons (ps_if (pt_cmpR op_eq (pe_op op_mod (pv 0) pe_int) pe_int (nomark _)) (pss_one (ps_ret (pe_tup (pa_cons (pe_tup (pa_cons pe_str (pa_cons (pv 2) (pa_cons (pv 3) pa_nil)))) (pa_cons (pe_tup (pa_cons pe_str (pa_cons (pv 2) (pa_cons (pv 4) pa_nil)))) pa_nil))))) pss_nil)
    (pss_cons (ps_if (pt_cmpR op_eq (pe_op op_mod (pv 0) pe_int) pe_int (nomark _)) (pss_one (ps_ret (pe_tup (pa_cons (pe_tup (pa_cons pe_str (pa_cons (pv 2) pa_nil))) (pa_cons (pe_tup (pa_cons pe_str (pa_cons (pv 2) pa_nil))) pa_nil))))) pss_nil)
    (pss_cons (ps_asg (pe_call GM hr rfl mM kM bM .nil pass0 (pa_cons (pe_op op_fdiv (pv 0) pe_int) (pa_cons (pe_op op_mod (pe_op op_fdiv (pv 0) pe_int) (pe_op op_add (pv 1) pe_int)) pa_nil))) (pg_two (K:=K) (i:=5) (j:=6) rfl rfl scPIL.nd rfl (Or.inl rfl) (Or.inl rfl) rfl (Or.inl rfl) (Or.inl rfl)))
    (pss_cons (ps_set (i:=7) scPIL.nd rfl (Or.inl rfl) (pe_call GE hr2 rfl mE kE bE .nil pass0 (pa_cons (pe_op op_fdiv (pv 0) pe_int) pa_nil)))
    (pss_one (ps_ret (pe_tup (pa_cons (pe_tup (pa_cons pe_str (pa_cons (pv 2) (pa_cons (pv 5) (pa_cons (pv 3) (pa_cons (pe_ix ix_tup (pv 7) pe_int (fun _ _ => rfl)) pa_nil)))))) (pa_cons (pe_tup (pa_cons pe_str (pa_cons (pv 2) (pa_cons (pv 6) (pa_cons (pv 4) (pa_cons (pe_ix ix_tup (pv 7) pe_int (fun _ _ => rfl)) pa_nil)))))) pa_nil)))))))))),?_⟩
  refine ⟨_,rfl,_,_,rfl,rfl,⟨by decide,by decide⟩,_,rfl,fun H1 z s1 hz => ?_⟩
  refine ⟨_,rfl,_,_,rfl,rfl,⟨by decide,by decide⟩,_,rfl,fun H2 v k s2 hv hk => ?_⟩
  obtain ⟨p,vd,vt,rfl,hp,hd,ht⟩:=hv
  have s12:=s1.trans s2
  refine ⟨p,_,rfl,SqT.of hp,rfl,_,_,rfl,_,_,rfl,rfl,?_⟩
  refine ⟨_,rfl,_,_,rfl,rfl,(by show (0:Int) < 3; decide),rfl,_,rfl,ite2 (fun _ => ?_) (fun _ => ?_)⟩
  · refine ⟨_,rfl,_,rfl,(by show 3 ≤ sizeLine; decide),fun p3 hp3 => ⟨_,rfl,_,rfl,(by show 3 ≤ sizeLine; decide),fun p4 hp4 => ⟨(by show 2 ≤ sizeLine; decide),fun p5 hp5 => ?_⟩⟩⟩
    have t3:=same_new hp3 (.tup [.str "kind",.str z,vd])
    have t4:=same_new hp4 (.tup [.str "kind",.str z,vt])
    have t5:=same_new hp5 (.tup [.ref p3,.ref p4])
    have t35:=t3.trans (t4.trans t5)
    exact q _ _ (.kind z k) (s12.trans t35) ⟨p5,_,_,rfl,upd_same,.t ((t4.trans t5) _ _ upd_same) (.cons (.s _) (.cons (.s _) (.cons (hd.same t35) .nil))),.n (t5 _ _ upd_same) (.cons (.w _) (.cons (.w _) (.cons (ht.same t35) .nil)))⟩ ⟨hz,hk⟩
  refine ⟨_,rfl,_,_,rfl,rfl,(by show (0:Int) < 3; decide),rfl,_,rfl,ite2 (fun _ => ?_) (fun _ => ?_)⟩
  · refine ⟨_,rfl,(by show 2 ≤ sizeLine; decide),fun p3 hp3 => ⟨_,rfl,(by show 2 ≤ sizeLine; decide),fun p4 hp4 => ⟨(by show 2 ≤ sizeLine; decide),fun p5 hp5 => ?_⟩⟩⟩
    have t3:=same_new hp3 (.tup [.str "open",.str z])
    have t4:=same_new hp4 (.tup [.str "open",.str z])
    have t5:=same_new hp5 (.tup [.ref p3,.ref p4])
    exact q _ _ (.opn z) (s12.trans (t3.trans (t4.trans t5))) ⟨p5,_,_,rfl,upd_same,.t ((t4.trans t5) _ _ upd_same) (.cons (.s _) (.cons (.s _) .nil)),.n (t5 _ _ upd_same) (.cons (.w _) (.cons (.w _) .nil))⟩ hz
  · have m0:=Int.emod_nonneg (c / 3) (b:=(m:Int) + 1) (by omega)
    have m1:=Int.emod_lt_of_pos (c / 3) (b:=(m:Int) + 1) (by omega)
    obtain ⟨j,ej,hj⟩:∃ j:Nat,(c / 3 % ((m:Int) + 1):Int) = j ∧ j ≤ 4:=⟨(c / 3 % ((m:Int) + 1)).toNat,by omega,by omega⟩
    refine ⟨_,rfl,_,_,rfl,rfl,⟨by decide,by decide⟩,_,rfl,_,_,rfl,rfl,⟨by decide,by decide⟩,_,rfl,_,_,rfl,rfl,_,_,rfl,rfl,(by show (0:Int) < (m:Int) + 1; omega),_,j,(by show [V.int (c / 19),V.int (c / 3 % ((m:Int) + 1))] = _; rw [ej]),hj,fun H3 v3 rs s3 hv3 hrs => ?_⟩
    obtain ⟨p3,wd,wt,rfl,hp3,hwd,hwt⟩:=hv3
    refine ⟨p3,_,rfl,SqT.of hp3,rfl,_,_,rfl,_,_,rfl,rfl,?_⟩
    refine ⟨_,rfl,_,_,rfl,rfl,⟨by decide,by decide⟩,_,rfl,fun H4 v4 e s4 hv4 he => ?_⟩
    obtain ⟨p4,ud,ut,rfl,hp4,hud,hut⟩:=hv4
    refine ⟨_,rfl,_,rfl,_,rfl,_,rfl,p4,_,_,ud,rfl,rfl,SqT.of hp4,rfl,(by show 5 ≤ sizeLine; decide),fun p5 hp5 => ?_⟩
    have t5:=same_new hp5 (.tup [.str "fun",.str z,wd,vd,ud])
    refine ⟨_,rfl,_,rfl,_,rfl,_,rfl,p4,_,_,ut,rfl,rfl,SqT.of (t5 _ _ hp4),rfl,(by show 5 ≤ sizeLine; decide),fun p6 hp6 => ⟨(by show 2 ≤ sizeLine; decide),fun p7 hp7 => ?_⟩⟩
    have t6:=same_new hp6 (.tup [.str "fun",.str z,wt,vt,ut])
    have t7:=same_new hp7 (.tup [.ref p5,.ref p6])
    have t57:=t5.trans (t6.trans t7)
    have t47:=s4.trans t57
    exact q _ _ (.fn z rs k e) (s12.trans (s3.trans t47)) ⟨p7,_,_,rfl,upd_same,.t ((t6.trans t7) _ _ upd_same) (.cons (.s _) (.cons (.s _) (.cons (hwd.same t47) (.cons (hd.same (s3.trans t47)) (.cons (hud.same t57) .nil))))),.n (t7 _ _ upd_same) (.cons (.w _) (.cons (.w _) (.cons (hwt.same t47) (.cons (ht.same (s3.trans t47)) (.cons (hut.same t57) .nil)))))⟩ ⟨hz,hrs,hk,he⟩
end
end K17
namespace K17
open PySem L2
theorem ints_ex:∀ {ys:List V},(∀ (i:Nat) (v:V),ys[i]? = some v → ∃ c:Int,v = .int c) → ∃ cs:List Int,ys = cs.map V.int
  | [],_ => ⟨[],rfl⟩
  | y :: ys,h => by
    obtain ⟨z,rfl⟩:=h 0 y rfl
    obtain ⟨ws,rfl⟩:=ints_ex (ys:=ys) fun i v hv => h (i + 1) v hv
    exact ⟨z :: ws,rfl⟩
theorem cut_one (cs:List Int):cutV (cs.map V.int) none (some 1) = (cs.take 1).map V.int:=by
  show List.take (HT.sIx (cs.map V.int).length (cs.map V.int).length (some ((1:Nat):Int)) - 0) (List.drop 0 (cs.map V.int)) = _
  rw [HT.sIx_nat,List.drop_zero,List.map_take,Nat.sub_zero]
  by_cases h:1 ≤ (cs.map V.int).length
  · rw [Nat.min_eq_left h]
  · rw [Nat.min_eq_right (by omega),List.take_of_length_le (Nat.le_refl _),List.take_of_length_le (by omega)]
theorem rep_ints (m:Nat) (cs:List Int):(List.replicate m (cs.map V.int)).flatten = ((List.replicate m cs).flatten).map V.int:=by
  rw [List.map_flatten,List.map_replicate]
theorem prs_same {α:Type} {K:PySem.W.Frag} {H H':Hp} {D:α → Dd} {T:α → Tr} {xs:List V} {as:List α} (e:Same H H') (h:PrsAt K H D T xs as):PrsAt K H' D T xs as:=⟨h.1,fun i v a hv ha => (h.2 i v a hv ha).same e⟩
theorem prs_keep {α:Type} {K:PySem.W.Frag} {H H':Hp} {D:α → Dd} {T:α → Tr} {xs:List V} {as:List α} (k:∀ a xs,H a = some (.tup xs) → H' a = some (.tup xs)) (h:PrsAt K H D T xs as):PrsAt K H' D T xs as:=⟨h.1,fun i v a hv ha => (h.2 i v a hv ha).keep k⟩
theorem prs_at {α:Type} {K:PySem.W.Frag} {H:Hp} {D:α → Dd} {T:α → Tr} {xs:List V} {as:List α} (h:PrsAt K H D T xs as) {i:Nat} {v:V} (hv:xs[i]? = some v):∃ a,as[i]? = some a ∧ Pr K H v (D a) (T a):=by
  have hl:=(List.getElem?_eq_some_iff.mp hv).1
  rw [h.1] at hl
  exact ⟨_,List.getElem?_eq_getElem hl,h.2 i v _ hv (List.getElem?_eq_getElem hl)⟩
section
variable {P:Program} {w:World} {K:PySem.W.Frag} {mg:Str → Option Value} {base:Heap}
noncomputable abbrev foN:List Str:=["_law_cell_here","_law_found","_law_k","_law_word","_law_want_here"]
theorem scFormalsL:FnScope foN ["_law_cell_here"] (defScope sFormalsL):=⟨rfl,rfl,rfl,by decide +kernel,rfl,by decide +kernel,by decide +kernel⟩
set_option maxHeartbeats 0 in
theorem ok_formalsL {f fn fk:Addr} {fd fdn fdk:FuncData} (F:Fun K "_law_formals" "_law_formals" sFormalsL f fd)
    (GN:FnOk P w K mg base CX0 1 fn fdn ["_law_cell_here"] spNameL) (bN:Binds K fdn ["_law_cell_here"] []) (kN:PySem.W.keepIn K (.ref fn) = true) (mN:mg "_law_name" = some (.ref fn))
    (GK:FnOk P w K mg base CX0 5 fk fdk ["_law_cell_here","_law_many"] (spWantL K)) (bK:Binds K fdk ["_law_cell_here","_law_many"] []) (kK:PySem.W.keepIn K (.ref fk) = true) (mK:mg "_law_want" = some (.ref fk))
    (mr:mg "range" = none) (mI:mg "int" = none) (mt:mg "tuple" = none):FnOk P w K mg base CX0 6 f fd ["_law_cell_here"] (spFormalsL K):=by
  refine F.ok scFormalsL (fun vs H Q E h => ?_) (fun cdv A outer s H vs Q E hr h => ?_)
  · obtain ⟨c,rfl,_⟩:=h
    rfl
  obtain ⟨c,rfl,q⟩:=h
  have hr1:Room 1 _:=hr.mono (by decide)
  refine ⟨_,pss_cons (ps_set (i:=1) scFormalsL.nd rfl (Or.inl rfl) (pe_lst pa_nil))
    (pss_cons (ps_for PassesOwn.never rfl (pi_range1 rfl mr (pa_cons (pe_op op_add pe_int (pe_op op_mod (pv 0) pe_int)) pa_nil)) (pg_name (i:=2) scFormalsL.nd rfl (Or.inl rfl))
      (pss_cons (ps_set (i:=3) scFormalsL.nd rfl (Or.inl rfl) (pe_call GN hr1 rfl mN kN bN .nil pass0 (pa_cons (pe_op op_add (pe_op op_fdiv (pv 0) pe_int) (pe_op op_mul (pe_op op_mul pe_int (pv 2)) (pe_callTy call_int1 rfl mI bootInt (pa_cons (pe_cmpR op_gt (pe_op op_mod (pv 0) pe_int) pe_int (nomark _)) pa_nil)))) pa_nil)))
      (pss_cons (ps_set (i:=4) scFormalsL.nd rfl (Or.inl rfl) (pe_call GK hr rfl mK kK bK .nil pass0 (pa_cons (pe_op op_fdiv (pv 0) (pe_op op_add pe_int (pv 2))) (pa_cons (pe_op op_mod (pe_op op_fdiv (pv 0) pe_int) pe_int) pa_nil))))
      (pss_one (ps_expr (pe_bm PySem.F.plainAttrs_list PySem.F.slot_list_append PySem.F.type_list_append mt_append (pv 1) (pa_cons (pe_tup (pa_cons (pe_tup (pa_cons (pv 3) (pa_cons (pe_ix ix_tup (pv 4) pe_int (fun _ _ => rfl)) pa_nil))) (pa_cons (pe_op op_catT (pe_tup (pa_cons (pv 3) pa_nil)) (pe_ix ix_tup (pv 4) pe_int (fun _ _ => rfl))) pa_nil))) pa_nil)))))))
    (pss_one (ps_ret (pe_tup (pa_cons (pe_callTy call_tuple_of rfl mt bootTuple (pa_cons (pe_comp (own:=["_law_one"]) (caps:=[]) (κ:=[]) (cl:=[]) rfl ⟨rfl,by decide +kernel,by decide +kernel,rfl,rfl,(fun y hy => nomatch hy),(fun y hy => nomatch hy)⟩ rfl (pi_list (pv 1))
        (fun _ _ _ _ => pg_name (i:=0) (show (["_law_one"]:List Str).Nodup from by decide +kernel) rfl (Or.inl rfl)) (fun _ _ _ _ => pe_ix (r:=rIxT K) ix_tup (pv 0) pe_int (fun _ _ => rfl))) pa_nil)) (pa_cons (pe_callTy call_tuple_of rfl mt bootTuple (pa_cons (pe_comp (own:=["_law_one"]) (caps:=[]) (κ:=[]) (cl:=[]) rfl ⟨rfl,by decide +kernel,by decide +kernel,rfl,rfl,(fun y hy => nomatch hy),(fun y hy => nomatch hy)⟩ rfl (pi_list (pv 1))
        (fun _ _ _ _ => pg_name (i:=0) (show (["_law_one"]:List Str).Nodup from by decide +kernel) rfl (Or.inl rfl)) (fun _ _ _ _ => pe_ix (r:=rIxT K) ix_tup (pv 0) pe_int (fun _ _ => rfl))) pa_nil)) pa_nil)))))),?_⟩
  refine ⟨(by show 0 ≤ sizeLine; decide),fun l hl => ?_⟩
  have s0:=same_new hl (.lst [])
  have c0:0 ≤ c % 4:=Int.emod_nonneg _ (by decide)
  have c1:c % 4 < 4:=Int.emod_lt_of_pos _ (by decide)
  refine ⟨_,rfl,_,_,rfl,rfl,(by show (0:Int) < 4; decide),_,_,rfl,rfl,_,rfl,by omega,by omega,for_range (lo:=0) (n:=(1 + c % 4).toNat) (fun i σ H4 => ∃ (xs:List V) (fs:List Fo) (v2 v3 v4:Option V),σ = [some (.int c),some (.ref l),v2,v3,v4] ∧ Same H H4 ∧ H4 l = some (.lst xs) ∧ PrsAt K H4 foD foT xs fs ∧ fs.length = i ∧ ∀ f ∈ fs,foOk f)
    ⟨[],[],none,none,none,rfl,s0,upd_same,⟨rfl,fun i v a h => nomatch h⟩,rfl,fun f hf => nomatch hf⟩ ?_ ?_⟩
  · rintro i σ H4 hi ⟨xs,fs,v2,v3,v4,rfl,s4,hl4,hps,hfl,hok⟩
    have xl:=hps.1
    refine ⟨_,rfl,_,_,rfl,rfl,⟨by decide,by decide⟩,_,rfl,_,_,rfl,rfl,.inl ⟨by decide,by decide⟩,_,rfl,_,_,rfl,rfl,(by show (0:Int) < 3; decide),_,_,rfl,rfl,.inr ⟨_,rfl,_,_,rfl,rfl,.inl ⟨by omega,by omega⟩,_,_,rfl,rfl,_,rfl,fun H5 z s5 hz => ?_⟩⟩
    obtain ⟨j,ej,hj⟩:∃ j:Nat,(c / 4 % 4:Int) = j ∧ j ≤ 4:=⟨(c / 4 % 4).toNat,by omega,by omega⟩
    refine ⟨_,rfl,_,rfl,_,_,rfl,rfl,_,_,rfl,rfl,⟨by show (0:Int) < 5 + (0 + (i:Int)); omega,by show 5 + (0 + (i:Int)) < (1073741824:Int); omega⟩,_,rfl,_,_,rfl,rfl,⟨by decide,by decide⟩,_,_,rfl,rfl,(by show (0:Int) < 4; decide),_,j,(by show [V.int (c / (5 + (0 + (i:Int)))),V.int (c / 4 % 4)] = _; rw [ej]),hj,fun H6 v r s6 hv hr' => ?_⟩
    obtain ⟨p,vd,vt,rfl,hp,hd,ht⟩:=hv
    obtain ⟨b,us,rfl,hb,hus⟩:=ht.node
    have ul:=hus.length
    have ul2:r.ts.length = r.rows.length + 1:=by
      show (_ :: r.rows.map rwT).length = _
      rw [List.length_cons,List.length_map]
    have r4:=hr'.2.1
    have s46:=s5.trans s6
    refine ⟨_,rfl,.inl ⟨rfl,_,SqL.of (s46 _ _ hl4)⟩,_,rfl,_,rfl,p,_,_,vd,rfl,rfl,SqT.of hp,rfl,(by show 2 ≤ sizeLine; decide),fun p7 hp7 => ?_⟩
    have s7:=same_new hp7 (.tup [.str z,vd])
    refine ⟨_,rfl,(by show 1 ≤ sizeLine; decide),fun p8 hp8 => ?_⟩
    have s8:=same_new hp8 (.tup [.str z])
    refine ⟨_,rfl,p,_,_,.ref b,rfl,rfl,SqT.of ((s7.trans s8) _ _ hp),rfl,?_⟩
    refine cat_go upd_same ((s7.trans s8) _ _ hb) (by simp) (by show 1 + us.length ≤ 1000; omega) fun H9 p9 s9 h9 => ⟨(by show 2 ≤ sizeLine; decide),fun p10 hp10 => ?_⟩
    have s10:=same_new hp10 (.tup [.ref p7,.ref p9])
    have s810:=s8.trans (s9.trans s10)
    have s710:=s7.trans s810
    have s410:=s46.trans s710
    have hl10:=s410 _ _ hl4
    have kp:∀ a ys,upd H9 p10 (.tup [.ref p7,.ref p9]) a = some (.tup ys) → upd (upd H9 p10 (.tup [.ref p7,.ref p9])) l (.lst (xs ++ [.ref p10])) a = some (.tup ys):=fun a ys h => tup_upd hl10 h
    have hpr:Pr K (upd H9 p10 (.tup [.ref p7,.ref p9])) (.ref p10) (foD (z,r)) (foT (z,r)):=⟨p10,_,_,rfl,upd_same,.t (s810 _ _ upd_same) (.cons (.s _) (.cons (hd.same s710) .nil)),.n (s10 _ _ h9) (.cons (.w _) (hus.same s710))⟩
    refine ⟨l,_,_,rfl,rfl,hl10,mid (by omega),xs ++ [.ref p10],fs ++ [(z,r)],_,_,_,rfl,sput (s4.trans s410) hl,upd_same,prs_snoc (prs_keep kp (prs_same s410 hps)) (hpr.keep kp),by rw [List.length_append,hfl]; rfl,fun f hf => ?_⟩
    rcases List.mem_append.mp hf with h | h
    · exact hok f h
    · rw [List.mem_singleton.mp h]
      exact ⟨hz,hr'⟩
  · rintro σ H4 ⟨xs,fs,v2,v3,v4,rfl,s4,hl4,hps,hfl,hok⟩
    have xl:=hps.1
    refine ⟨_,rfl,l,rfl,⟨_,SqL.of hl4⟩,?_⟩
    refine comp_eachL (xs:=xs) (fun i H v => ∀ d,fs[i]? = some d → DAt H v (foD d)) (fun i H H' v e h d hd => (h d hd).same e) (SqL.of hl4) (by omega) ?_ ?_
    · intro i u H5 N B hu s5 hN
      obtain ⟨f,hf,p,vd,vt,rfl,hp,hd,ht⟩:=prs_at hps hu
      refine ⟨rfl,tYes_go ⟨_,rfl,p,_,_,vd,rfl,rfl,SqT.of (s5 _ _ hp),rfl,hN _ _ (Same.refl _) fun d hd2 => ?_⟩⟩
      rw [hf] at hd2
      cases hd2
      exact hd.same s5
    · intro zs H5 D s5 hzl hzz hD
      have hzs:DsAt H5 zs (fs.map foD):=DsAt.of (by rw [hzl,xl,List.length_map]) fun i v d hv hd => by
        obtain ⟨k0,hk0,rfl⟩:=map_get hd
        exact hzz i v hv k0 hk0
      have sD:=same_new hD (.lst zs)
      refine ⟨D,zs,rfl,.inl ⟨SqL.of upd_same,fun l6 hl6 => ?_⟩⟩
      have s6:=same_new hl6 (.tup zs)
      have s56:=s5.trans (sD.trans s6)
      refine ⟨_,rfl,l,rfl,⟨_,SqL.of (s56 _ _ hl4)⟩,?_⟩
      refine comp_eachL (xs:=xs) (fun i H v => ∀ d,fs[i]? = some d → TrAt K H v (foT d)) (fun i H H' v e h d hd => (h d hd).same e) (SqL.of (s56 _ _ hl4)) (by omega) ?_ ?_
      · intro i u H7 N B hu s7 hN
        obtain ⟨f,hf,p,vd,vt,rfl,hp,hd,ht⟩:=prs_at hps hu
        refine ⟨rfl,tYes_go ⟨_,rfl,p,_,_,vt,rfl,rfl,SqT.of ((s56.trans s7) _ _ hp),rfl,hN _ _ (Same.refl _) fun d hd2 => ?_⟩⟩
        rw [hf] at hd2
        cases hd2
        exact ht.same (s56.trans s7)
      · intro ts H7 D7 s7 htl htt hD7
        have hts:TrsAt K H7 ts (fs.map foT):=trsAt_of (by rw [htl,xl,List.length_map]) fun i v d hv hd => by
          obtain ⟨k0,hk0,rfl⟩:=map_get hd
          exact htt i v hv k0 hk0
        have sD7:=same_new hD7 (.lst ts)
        refine ⟨D7,ts,rfl,.inl ⟨SqL.of upd_same,fun l8 hl8 => ⟨(by show 2 ≤ sizeLine; decide),fun p9 hp9 => ?_⟩⟩⟩
        have s8:=same_new hl8 (.tup ts)
        have s9:=same_new hp9 (.tup [.ref l6,.ref l8])
        have s79:=s7.trans (sD7.trans (s8.trans s9))
        exact q _ _ fs (s4.trans (s56.trans s79)) ⟨p9,_,_,rfl,upd_same,.t (s79 _ _ upd_same) (hzs.same (sD.trans (s6.trans s79))),.n (s9 _ _ upd_same) (hts.same (sD7.trans (s8.trans s9)))⟩ (by omega) (by omega) hok
end
end K17
namespace K17
open PySem L2
noncomputable def spDeclL (K:PySem.W.Frag):Sp:=fun vs H Q _ => ∃ (a:Addr) (ns:List Int) (b:Int),vs = [.ref a,.int b] ∧ SqL K H a (ns.map V.int) ∧ ns.length ≤ 63 ∧ 0 ≤ b ∧ b ≤ 100 ∧ ∀ H' v (d:Dc),Same H H' → Pr K H' v d.d d.tr → d.ok → d.many ≤ 16 → (d.many ≤ 3 ∨ (b = 1 ∧ cellOf ns 0 % 8 = 1)) → Q v H'
section
variable {P:Program} {w:World} {K:PySem.W.Frag} {mg:Str → Option Value} {base:Heap}
noncomputable abbrev dlN:List Str:=["_law_script","_law_base","_law_head","_law_word","_law_many","_law_most","_law_cells","_law_items","_law_front","_law_seal_here","_law_formals_here","_law_parts"]
theorem scDeclL:FnScope dlN ["_law_script","_law_base"] (defScope sDeclL):=⟨rfl,rfl,rfl,by decide +kernel,rfl,by decide +kernel,by decide +kernel⟩
set_option maxHeartbeats 0 in
theorem ok_declL {f fc fn ff fp fs fo:Addr} {fd fdc fdn fdf fdp fds fdo:FuncData} (F:Fun K "_law_declaration" "_law_declaration" sDeclL f fd)
    (GC:FnOk P w K mg base CX0 1 fc fdc ["_law_script","_law_k"] (spCellX K)) (bC:Binds K fdc ["_law_script","_law_k"] []) (kC:PySem.W.keepIn K (.ref fc) = true) (mC:mg "_law_cell" = some (.ref fc))
    (GN:FnOk P w K mg base CX0 1 fn fdn ["_law_cell_here"] spNameL) (bN:Binds K fdn ["_law_cell_here"] []) (kN:PySem.W.keepIn K (.ref fn) = true) (mN:mg "_law_name" = some (.ref fn))
    (GF:FnOk P w K mg base CX0 4 ff fdf ["_law_cell_here","_law_most"] (spFIL K)) (bF:Binds K fdf ["_law_cell_here","_law_most"] []) (kF:PySem.W.keepIn K (.ref ff) = true) (mF:mg "_law_face_item" = some (.ref ff))
    (GP:FnOk P w K mg base CX0 5 fp fdp ["_law_cell_here","_law_most"] (spPIL K)) (bP:Binds K fdp ["_law_cell_here","_law_most"] []) (kP:PySem.W.keepIn K (.ref fp) = true) (mP:mg "_law_part_item" = some (.ref fp))
    (GS:FnOk P w K mg base CX0 6 fs fds ["_law_cell_here"] (spSealL K)) (bS:Binds K fds ["_law_cell_here"] []) (kS:PySem.W.keepIn K (.ref fs) = true) (mS:mg "_law_seal" = some (.ref fs))
    (GO:FnOk P w K mg base CX0 6 fo fdo ["_law_cell_here"] (spFormalsL K)) (bO:Binds K fdo ["_law_cell_here"] []) (kO:PySem.W.keepIn K (.ref fo) = true) (mO:mg "_law_formals" = some (.ref fo))
    (mr:mg "range" = none) (mI:mg "int" = none) (mt:mg "tuple" = none):FnOk P w K mg base CX0 7 f fd ["_law_script","_law_base"] (spDeclL K):=by
  refine F.ok scDeclL (fun vs H Q E h => ?_) (fun cdv A outer s H vs Q E hr h => ?_)
  · obtain ⟨a,ns,b,rfl,_⟩:=h
    rfl
  obtain ⟨a,ns,b,rfl,hS,h63,b0,b1,q⟩:=h
  have hr1:Room 1 _:=hr.mono (by decide)
  have hr4:Room 4 _:=hr.mono (by decide)
  have hr5:Room 5 _:=hr.mono (by decide)
  obtain ⟨t8,d8,k8⟩:∃ t,PSs (cxOf CX0 P w K mg base dlN "_law_declaration" (defScope sDeclL) f cdv A outer s H E).nox (List.drop 8 (defBody sDeclL)) t ∧
      ∀ {α:Type} (D:α → Dd) (T:α → Tr) (H1:Hp) (lf li ra rb:Addr) (us ws xs:List V) (as:List α) (v0 v1 v2 v3 v4 v5 v6 v9 v10 v11:Option V),H1 lf = some (.tup [.ref ra,.ref rb]) → H1 ra = some (.tup us) → H1 rb = some (.tup ws) → us ≠ [] → ws ≠ [] → us.length ≤ 10 → ws.length ≤ 10 → H1 li = some (.lst xs) → PrsAt K H1 D T xs as → as.length ≤ 16 →
        (∀ H2 p Ad Bd Y ys zs,Same H1 H2 → H2 p = some (.tup [.ref Ad,.ref Bd]) → H2 Ad = some (.tup (us ++ [.ref Y])) → H2 Y = some (.tup ys) → DsAt H2 ys (as.map D) → H2 Bd = some (.tup (ws ++ zs)) → TrsAt K H2 zs (as.map T) → Q (.ref p) H2) →
        t { nx:=fun _ H' => Q .non H',rt:=Q } [v0,v1,v2,v3,v4,v5,v6,some (.ref li),some (.ref lf),v9,v10,v11] H1:=by
    refine ⟨_,pss_one (ps_ret (pe_tup (pa_cons (pe_op op_catT (pe_ix ix_tup (pv 8) pe_int (fun _ _ => rfl)) (pe_tup (pa_cons (pe_callTy call_tuple_of rfl mt bootTuple (pa_cons (pe_comp (own:=["_law_item"]) (caps:=[]) (κ:=[]) (cl:=[]) rfl ⟨rfl,by decide +kernel,by decide +kernel,rfl,rfl,(fun y hy => nomatch hy),(fun y hy => nomatch hy)⟩ rfl (pi_list (pv 7))
        (fun _ _ _ _ => pg_name (i:=0) (show (["_law_item"]:List Str).Nodup from by decide +kernel) rfl (Or.inl rfl)) (fun _ _ _ _ => pe_ix (r:=rIxT K) ix_tup (pv 0) pe_int (fun _ _ => rfl))) pa_nil)) pa_nil))) (pa_cons (pe_op op_catT (pe_ix ix_tup (pv 8) pe_int (fun _ _ => rfl)) (pe_callTy call_tuple_of rfl mt bootTuple (pa_cons (pe_comp (own:=["_law_item"]) (caps:=[]) (κ:=[]) (cl:=[]) rfl ⟨rfl,by decide +kernel,by decide +kernel,rfl,rfl,(fun y hy => nomatch hy),(fun y hy => nomatch hy)⟩ rfl (pi_list (pv 7))
        (fun _ _ _ _ => pg_name (i:=0) (show (["_law_item"]:List Str).Nodup from by decide +kernel) rfl (Or.inl rfl)) (fun _ _ _ _ => pe_ix (r:=rIxT K) ix_tup (pv 0) pe_int (fun _ _ => rfl))) pa_nil))) pa_nil)))),?_⟩
    intro α D T H1 lf li ra rb us ws xs as v0 v1 v2 v3 v4 v5 v6 v9 v10 v11 hlf hra hrb une wne u10 w10 hli hps h16 k
    have xl:=hps.1
    refine ⟨_,rfl,lf,_,_,.ref ra,rfl,rfl,SqT.of hlf,rfl,_,rfl,li,rfl,⟨_,SqL.of hli⟩,?_⟩
    refine comp_eachL (xs:=xs) (fun i H v => ∀ d,as[i]? = some d → DAt H v (D d)) (fun i H H' v e h d hd => (h d hd).same e) (SqL.of hli) (by omega) ?_ ?_
    · intro i u H5 N B hu s5 hN
      obtain ⟨f,hf,p,vd,vt,rfl,hp,hd,ht⟩:=prs_at hps hu
      refine ⟨rfl,tYes_go ⟨_,rfl,p,_,_,vd,rfl,rfl,SqT.of (s5 _ _ hp),rfl,hN _ _ (Same.refl _) fun d hd2 => ?_⟩⟩
      rw [hf] at hd2
      cases hd2
      exact hd.same s5
    · intro zs H5 Dd5 s5 hzl hzz hD
      have hzs:DsAt H5 zs (as.map D):=DsAt.of (by rw [hzl,xl,List.length_map]) fun i v d hv hd => by
        obtain ⟨k0,hk0,rfl⟩:=map_get hd
        exact hzz i v hv k0 hk0
      have sD:=same_new hD (.lst zs)
      refine ⟨Dd5,zs,rfl,.inl ⟨SqL.of upd_same,fun l6 hl6 => ⟨(by show 1 ≤ sizeLine; decide),fun p6 hp6 => ?_⟩⟩⟩
      have s6:=same_new hl6 (.tup zs)
      have s6':=same_new hp6 (.tup [.ref l6])
      have s56:=s5.trans (sD.trans (s6.trans s6'))
      refine cat_go (s56 _ _ hra) upd_same une (by show us.length + 1 ≤ 1000; omega) fun H7 p7 s7 h7 => ?_
      have s57:=s56.trans s7
      refine ⟨_,rfl,lf,_,_,.ref rb,rfl,rfl,SqT.of (s57 _ _ hlf),rfl,_,rfl,li,rfl,⟨_,SqL.of (s57 _ _ hli)⟩,?_⟩
      refine comp_eachL (xs:=xs) (fun i H v => ∀ d,as[i]? = some d → TrAt K H v (T d)) (fun i H H' v e h d hd => (h d hd).same e) (SqL.of (s57 _ _ hli)) (by omega) ?_ ?_
      · intro i u H8 N B hu s8 hN
        obtain ⟨f,hf,p,vd,vt,rfl,hp,hd,ht⟩:=prs_at hps hu
        refine ⟨rfl,tYes_go ⟨_,rfl,p,_,_,vt,rfl,rfl,SqT.of ((s57.trans s8) _ _ hp),rfl,hN _ _ (Same.refl _) fun d hd2 => ?_⟩⟩
        rw [hf] at hd2
        cases hd2
        exact ht.same (s57.trans s8)
      · intro ts H8 D8 s8 htl htt hD8
        have hts:TrsAt K H8 ts (as.map T):=trsAt_of (by rw [htl,xl,List.length_map]) fun i v d hv hd => by
          obtain ⟨k0,hk0,rfl⟩:=map_get hd
          exact htt i v hv k0 hk0
        have sD8:=same_new hD8 (.lst ts)
        refine ⟨D8,ts,rfl,.inl ⟨SqL.of upd_same,fun l9 hl9 => ?_⟩⟩
        have s9:=same_new hl9 (.tup ts)
        have s89:=s8.trans (sD8.trans s9)
        refine cat_go ((s57.trans s89) _ _ hrb) upd_same wne (by rw [htl]; omega) fun H10 p10 s10 h10 => ⟨(by show 2 ≤ sizeLine; decide),fun p11 hp11 => ?_⟩
        have s11:=same_new hp11 (.tup [.ref p7,.ref p10])
        have s811:=s89.trans (s10.trans s11)
        have s711:=s7.trans s811
        exact k _ p11 p7 p10 l6 zs ts (s56.trans s711) upd_same (s811 _ _ h7) (s711 _ _ (s6' _ _ upd_same)) (hzs.same (sD.trans (s6.trans (s6'.trans s711)))) (s11 _ _ h10) (hts.same (sD8.trans (s9.trans (s10.trans s11))))
  obtain ⟨t7,d7,k7⟩:∃ t,PSs (cxOf CX0 P w K mg base dlN "_law_declaration" (defScope sDeclL) f cdv A outer s H E).nox (List.drop 7 (defBody sDeclL)) t ∧
      ∀ (H1:Hp) (l:Addr) (cs:List Int) (m ms:Nat) (hd:Int) (z:Str),Same H H1 → H1 l = some (.lst (cs.map V.int)) → cs.length ≤ m → m ≤ 16 → (m ≤ 3 ∨ (b = 1 ∧ cellOf ns 0 % 8 = 1)) → ms ≤ 4 → nameOk z = true →
        t { nx:=fun _ H' => Q .non H',rt:=Q } [some (.ref a),some (.int b),some (.int hd),some (.str z),some (.int m),some (.int ms),some (.ref l),none,none,none,none,none] H1:=by
    refine ⟨_,pss_cons (ps_if (pt_cmpR op_eq (pe_op op_mod (pv 2) pe_int) pe_int (nomark _))
        (pss_cons (ps_comp (i0:=7) scDeclL.nd rfl (Or.inl rfl) (own:=["_law_cell_here"]) (caps:=["_law_most"]) (κ:=[5]) rfl ⟨rfl,by decide +kernel,by decide +kernel,rfl,rfl,(one_of rfl),(one_of ⟨.inl rfl,rfl,.inl rfl⟩)⟩ rfl (pi_list (pv 6))
          (fun _ _ _ _ => pg_name (i:=0) (show (["_law_cell_here","_law_most"]:List Str).Nodup from by decide +kernel) rfl (Or.inl rfl)) (fun _ _ _ _ => pe_call GF hr4 rfl mF kF bF .nil pass0 (pa_cons (pv 0) (pa_cons (pv 1) pa_nil))))
        (pss_one (ps_set (i:=8) scDeclL.nd rfl (Or.inl rfl) (pe_tup (pa_cons (pe_tup (pa_cons pe_str (pa_cons (pv 3) pa_nil))) (pa_cons (pe_tup (pa_cons pe_str (pa_cons (pv 3) pa_nil))) pa_nil))))))
        (pss_one (ps_if (pt_cmpR op_eq (pe_op op_mod (pv 2) pe_int) pe_int (nomark _))
          (pss_cons (ps_comp (i0:=7) scDeclL.nd rfl (Or.inl rfl) (own:=["_law_cell_here"]) (caps:=["_law_most"]) (κ:=[5]) rfl ⟨rfl,by decide +kernel,by decide +kernel,rfl,rfl,(one_of rfl),(one_of ⟨.inl rfl,rfl,.inl rfl⟩)⟩ rfl (pi_list (pv 6))
            (fun _ _ _ _ => pg_name (i:=0) (show (["_law_cell_here","_law_most"]:List Str).Nodup from by decide +kernel) rfl (Or.inl rfl)) (fun _ _ _ _ => pe_call GP hr5 rfl mP kP bP .nil pass0 (pa_cons (pv 0) (pa_cons (pv 1) pa_nil))))
          (pss_cons (ps_set (i:=9) scDeclL.nd rfl (Or.inl rfl) (pe_call GS hr rfl mS kS bS .nil pass0 (pa_cons (pe_call GC hr1 rfl mC kC bC .nil pass0 (pa_cons (pv 0) (pa_cons (pe_op op_add (pv 1) pe_int) pa_nil))) pa_nil)))
          (pss_one (ps_set (i:=8) scDeclL.nd rfl (Or.inl rfl) (pe_tup (pa_cons (pe_tup (pa_cons pe_str (pa_cons (pv 3) (pa_cons (pe_ix ix_tup (pv 9) pe_int (fun _ _ => rfl)) pa_nil)))) (pa_cons (pe_tup (pa_cons pe_str (pa_cons (pv 3) (pa_cons (pe_ix ix_tup (pv 9) pe_int (fun _ _ => rfl)) pa_nil)))) pa_nil)))))))
          (pss_one (ps_if (pt_cmpR op_eq (pe_op op_mod (pv 2) pe_int) pe_int (nomark _))
            (pss_cons (ps_comp (i0:=7) scDeclL.nd rfl (Or.inl rfl) (own:=["_law_cell_here"]) (caps:=["_law_most"]) (κ:=[5]) rfl ⟨rfl,by decide +kernel,by decide +kernel,rfl,rfl,(one_of rfl),(one_of ⟨.inl rfl,rfl,.inl rfl⟩)⟩ rfl (pi_list (pv 6))
              (fun _ _ _ _ => pg_name (i:=0) (show (["_law_cell_here","_law_most"]:List Str).Nodup from by decide +kernel) rfl (Or.inl rfl)) (fun _ _ _ _ => pe_call GP hr5 rfl mP kP bP .nil pass0 (pa_cons (pv 0) (pa_cons (pv 1) pa_nil))))
            (pss_cons (ps_set (i:=9) scDeclL.nd rfl (Or.inl rfl) (pe_call GS hr rfl mS kS bS .nil pass0 (pa_cons (pe_call GC hr1 rfl mC kC bC .nil pass0 (pa_cons (pv 0) (pa_cons (pe_op op_add (pv 1) pe_int) pa_nil))) pa_nil)))
            (pss_cons (ps_set (i:=10) scDeclL.nd rfl (Or.inl rfl) (pe_call GO hr rfl mO kO bO .nil pass0 (pa_cons (pe_call GC hr1 rfl mC kC bC .nil pass0 (pa_cons (pv 0) (pa_cons (pe_op op_add (pv 1) pe_int) pa_nil))) pa_nil)))
            (pss_one (ps_set (i:=8) scDeclL.nd rfl (Or.inl rfl) (pe_tup (pa_cons (pe_tup (pa_cons pe_str (pa_cons (pv 3) (pa_cons (pe_ix ix_tup (pv 10) pe_int (fun _ _ => rfl)) (pa_cons (pe_ix ix_tup (pv 9) pe_int (fun _ _ => rfl)) pa_nil))))) (pa_cons (pe_tup (pa_cons pe_str (pa_cons (pv 3) (pa_cons (pe_ix ix_tup (pv 10) pe_int (fun _ _ => rfl)) (pa_cons (pe_ix ix_tup (pv 9) pe_int (fun _ _ => rfl)) pa_nil))))) pa_nil))))))))
            (pss_cons (ps_set (i:=11) scDeclL.nd rfl (Or.inl rfl) (pe_callTy call_tuple_of rfl mt bootTuple (pa_cons (pe_comp (own:=["_law_k"]) (caps:=["_law_head"]) (κ:=[2]) rfl ⟨rfl,by decide +kernel,by decide +kernel,rfl,rfl,(one_of rfl),(one_of ⟨.inl rfl,rfl,.inl rfl⟩)⟩ rfl
              (pi_range1 rfl mr (pa_cons (pe_op op_add pe_int (pe_op op_mod (pe_op op_fdiv (pv 2) pe_int) pe_int)) pa_nil)) (fun _ _ _ _ => pg_name (i:=0) (show (["_law_k","_law_head"]:List Str).Nodup from by decide +kernel) rfl (Or.inl rfl))
              (fun _ _ _ _ => pe_call GN hr1 rfl mN kN bN .nil pass0 (pa_cons (pe_op op_add (pe_op op_fdiv (pv 1) pe_int) (pe_op op_mul (pe_op op_mul pe_int (pv 0)) (pe_callTy call_int1 rfl mI bootInt (pa_cons (pe_cmpR op_gt (pe_op op_mod (pe_op op_fdiv (pv 1) pe_int) pe_int) pe_int (nomark _)) pa_nil)))) pa_nil))) pa_nil)))
            (pss_cons (ps_set (i:=8) scDeclL.nd rfl (Or.inl rfl) (pe_tup (pa_cons pe_str (pa_cons (pv 3) (pa_cons (pe_call GN hr1 rfl mN kN bN .nil pass0 (pa_cons (pe_call GC hr1 rfl mC kC bC .nil pass0 (pa_cons (pv 0) (pa_cons (pe_op op_add (pv 1) pe_int) pa_nil))) pa_nil)) pa_nil)))))
            (pss_one (ps_ret (pe_tup (pa_cons (pe_op op_catT (pv 8) (pe_tup (pa_cons (pv 11) pa_nil))) (pa_cons (pe_op op_catT (pv 8) (pv 11)) pa_nil))))))))))))
      d8,?_⟩
    intro H1 l cs m ms hd z s1 hl hcl hm16 hmm hms hz
    have hl':(cs.map V.int).length = cs.length:=List.length_map _
    have items:∀ {α:Type} (D:α → Dd) (T:α → Tr) (ok:α → Prop) (ys:List V) (H2:Hp),(∀ (i:Nat) (v:V),ys[i]? = some v → ∃ x,Pr K H2 v (D x) (T x) ∧ ok x) → ys.length = (cs.map V.int).length → ∃ as:List α,PrsAt K H2 D T ys as ∧ (∀ x ∈ as,ok x) ∧ as.length ≤ m:=fun D T ok ys H2 h hl2 => by
      obtain ⟨as,h1,h2⟩:=prs_ex h
      exact ⟨as,h1,h2,by rw [← h1.1,hl2,hl']; exact hcl⟩
    refine ⟨_,rfl,_,_,rfl,rfl,(by show (0:Int) < 4; decide),rfl,_,rfl,ite2 (fun _ => ?_) (fun _ => ?_)⟩
    · -- a face
      refine ⟨_,rfl,l,rfl,⟨_,SqL.of hl⟩,?_⟩
      refine comp_eachL (xs:=cs.map V.int) (fun i H v => ∃ x:FI,Pr K H v x.d x.tr ∧ x.ok) (fun i H H' v e h => by obtain ⟨x,h1,h2⟩:=h; exact ⟨x,h1.same e,h2⟩) (SqL.of hl) (by omega) ?_ ?_
      · intro i u H5 N B hu s5 hN
        obtain ⟨c,_,rfl⟩:=map_get hu
        exact ⟨rfl,tYes_go ⟨_,rfl,_,rfl,c,ms,rfl,hms,fun H6 v x s6 hv hx => hN _ _ s6 ⟨x,hv,hx⟩⟩⟩
      · intro ys H2 D s2 hyl hy hD
        obtain ⟨as,hps,hok,hal⟩:=items FI.d FI.tr FI.ok ys H2 hy hyl
        have sD:=same_new hD (.lst ys)
        refine ⟨_,rfl,(by show 2 ≤ sizeLine; decide),fun p3 hp3 => ⟨_,rfl,(by show 2 ≤ sizeLine; decide),fun p4 hp4 => ⟨(by show 2 ≤ sizeLine; decide),fun p5 hp5 => ?_⟩⟩⟩
        have t3:=same_new hp3 (.tup [.str "face",.str z])
        have t4:=same_new hp4 (.tup [.str "face",.str z])
        have t5:=same_new hp5 (.tup [.ref p3,.ref p4])
        have t35:=t3.trans (t4.trans t5)
        refine k8 FI.d FI.tr _ p5 D p3 p4 _ _ ys as _ _ _ _ _ _ _ _ _ _ upd_same ((t4.trans t5) _ _ upd_same) (t5 _ _ upd_same) (by simp) (by simp) (by show 2 ≤ 10; decide) (by show 2 ≤ 10; decide) (t35 _ _ upd_same) (prs_same (sD.trans t35) hps) (by omega) fun H6 p Ad Bd Y ys' zs s6 h1 h2 h3 h4 h5 h6 => ?_
        exact q _ _ (.face z as) (s1.trans (s2.trans (sD.trans (t35.trans s6)))) ⟨p,_,_,rfl,h1,.t h2 (.cons (.s _) (.cons (.s _) (.cons (.t h3 h4) .nil))),.n h5 (.cons (.w _) (.cons (.w _) h6))⟩ ⟨hz,by omega,hok⟩ (by show as.length ≤ 16; omega) (hmm.imp (fun h => by show as.length ≤ 3; omega) id)
    refine ⟨_,rfl,_,_,rfl,rfl,(by show (0:Int) < 4; decide),rfl,_,rfl,ite2 (fun _ => ?_) (fun _ => ?_)⟩
    · -- a part
      refine ⟨_,rfl,l,rfl,⟨_,SqL.of hl⟩,?_⟩
      refine comp_eachL (xs:=cs.map V.int) (fun i H v => ∃ x:PI,Pr K H v x.d x.tr ∧ x.ok) (fun i H H' v e h => by obtain ⟨x,h1,h2⟩:=h; exact ⟨x,h1.same e,h2⟩) (SqL.of hl) (by omega) ?_ ?_
      · intro i u H5 N B hu s5 hN
        obtain ⟨c,_,rfl⟩:=map_get hu
        exact ⟨rfl,tYes_go ⟨_,rfl,_,rfl,c,ms,rfl,hms,fun H6 v x s6 hv hx => hN _ _ s6 ⟨x,hv,hx⟩⟩⟩
      · intro ys H2 D s2 hyl hy hD
        obtain ⟨as,hps,hok,hal⟩:=items PI.d PI.tr PI.ok ys H2 hy hyl
        have sD:=same_new hD (.lst ys)
        refine ⟨_,rfl,_,rfl,_,_,rfl,rfl,a,ns,_,rfl,(s1.trans (s2.trans sD)).seq hS,h63,by omega,by omega,fun c2 _ => ⟨c2,rfl,fun H3 v sl s3 hv hsl => ?_⟩⟩
        obtain ⟨p,vd,vt,rfl,hp,hvd,hvt⟩:=hv
        refine ⟨_,rfl,_,rfl,p,_,_,vd,rfl,rfl,SqT.of hp,rfl,(by show 3 ≤ sizeLine; decide),fun p3 hp3 => ?_⟩
        have t3:=same_new hp3 (.tup [.str "part",.str z,vd])
        refine ⟨_,rfl,_,rfl,p,_,_,vt,rfl,rfl,SqT.of (t3 _ _ hp),rfl,(by show 3 ≤ sizeLine; decide),fun p4 hp4 => ⟨(by show 2 ≤ sizeLine; decide),fun p5 hp5 => ?_⟩⟩
        have t4:=same_new hp4 (.tup [.str "part",.str z,vt])
        have t5:=same_new hp5 (.tup [.ref p3,.ref p4])
        have t35:=t3.trans (t4.trans t5)
        refine k8 PI.d PI.tr _ p5 D p3 p4 _ _ ys as _ _ _ _ _ _ _ _ _ _ upd_same ((t4.trans t5) _ _ upd_same) (t5 _ _ upd_same) (by simp) (by simp) (by show 3 ≤ 10; decide) (by show 3 ≤ 10; decide) ((s3.trans t35) _ _ upd_same) (prs_same (sD.trans (s3.trans t35)) hps) (by omega) fun H6 p' Ad Bd Y ys' zs s6 h1 h2 h3 h4 h5 h6 => ?_
        exact q _ _ (.part z sl as) (s1.trans (s2.trans (sD.trans (s3.trans (t35.trans s6))))) ⟨p',_,_,rfl,h1,.t h2 (.cons (.s _) (.cons (.s _) (.cons (hvd.same (t35.trans s6)) (.cons (.t h3 h4) .nil)))),.n h5 (.cons (.w _) (.cons (.w _) (.cons (hvt.same (t35.trans s6)) h6)))⟩ ⟨hz,hsl,by omega,hok⟩ (by show as.length ≤ 16; omega) (hmm.imp (fun h => by show as.length ≤ 3; omega) id)
    refine ⟨_,rfl,_,_,rfl,rfl,(by show (0:Int) < 4; decide),rfl,_,rfl,ite2 (fun _ => ?_) (fun _ => ?_)⟩
    · -- a maker
      refine ⟨_,rfl,l,rfl,⟨_,SqL.of hl⟩,?_⟩
      refine comp_eachL (xs:=cs.map V.int) (fun i H v => ∃ x:PI,Pr K H v x.d x.tr ∧ x.ok) (fun i H H' v e h => by obtain ⟨x,h1,h2⟩:=h; exact ⟨x,h1.same e,h2⟩) (SqL.of hl) (by omega) ?_ ?_
      · intro i u H5 N B hu s5 hN
        obtain ⟨c,_,rfl⟩:=map_get hu
        exact ⟨rfl,tYes_go ⟨_,rfl,_,rfl,c,ms,rfl,hms,fun H6 v x s6 hv hx => hN _ _ s6 ⟨x,hv,hx⟩⟩⟩
      · intro ys H2 D s2 hyl hy hD
        obtain ⟨as,hps,hok,hal⟩:=items PI.d PI.tr PI.ok ys H2 hy hyl
        have sD:=same_new hD (.lst ys)
        have s1D:=s1.trans (s2.trans sD)
        refine ⟨_,rfl,_,rfl,_,_,rfl,rfl,a,ns,_,rfl,s1D.seq hS,h63,by omega,by omega,fun c2 _ => ⟨c2,rfl,fun H3 v sl s3 hv hsl => ?_⟩⟩
        obtain ⟨p,vd,vt,rfl,hp,hvd,hvt⟩:=hv
        refine ⟨_,rfl,_,rfl,_,_,rfl,rfl,a,ns,_,rfl,(s1D.trans s3).seq hS,h63,by omega,by omega,fun c3 _ => ⟨c3,rfl,fun H4 v4 fos s4 hv4 f1 f4 hfo => ?_⟩⟩
        obtain ⟨pf,ud,ut,rfl,hpf,hud,hut⟩:=hv4
        refine ⟨_,rfl,_,rfl,pf,_,_,ud,rfl,rfl,SqT.of hpf,rfl,_,rfl,p,_,_,vd,rfl,rfl,SqT.of (s4 _ _ hp),rfl,(by show 4 ≤ sizeLine; decide),fun p3 hp3 => ?_⟩
        have t3:=same_new hp3 (.tup [.str "maker",.str z,ud,vd])
        refine ⟨_,rfl,_,rfl,pf,_,_,ut,rfl,rfl,SqT.of (t3 _ _ hpf),rfl,_,rfl,p,_,_,vt,rfl,rfl,SqT.of ((s4.trans t3) _ _ hp),rfl,(by show 4 ≤ sizeLine; decide),fun p4 hp4 => ⟨(by show 2 ≤ sizeLine; decide),fun p5 hp5 => ?_⟩⟩
        have t4:=same_new hp4 (.tup [.str "maker",.str z,ut,vt])
        have t5:=same_new hp5 (.tup [.ref p3,.ref p4])
        have t35:=t3.trans (t4.trans t5)
        have s35:=s3.trans (s4.trans t35)
        refine k8 PI.d PI.tr _ p5 D p3 p4 _ _ ys as _ _ _ _ _ _ _ _ _ _ upd_same ((t4.trans t5) _ _ upd_same) (t5 _ _ upd_same) (by simp) (by simp) (by show 4 ≤ 10; decide) (by show 4 ≤ 10; decide) (s35 _ _ upd_same) (prs_same (sD.trans s35) hps) (by omega) fun H6 p' Ad Bd Y ys' zs s6 h1 h2 h3 h4 h5 h6 => ?_
        exact q _ _ (.maker z fos sl as) (s1D.trans (s35.trans s6)) ⟨p',_,_,rfl,h1,.t h2 (.cons (.s _) (.cons (.s _) (.cons (hud.same (t35.trans s6)) (.cons (hvd.same (s4.trans (t35.trans s6))) (.cons (.t h3 h4) .nil))))),.n h5 (.cons (.w _) (.cons (.w _) (.cons (hut.same (t35.trans s6)) (.cons (hvt.same (s4.trans (t35.trans s6))) h6))))⟩ ⟨hz,⟨f1,f4,hfo⟩,hsl,by omega,hok⟩ (by show as.length ≤ 16; omega) (hmm.imp (fun h => by show as.length ≤ 3; omega) id)
    · -- a made one
      have e0:0 ≤ hd / 48 % 6:=Int.emod_nonneg _ (by decide)
      have e1:hd / 48 % 6 < 6:=Int.emod_lt_of_pos _ (by decide)
      refine ⟨_,rfl,_,_,rfl,rfl,⟨by decide,by decide⟩,_,_,rfl,rfl,(by show (0:Int) < 6; decide),_,_,rfl,rfl,_,rfl,by omega,by omega,?_⟩
      refine comp_eachR (m:=(1 + hd / 48 % 6).toNat) (fun i H v => ∃ y:Str,v = .str y ∧ nameOk y = true) (fun i H H' v e h => h) (by omega) ?_ ?_
      · intro i H5 N B hi s5 hN
        exact ⟨rfl,tYes_go ⟨_,rfl,_,_,rfl,rfl,⟨by decide,by decide⟩,_,rfl,_,_,rfl,rfl,.inl ⟨by decide,by decide⟩,_,rfl,_,_,rfl,rfl,⟨by decide,by decide⟩,_,_,rfl,rfl,(by show (0:Int) < 3; decide),_,_,rfl,rfl,.inr ⟨_,rfl,_,_,rfl,rfl,.inl ⟨by omega,by omega⟩,_,_,rfl,rfl,_,rfl,fun H6 y s6 hy => hN _ _ s6 ⟨y,rfl,hy⟩⟩⟩⟩
      · intro ys H2 D s2 hyl hy hD
        obtain ⟨ps,rfl,hps⟩:=strs_ex hy
        rw [List.length_map] at hyl
        have sD:=same_new hD (.lst (ps.map V.str))
        refine ⟨D,_,rfl,.inl ⟨SqL.of upd_same,fun l3 hl3 => ?_⟩⟩
        have s3:=same_new hl3 (.tup (ps.map V.str))
        have s13:=s1.trans (s2.trans (sD.trans s3))
        refine ⟨_,rfl,_,rfl,_,rfl,_,_,rfl,rfl,a,ns,_,rfl,s13.seq hS,h63,by omega,by omega,fun c2 _ => ⟨c2,rfl,fun H4 y s4 hy4 => ⟨(by show 3 ≤ sizeLine; decide),fun p5 hp5 => ?_⟩⟩⟩
        have s5:=same_new hp5 (.tup [.str "made",.str z,.str y])
        refine ⟨_,rfl,_,rfl,(by show 1 ≤ sizeLine; decide),fun p6 hp6 => ?_⟩
        have s6:=same_new hp6 (.tup [.ref l3])
        refine cat_go (s6 _ _ upd_same) upd_same (by simp) (by show 3 + 1 ≤ 1000; decide) fun H7 p7 s7 h7 => ?_
        have s37:=s4.trans (s5.trans (s6.trans s7))
        refine ⟨_,rfl,_,rfl,?_⟩
        refine cat_go ((s6.trans s7) _ _ upd_same) (s37 _ _ upd_same) (by simp) (by show 3 + (ps.map V.str).length ≤ 1000; rw [List.length_map]; omega) fun H8 p8 s8 h8 => ⟨(by show 2 ≤ sizeLine; decide),fun p9 hp9 => ?_⟩
        have s9:=same_new hp9 (.tup [.ref p7,.ref p8])
        have s89:=s8.trans s9
        have s39:=s37.trans s89
        have hds:∀ (Hx:Hp),DsAt Hx (ps.map V.str) (ps.map Dd.s):=fun Hx => DsAt.of (by rw [List.length_map,List.length_map]) fun i v d hv hdd => by
          obtain ⟨p0,hp0,rfl⟩:=map_get hv
          rw [map_get' hp0] at hdd
          cases hdd
          exact .s _
        have hts:∀ (Hx:Hp),TrsAt K Hx (ps.map V.str) (ps.map Tr.w):=fun Hx => trsAt_of (by rw [List.length_map,List.length_map]) fun i v d hv hdd => by
          obtain ⟨p0,hp0,rfl⟩:=map_get hv
          rw [map_get' hp0] at hdd
          cases hdd
          exact .w _
        exact q _ _ (.made z y ps) (s13.trans s39) ⟨p9,_,_,rfl,upd_same,.t (s89 _ _ h7) (.cons (.s _) (.cons (.s _) (.cons (.s _) (.cons (.t (s39 _ _ upd_same) (hds _)) .nil)))),.n (s9 _ _ h8) (.cons (.w _) (.cons (.w _) (.cons (.w _) (hts _))))⟩ ⟨hz,hy4,by omega,by omega,hps⟩ (Nat.zero_le _) (.inl (Nat.zero_le _))
  obtain ⟨t5,d5,k5⟩:∃ t,PSs (cxOf CX0 P w K mg base dlN "_law_declaration" (defScope sDeclL) f cdv A outer s H E).nox (List.drop 5 (defBody sDeclL)) t ∧
      ∀ (H1:Hp) (m ms:Nat) (hd:Int) (z:Str),Same H H1 → m ≤ 16 → (m ≤ 3 ∨ (b = 1 ∧ cellOf ns 0 % 8 = 1)) → ms ≤ 4 → nameOk z = true →
        t { nx:=fun _ H' => Q .non H',rt:=Q } [some (.ref a),some (.int b),some (.int hd),some (.str z),some (.int m),some (.int ms),none,none,none,none,none,none] H1:=by
    refine ⟨_,pss_cons (ps_comp (i0:=6) scDeclL.nd rfl (Or.inl rfl) (own:=["_law_k"]) (caps:=["_law_script","_law_base"]) (κ:=[0,1]) rfl ⟨rfl,by decide +kernel,by decide +kernel,rfl,rfl,(two_of rfl rfl),(two_of ⟨.inl rfl,rfl,.inl rfl⟩ ⟨.inl rfl,rfl,.inl rfl⟩)⟩ rfl (pi_range1 rfl mr (pa_cons (pv 4) pa_nil))
        (fun _ _ _ _ => pg_name (i:=0) (show (["_law_k","_law_script","_law_base"]:List Str).Nodup from by decide +kernel) rfl (Or.inl rfl)) (fun _ _ _ _ => pe_call GC hr1 rfl mC kC bC .nil pass0 (pa_cons (pv 1) (pa_cons (pe_op op_add (pe_op op_add (pv 2) pe_int) (pv 0)) pa_nil))))
      (pss_cons (ps_if (pt_cmpR op_eq (pe_op op_mod (pe_op op_fdiv (pv 2) pe_int) pe_int) pe_int (nomark _)) (pss_one (ps_set (i:=6) scDeclL.nd rfl (Or.inl rfl) (pe_op op_rep (pe_slice sl_list (pv 6) po_none (po_some pe_int)) (pv 4)))) pss_nil)
      d7),?_⟩
    intro H1 m ms hd z s1 hm16 hmm hms hz
    refine ⟨_,rfl,_,rfl,by omega,by omega,?_⟩
    refine comp_eachR (m:=((m:Nat):Int).toNat) (fun i H v => ∃ c:Int,v = .int c) (fun i H H' v e h => h) (by omega) ?_ ?_
    · intro i H5 N B hi s5 hN
      rw [Int.toNat_natCast] at hi
      exact ⟨rfl,tYes_go ⟨_,rfl,_,rfl,_,_,rfl,rfl,_,rfl,_,_,rfl,rfl,a,ns,_,rfl,(s1.trans s5).seq hS,h63,by omega,by omega,fun c _ => hN _ _ (Same.refl _) ⟨c,rfl⟩⟩⟩
    · intro ys H2 D s2 hyl hy hD
      rw [Int.toNat_natCast] at hyl
      obtain ⟨cs,rfl⟩:=ints_ex hy
      rw [List.length_map] at hyl
      have sD:=same_new hD (.lst (cs.map V.int))
      have s1D:=s1.trans (s2.trans sD)
      refine ⟨_,rfl,_,_,rfl,rfl,⟨by decide,by decide⟩,_,_,rfl,rfl,(by show (0:Int) < 4; decide),rfl,_,rfl,ite2 (fun _ => ?_) (fun _ => ?_)⟩
      · refine ⟨_,rfl,_,rfl,D,_,rfl,SqL.of upd_same,fun l3 hl3 => ?_⟩
        have s3:=same_new hl3 (.lst (cutV (cs.map V.int) none (some 1)))
        have e3:upd (upd H2 D (.lst (cs.map V.int))) l3 (.lst (cutV (cs.map V.int) none (some 1))) l3 = some (.lst ((cs.take 1).map V.int)):=by rw [upd_same,cut_one]
        have t1:(cs.take 1).length ≤ 1:=by rw [List.length_take]; omega
        have sz:((cs.take 1).map V.int).length * ((m:Nat):Int).toNat ≤ sizeLine:=by
          rw [List.length_map,Int.toNat_natCast]
          exact small (Nat.le_trans (Nat.mul_le_mul_right m t1) (by omega))
        refine ⟨_,rfl,l3,_,_,rfl,rfl,e3,by omega,by omega,sz,fun l4 hl4 => ?_⟩
        have s4:=same_new hl4 (.lst (List.replicate ((m:Nat):Int).toNat ((cs.take 1).map V.int)).flatten)
        refine k7 _ l4 ((List.replicate m (cs.take 1)).flatten) m ms hd z (s1D.trans (s3.trans s4)) ?_ ?_ hm16 hmm hms hz
        · rw [upd_same,Int.toNat_natCast,rep_ints]
        · rw [len_rep]
          exact Nat.le_trans (Nat.mul_le_mul_left m t1) (by omega)
      · exact k7 _ D cs m ms hd z s1D upd_same (by omega) hm16 hmm hms hz
  refine ⟨_,pss_cons (ps_set (i:=2) scDeclL.nd rfl (Or.inr rfl) (pe_call GC hr1 rfl mC kC bC .nil pass0 (pa_cons (pv 0) (pa_cons (pv 1) pa_nil))))
    (pss_cons (ps_set (i:=3) scDeclL.nd rfl (Or.inl rfl) (pe_call GN hr1 rfl mN kN bN .nil pass0 (pa_cons (pe_call GC hr1 rfl mC kC bC .nil pass0 (pa_cons (pv 0) (pa_cons (pe_op op_add (pv 1) pe_int) pa_nil))) pa_nil)))
    (pss_cons (ps_set (i:=4) scDeclL.nd rfl (Or.inl rfl) (pe_op op_mod (pe_op op_fdiv (pv 2) pe_int) pe_int))
    (pss_cons (ps_set (i:=5) scDeclL.nd rfl (Or.inr rfl) pe_int)
    (pss_cons (ps_if (PW.pt (pw_and (pt_cmpR op_eq (pv 1) pe_int (nomark _)) (pw_and1 (pt_cmpR op_eq (pe_op op_mod (pe_call GC hr1 rfl mC kC bC .nil pass0 (pa_cons (pv 0) (pa_cons pe_int pa_nil))) pe_int) pe_int (nomark _)))))
      (pss_cons (ps_set (i:=4) scDeclL.nd rfl (Or.inl rfl) pe_int) (pss_one (ps_set (i:=5) scDeclL.nd rfl (Or.inr rfl) pe_int))) pss_nil)
    d5)))),?_⟩
  refine ⟨_,rfl,_,rfl,a,ns,b,rfl,hS,h63,b0,by omega,fun hd _ => ?_⟩
  refine ⟨_,rfl,_,rfl,_,_,rfl,rfl,a,ns,_,rfl,hS,h63,by omega,by omega,fun c1 _ => ⟨c1,rfl,fun H1 z s1 hz => ?_⟩⟩
  refine ⟨_,rfl,_,_,rfl,rfl,⟨by decide,by decide⟩,_,_,rfl,rfl,(by show (0:Int) < 4; decide),?_⟩
  have m0:0 ≤ hd / 4 % 4:=Int.emod_nonneg _ (by decide)
  have m1:hd / 4 % 4 < 4:=Int.emod_lt_of_pos _ (by decide)
  obtain ⟨m,em,hm⟩:∃ m:Nat,(hd / 4 % 4:Int) = m ∧ m ≤ 3:=⟨(hd / 4 % 4).toNat,by omega,by omega⟩
  have low:t5 { nx:=fun _ H' => Q .non H',rt:=Q } [some (.ref a),some (.int b),some (.int hd),some (.str z),some (.int (hd / 4 % 4)),some (.int 4),none,none,none,none,none,none] H1:=by
    rw [em]
    exact k5 H1 m 4 hd z s1 (by omega) (.inl hm) (by omega) hz
  refine ⟨_,rfl,rfl,_,rfl,ite2 (fun c => ?_) (fun c => iteF low)⟩
  have eb:b = 1:=V.int.inj (of_decide_eq_true c)
  refine ⟨_,rfl,a,ns,0,rfl,s1.seq hS,h63,by omega,by omega,fun c0 ec0 => ⟨_,_,rfl,rfl,(by show (0:Int) < 8; decide),rfl,_,rfl,ite2 (fun d => ?_) (fun d => low)⟩⟩
  have ed:c0 % 8 = 1:=V.int.inj (of_decide_eq_true d)
  exact k5 H1 16 0 hd z s1 (by omega) (.inr ⟨eb,by rw [← ec0]; exact ed⟩) (by omega) hz
end
end K17
namespace K17
open PySem L2
noncomputable def spSame (K:PySem.W.Frag):Sp:=fun vs H Q _ => ∃ (l1 l2:Addr) (xs ys:List V) (ds:List Dc),vs = [.ref l1,.ref l2] ∧ H l1 = some (.lst xs) ∧ H l2 = some (.lst ys) ∧ DsAt H xs (ds.map Dc.d) ∧ DsAt H ys (ds.map Dc.d) ∧ ds.length ≤ 2 ∧ (∀ d ∈ ds,d.ok) ∧ ∀ H',Same H H' → Q (.bl true) H'
noncomputable def spLaw (K:PySem.W.Frag):Sp:=fun vs H Q _ => ∃ (a:Addr) (ns:List Int),vs = [.ref a] ∧ SqL K H a (ns.map V.int) ∧ ns.length ≤ 63 ∧ ∀ H',Q (.bl true) H'
theorem tokl {s:Str} (h:TokC (cps s)):TokL s:=⟨by rw [← cps_len]; exact h.1,h.2.1,h.2.2⟩
section
variable {P:Program} {w:World} {K:PySem.W.Frag} {mg:Str → Option Value} {base:Heap}
theorem scSame:FnScope ["_law_found","_law_house"] ["_law_found","_law_house"] (defScope sSame):=⟨rfl,rfl,rfl,by decide +kernel,rfl,by decide +kernel,by decide +kernel⟩
theorem ok_same {f fa:Addr} {fd fda:FuncData} (F:Fun K "_law_same" "_law_same" sSame f fd)
    (GA:FnOk P w K mg base CX0 10 fa fda alN (spAlike K 10)) (bA:Binds K fda alN []) (kA:PySem.W.keepIn K (.ref fa) = true) (mA:mg "_law_alike" = some (.ref fa))
    (mi:mg "isinstance" = none) (ml:mg "list" = none) (mt:mg "tuple" = none):FnOk P w K mg base CX0 11 f fd ["_law_found","_law_house"] (spSame K):=by
  refine F.ok scSame (fun vs H Q E h => ?_) (fun cdv A outer s H vs Q E hr h => ?_)
  · obtain ⟨l1,l2,xs,ys,ds,rfl,_⟩:=h
    rfl
  obtain ⟨l1,l2,xs,ys,ds,rfl,h1,h2,hxs,hys,hd2,hok,q⟩:=h
  refine ⟨_,pss_one (ps_ret (pe_and (pe_callB call_isi rfl mi bootIsi (pa_cons (pv 0) (pa_cons (pe_bltn rfl ml bootList (v:=.ty "list") rfl) pa_nil))) (pe_one (pe_call GA hr rfl mA kA bA .nil pass0 (pa_cons (pe_callTy call_tuple_of rfl mt bootTuple (pa_cons (pv 0) pa_nil)) (pa_cons (pe_callTy call_tuple_of rfl mt bootTuple (pa_cons (pv 1) pa_nil)) pa_nil)))))),?_⟩
  refine ⟨_,rfl,.ref l1,"list",_,true,rfl,.lst h1,kit_ll K,true,rfl,iteT ?_⟩
  refine ⟨_,rfl,l1,xs,rfl,.inl ⟨SqL.of h1,fun p3 hp3 => ?_⟩⟩
  have s3:=same_new hp3 (.tup xs)
  refine ⟨_,rfl,l2,ys,rfl,.inl ⟨SqL.of (s3 _ _ h2),fun p4 hp4 => ?_⟩⟩
  have s4:=same_new hp4 (.tup ys)
  have s34:=s3.trans s4
  refine ⟨.ref p3,.ref p4,rfl,al_d 10 (d:=.t (ds.map Dc.d)) ?_ (.t (s4 _ _ upd_same) (hxs.same s34)) (.t upd_same (hys.same s34)),fun H5 s5 => q _ (s34.trans s5)⟩
  exact fit_t (by rw [List.length_map]; omega) (all_map fun d hd => fit_dc (hok d hd))
noncomputable abbrev lawN:List Str:=["_law_script","_law_some","_law_house","_law_tokens_here","_law_one","_law_told","_law_handed","_law_text"]
theorem scLaw:FnScope lawN ["_law_script"] (defScope sLaw):=⟨rfl,rfl,rfl,by decide +kernel,rfl,by decide +kernel,by decide +kernel⟩
set_option maxHeartbeats 0 in
theorem ok_law {f fc fe ft fw fl fh fr fo fs:Addr} {fd fdc fde fdt fdw fdl fdh fdr fdo fds:FuncData} (F:Fun K "law" "law" sLaw f fd)
    (GC:FnOk P w K mg base CX0 1 fc fdc ["_law_script","_law_k"] (spCellX K)) (bC:Binds K fdc ["_law_script","_law_k"] []) (kC:PySem.W.keepIn K (.ref fc) = true) (mC:mg "_law_cell" = some (.ref fc))
    (GD:FnOk P w K mg base CX0 7 fe fde ["_law_script","_law_base"] (spDeclL K)) (bD:Binds K fde ["_law_script","_law_base"] []) (kD:PySem.W.keepIn K (.ref fe) = true) (mD:mg "_law_declaration" = some (.ref fe))
    (GT:FnOk P w K mg base CX0 7 ft fdt ["_law_tree"] (spTokens K 7)) (bT:Binds K fdt ["_law_tree"] []) (kT:PySem.W.keepIn K (.ref ft) = true) (mT:mg "_law_tokens" = some (.ref ft))
    (GW:FnOk P w K mg base CX0 1 fw fdw ["_law_tokens_here"] (spWritten K)) (bW:Binds K fdw ["_law_tokens_here"] []) (kW:PySem.W.keepIn K (.ref fw) = true) (mW:mg "_law_written" = some (.ref fw))
    (GL:FnOk P w K mg base CX0 1 fl fdl ["_law_tokens_here","_law_cell_here"] (spLoose K)) (bL:Binds K fdl ["_law_tokens_here","_law_cell_here"] []) (kL:PySem.W.keepIn K (.ref fl) = true) (mL:mg "_law_loose" = some (.ref fl))
    (GH:FnOk P w K mg base CX0 9 fh fdh ["house"] (spHouseText K)) (bH:Binds K fdh ["house"] []) (kH:PySem.W.keepIn K (.ref fh) = true) (mH:mg "house_text" = some (.ref fh))
    (GR:FnOk P w K mg base CX0 19 fr fdr ["text"] (spReadHouse K)) (bR:Binds K fdr ["text"] []) (kR:PySem.W.keepIn K (.ref fr) = true) (mR:mg "read_house" = some (.ref fr))
    (GO:FnOk P w K mg base CX0 18 fo fdo ["tree"] (spDcOf K)) (bO:Binds K fdo ["tree"] []) (kO:PySem.W.keepIn K (.ref fo) = true) (mO:mg "declaration_of_tree" = some (.ref fo))
    (GS:FnOk P w K mg base CX0 11 fs fds ["_law_found","_law_house"] (spSame K)) (bS:Binds K fds ["_law_found","_law_house"] []) (kS:PySem.W.keepIn K (.ref fs) = true) (mS:mg "_law_same" = some (.ref fs))
    (mi:mg "isinstance" = none) (ml:mg "list" = none) (ms:mg "str" = none):FnOk P w K mg base CX0 20 f fd ["_law_script"] (spLaw K):=by
  refine F.ok scLaw (fun vs H Q E h => ?_) (fun cdv A outer s H vs Q E hr h => ?_)
  · obtain ⟨a,ns,rfl,_⟩:=h
    rfl
  obtain ⟨a,ns,rfl,hS,h63,q⟩:=h
  have hr1:Room 1 _:=hr.mono (by decide)
  have hr7:Room 7 _:=hr.mono (by decide)
  have hr9:Room 9 _:=hr.mono (by decide)
  have hr11:Room 11 _:=hr.mono (by decide)
  have hr18:Room 18 _:=hr.mono (by decide)
  obtain ⟨t8,d8,k8⟩:∃ t,PSs (cxOf CX0 P w K mg base lawN "law" (defScope sLaw) f cdv A outer s H E).nox (List.drop 8 (defBody sLaw)) t ∧
      ∀ (H1:Hp) (l lh lt hn:Addr) (xs hs:List V) (ds:List Dc) (ws:List Str) (zt zx:Str) (v4:Option V),Same H H1 → H1 l = some (.lst xs) → PrsAt K H1 Dc.d Dc.tr xs ds → (∀ d ∈ ds,d.ok) → ds.length ≤ 2 → (flats (ds.map Dc.tr)).length ≤ 1900 → H1 lh = some (.lst hs) → DsAt H1 hs (ds.map Dc.d) → H1 lt = some (.lst (ws.map V.str)) → ws.map cps = flats (ds.map Dc.tr) → H1 hn = some (.lst hs) → cps zt = lines (ds.map Dc.tr) → cps zx = lines (ds.map Dc.tr) →
        t { nx:=fun _ H' => Q .non H',rt:=Q } [some (.ref a),some (.ref l),some (.ref lh),some (.ref lt),v4,some (.str zt),some (.ref hn),some (.str zx)] H1:=by
    refine ⟨_,pss_cons (ps_if (PW.pt (pw_or (pt_not (pt_val (pe_callB call_isi rfl mi bootIsi (pa_cons (pv 7) (pa_cons (pe_bltn rfl ms bootStr (v:=.ty "str") rfl) pa_nil))))) (pw_or (pt_cmpR op_ne (pv 7) (pv 5) (nomark _)) (pw_or1 (pt_cmpR (op_neD hr.units) (pv 6) (pv 2) (nomark _)))))) (pss_one (ps_ret pe_bl)) pss_nil)
      (pss_cons (ps_if (pt_not (pt_val (pe_call GS hr11 rfl mS kS bS .nil pass0 (pa_cons (pe_call GR hr rfl mR kR bR .nil pass0 (pa_cons (pe_call GL hr1 rfl mL kL bL .nil pass0 (pa_cons (pv 3) (pa_cons (pe_call GC hr1 rfl mC kC bC .nil pass0 (pa_cons (pv 0) (pa_cons pe_int pa_nil))) pa_nil))) pa_nil)) (pa_cons (pv 2) pa_nil))))) (pss_one (ps_ret pe_bl)) pss_nil)
      (pss_cons (ps_if (PW.pt (pw_or (pt_not (pt_val (pe_call GS hr11 rfl mS kS bS .nil pass0 (pa_cons (pe_call GR hr rfl mR kR bR .nil pass0 (pa_cons (pe_call GL hr1 rfl mL kL bL .nil pass0 (pa_cons (pe_lst pa_nil) (pa_cons (pe_call GC hr1 rfl mC kC bC .nil pass0 (pa_cons (pv 0) (pa_cons pe_int pa_nil))) pa_nil))) pa_nil)) (pa_cons (pe_lst pa_nil) pa_nil))))) (pw_or1 (pt_cmpR op_ne (pe_call GH hr9 rfl mH kH bH .nil pass0 (pa_cons (pe_lst pa_nil) pa_nil)) pe_str (nomark _))))) (pss_one (ps_ret pe_bl)) pss_nil)
      (pss_one (ps_ret (pe_and (pe_call GS hr11 rfl mS kS bS .nil pass0 (pa_cons (pe_call GR hr rfl mR kR bR .nil pass0 (pa_cons (pv 5) pa_nil)) (pa_cons (pv 2) pa_nil))) (pe_one (pe_call GS hr11 rfl mS kS bS .nil pass0 (pa_cons (pe_comp (own:=["_law_one"]) (caps:=[]) (κ:=[]) (cl:=[]) rfl ⟨rfl,by decide +kernel,by decide +kernel,rfl,rfl,(fun y hy => nomatch hy),(fun y hy => nomatch hy)⟩ rfl (pi_list (pv 1))
        (fun _ _ _ _ => pg_name (i:=0) (show (["_law_one"]:List Str).Nodup from by decide +kernel) rfl (Or.inl rfl)) (fun _ _ _ _ => pe_call GO hr18 rfl mO kO bO .nil pass0 (pa_cons (pe_ix (r:=rIxT K) ix_tup (pv 0) pe_int (fun _ _ => rfl)) pa_nil))) (pa_cons (pv 2) pa_nil))))))))),?_⟩
    intro H1 l lh lt hn xs hs ds ws zt zx v4 s1 hl hps hok hd2 hfl hlh hhs hlt hws hhn hzt hzx
    have ezx:zx = zt:=Tk.lst_inj (hzx.trans hzt.symm)
    subst ezx
    have xl:=hps.1
    have htg:∀ p ∈ flats (ds.map Dc.tr),TokC p:=fun p hp => by
      obtain ⟨t,ht,hz⟩:=flats_all hp
      obtain ⟨d,hd,rfl⟩:=List.mem_map.mp ht
      exact (tg_dc (hok d hd)).2.1 p hz
    have hoks:oks (ds.map Dc.tr):=oks_of (all_map fun d hd => (tg_dc (hok d hd)).1)
    have hsum:((flats (ds.map Dc.tr)).map List.length).sum ≤ 60000:=by
      have:=sum_le (ps:=flats (ds.map Dc.tr)) fun p hp => (htg p hp).1
      omega
    obtain ⟨hcan,hsh⟩:=list_fit (n:=9) (ds:=ds.map Dc.d) (all_map fun d hd => fit_dc (hok d hd)) (by decide)
    refine ⟨_,rfl,.str zx,"str",_,true,rfl,.str _,kit_ss K,true,rfl,iteF ⟨_,rfl,_,rfl,rfl,_,rfl,ite2 (fun c => ?_) (fun _ => ?_)⟩⟩
    · have c':(!decide (V.str zx = V.str zx)) = true:=c
      rw [decide_eq_true rfl] at c'
      exact absurd c' (by decide)
    refine ⟨_,rfl,_,rfl,.list (pys (ds.map Dc.d)),.list (pys (ds.map Dc.d)),.lst (SqL.of hhn) hhs.dats,.lst (SqL.of hlh) hhs.dats,hsh,hsh,_,rfl,ite2 (fun c => ?_) (fun _ => ?_)⟩
    · have c':(!PyData.eqv (.list (pys (ds.map Dc.d))) (.list (pys (ds.map Dc.d)))) = true:=c
      rw [SeqAt.eqv_refl _ hcan] at c'
      exact absurd c' (by decide)
    have wl:ws.length ≤ 1900:=by
      have:=congrArg List.length hws
      rw [List.length_map] at this
      omega
    have htk:∀ z ∈ ws,TokL z:=fun z hz => tokl (htg (cps z) (by rw [← hws]; exact List.mem_map_of_mem hz))
    refine ⟨_,rfl,_,rfl,a,ns,2,rfl,s1.seq hS,h63,by omega,by omega,fun c2 _ => ?_⟩
    refine ⟨lt,ws,c2,rfl,SqL.of hlt,wl,htk,fun H2 z2 s2 hz2 hzl2 => ?_⟩
    refine ⟨z2,ds,rfl,hzl2,hz2.trans hws,hd2,hok,fun H3 l3 ys s3 _ hl3 hys => ?_⟩
    have s13:=s2.trans s3
    refine ⟨_,rfl,l3,lh,ys,hs,ds,rfl,hl3,s13 _ _ hlh,hys,hhs.same s13,hd2,hok,fun H4 s4 => ⟨true,rfl,iteF ?_⟩⟩
    have s14:=s13.trans s4
    refine ⟨(by show 0 ≤ sizeLine; decide),fun e1 he1 => ?_⟩
    have u1:=same_new he1 (.lst [])
    refine ⟨_,rfl,a,ns,2,rfl,(s1.trans (s14.trans u1)).seq hS,h63,by omega,by omega,fun c3 _ => ?_⟩
    refine ⟨e1,[],c3,rfl,SqL.of upd_same,Nat.zero_le _,(fun z hz => nomatch hz),fun H5 z5 s5 hz5 hzl5 => ?_⟩
    refine ⟨z5,[],rfl,hzl5,hz5,Nat.zero_le _,(fun d hd => nomatch hd),fun H6 l6 ys6 s6 _ hl6 hys6 => ⟨(by show 0 ≤ sizeLine; decide),fun e2 he2 => ?_⟩⟩
    have u2:=same_new he2 (.lst [])
    refine ⟨l6,e2,ys6,[],[],rfl,u2 _ _ hl6,upd_same,hys6.same u2,.nil,Nat.zero_le _,(fun d hd => nomatch hd),fun H7 s7 => ⟨true,rfl,iteF ?_⟩⟩
    refine ⟨(by show 0 ≤ sizeLine; decide),fun e3 he3 => ?_⟩
    have u3:=same_new he3 (.lst [])
    refine ⟨e3,[],[],rfl,SqL.of upd_same,.nil,(fun d hd => nomatch hd),Nat.zero_le _,Nat.zero_le _,fun H8 z8 s8 hz8 => ?_⟩
    have e8:z8 = "":=Tk.lst_inj (hz8.trans (show ([]:List Nat) = Tk.lst "" from rfl))
    subst e8
    refine ⟨rfl,_,rfl,ite2 (fun c => absurd c (by decide +kernel)) (fun _ => ?_)⟩
    have s18:=s14.trans (u1.trans (s5.trans (s6.trans (u2.trans (s7.trans (u3.trans s8))))))
    have zl:zx.length ≤ 90000:=by
      rw [← cps_len,hzt]
      have:=lines_wt (ds.map Dc.tr)
      have:=wts_flat (ds.map Dc.tr)
      omega
    refine ⟨_,rfl,zx,ds,rfl,zl,by rw [hzt,toks_lines hoks],hd2,hok,fun H9 l9 ys9 s9 _ hl9 hys9 => ?_⟩
    have s19:=s18.trans s9
    refine ⟨_,rfl,l9,lh,ys9,hs,ds,rfl,hl9,s19 _ _ hlh,hys9,hhs.same s19,hd2,hok,fun H10 s10 => ⟨_,rfl,iteT ?_⟩⟩
    have s110:=s19.trans s10
    refine ⟨_,rfl,l,rfl,⟨_,SqL.of (s110 _ _ hl)⟩,?_⟩
    refine comp_eachL (xs:=xs) (fun i H v => ∀ d,ds[i]? = some d → DAt H v d.d) (fun i H H' v e h d hd => (h d hd).same e) (SqL.of (s110 _ _ hl)) (by omega) ?_ ?_
    · intro i u H11 N B hu s11 hN
      obtain ⟨d,hd,p,vd,vt,rfl,hp,hvd,hvt⟩:=prs_at hps hu
      have sx:=s110.trans s11
      refine ⟨rfl,tYes_go ⟨_,rfl,p,_,_,vt,rfl,rfl,SqT.of (sx _ _ hp),rfl,vt,d,rfl,hvt.same sx,hok d (List.mem_of_getElem? hd),fun H12 v s12 hv => hN _ _ s12 fun d' hd' => ?_⟩⟩
      rw [hd] at hd'
      cases hd'
      exact hv
    · intro zs H11 D s11 hzl hzz hD
      have hzs:DsAt H11 zs (ds.map Dc.d):=DsAt.of (by rw [hzl,xl,List.length_map]) fun i v d hv hd => by
        obtain ⟨k0,hk0,rfl⟩:=map_get hd
        exact hzz i v hv k0 hk0
      have sD:=same_new hD (.lst zs)
      have sx:=s110.trans (s11.trans sD)
      exact ⟨_,rfl,D,lh,zs,hs,ds,rfl,upd_same,sx _ _ hlh,hzs.same sD,hhs.same sx,hd2,hok,fun H12 s12 => q _⟩
  obtain ⟨t2,d2,k2⟩:∃ t,PSs (cxOf CX0 P w K mg base lawN "law" (defScope sLaw) f cdv A outer s H E).nox (List.drop 2 (defBody sLaw)) t ∧
      ∀ (H1:Hp) (l:Addr) (xs:List V) (ds:List Dc),Same H H1 → H1 l = some (.lst xs) → PrsAt K H1 Dc.d Dc.tr xs ds → (∀ d ∈ ds,d.ok) → ds.length ≤ 2 → (flats (ds.map Dc.tr)).length ≤ 1900 →
        t { nx:=fun _ H' => Q .non H',rt:=Q } [some (.ref a),some (.ref l),none,none,none,none,none,none] H1:=by
    refine ⟨_,pss_cons (ps_comp (i0:=2) scLaw.nd rfl (Or.inl rfl) (own:=["_law_one"]) (caps:=[]) (κ:=[]) (cl:=[]) rfl ⟨rfl,by decide +kernel,by decide +kernel,rfl,rfl,(fun y hy => nomatch hy),(fun y hy => nomatch hy)⟩ rfl (pi_list (pv 1))
        (fun _ _ _ _ => pg_name (i:=0) (show (["_law_one"]:List Str).Nodup from by decide +kernel) rfl (Or.inl rfl)) (fun _ _ _ _ => pe_ix (r:=rIxT K) ix_tup (pv 0) pe_int (fun _ _ => rfl)))
      (pss_cons (ps_set (i:=3) scLaw.nd rfl (Or.inl rfl) (pe_lst pa_nil))
      (pss_cons (ps_for PassesOwn.never rfl (pi_list (pv 1)) (pg_name (i:=4) scLaw.nd rfl (Or.inl rfl)) (pss_one (ps_expr (pe_bm PySem.F.plainAttrs_list PySem.F.slot_list_extend PySem.F.type_list_extend mt_extend (pv 3) (pa_cons (pe_call GT hr7 rfl mT kT bT .nil pass0 (pa_cons (pe_ix ix_tup (pv 4) pe_int (fun _ _ => rfl)) pa_nil)) pa_nil)))))
      (pss_cons (ps_set (i:=5) scLaw.nd rfl (Or.inl rfl) (pe_bm PySem.F.plainAttrs_str PySem.F.slot_str_join PySem.F.type_str_join mt_join pe_str (pa_cons (pe_comp (own:=["_law_one"]) (caps:=[]) (κ:=[]) (cl:=[]) rfl ⟨rfl,by decide +kernel,by decide +kernel,rfl,rfl,(fun y hy => nomatch hy),(fun y hy => nomatch hy)⟩ rfl (pi_list (pv 1))
        (fun _ _ _ _ => pg_name (i:=0) (show (["_law_one"]:List Str).Nodup from by decide +kernel) rfl (Or.inl rfl)) (fun _ _ _ _ => pe_call GW hr1 rfl mW kW bW .nil pass0 (pa_cons (pe_call GT hr7 rfl mT kT bT .nil pass0 (pa_cons (pe_ix (r:=rIxT K) ix_tup (pv 0) pe_int (fun _ _ => rfl)) pa_nil)) pa_nil))) pa_nil)))
      (pss_cons (ps_set (i:=6) scLaw.nd rfl (Or.inl rfl) (pe_callTy call_list_of rfl ml bootList (pa_cons (pv 2) pa_nil)))
      (pss_cons (ps_set (i:=7) scLaw.nd rfl (Or.inl rfl) (pe_call GH hr9 rfl mH kH bH .nil pass0 (pa_cons (pv 6) pa_nil)))
      d8))))),?_⟩
    intro H1 l xs ds s1 hl hps hok hd2 hfl
    have xl:=hps.1
    have htg:∀ p ∈ flats (ds.map Dc.tr),TokC p:=fun p hp => by
      obtain ⟨t,ht,hz⟩:=flats_all hp
      obtain ⟨d,hd,rfl⟩:=List.mem_map.mp ht
      exact (tg_dc (hok d hd)).2.1 p hz
    have hsum:((flats (ds.map Dc.tr)).map List.length).sum ≤ 60000:=by
      have:=sum_le (ps:=flats (ds.map Dc.tr)) fun p hp => (htg p hp).1
      omega
    obtain ⟨g1,g2,g3⟩:=text_fits hfl hsum
    refine ⟨_,rfl,l,rfl,⟨_,SqL.of hl⟩,?_⟩
    refine comp_eachL (xs:=xs) (fun i H v => ∀ d,ds[i]? = some d → DAt H v d.d) (fun i H H' v e h d hd => (h d hd).same e) (SqL.of hl) (by omega) ?_ ?_
    · intro i u H5 N B hu s5 hN
      obtain ⟨d,hd,p,vd,vt,rfl,hp,hvd,hvt⟩:=prs_at hps hu
      refine ⟨rfl,tYes_go ⟨_,rfl,p,_,_,vd,rfl,rfl,SqT.of (s5 _ _ hp),rfl,hN _ _ (Same.refl _) fun d' hd' => ?_⟩⟩
      rw [hd] at hd'
      cases hd'
      exact hvd.same s5
    · intro hs H2 lh s2 hhl hhz hlhn
      have hhs:DsAt H2 hs (ds.map Dc.d):=DsAt.of (by rw [hhl,xl,List.length_map]) fun i v d hv hd => by
        obtain ⟨k0,hk0,rfl⟩:=map_get hd
        exact hhz i v hv k0 hk0
      have sh:=same_new hlhn (.lst hs)
      refine ⟨(by show 0 ≤ sizeLine; decide),fun lt hlt => ?_⟩
      have st:=same_new hlt (.lst [])
      have s2t:=s2.trans (sh.trans st)
      refine ⟨_,rfl,l,rfl,⟨_,SqL.of (s2t _ _ hl)⟩,?_⟩
      refine for_list (K:=K) (xs:=xs) (fun i σ H4 => ∃ (ws:List Str) (v4:Option V),σ = [some (.ref a),some (.ref l),some (.ref lh),some (.ref lt),v4,none,none,none] ∧ Same (upd H2 lh (.lst hs)) H4 ∧ H4 lt = some (.lst (ws.map V.str)) ∧ ws.map cps = flats ((ds.map Dc.tr).take i))
        ⟨[],none,rfl,st,upd_same,rfl⟩ ?_ ?_ ?_
      · rintro i σ H4 _ ⟨ws,v4,rfl,s4,_⟩
        exact SqL.of ((s2.trans (sh.trans s4)) _ _ hl)
      · rintro i y σ H4 hy ⟨ws,v4,rfl,s4,hlt4,hw⟩
        obtain ⟨d,hd,p,vd,vt,rfl,hp,hvd,hvt⟩:=prs_at hps hy
        have sx:=s2.trans (sh.trans s4)
        have htd:=tg_dc (hok d (List.mem_of_getElem? hd))
        have htr:(ds.map Dc.tr)[i]? = some d.tr:=map_get' hd
        have f1:=flat_len (List.mem_of_getElem? htr)
        have f2:=flats_split (ds.map Dc.tr) i
        refine ⟨_,rfl,.inl ⟨rfl,_,SqL.of hlt4⟩,_,rfl,p,_,_,vt,rfl,rfl,SqT.of (sx _ _ hp),rfl,vt,d.tr,rfl,hvt.same sx,(by have:=htd.2.2; omega),by omega,fun H5 l5 us s5 hn5 hl5 hu => ?_⟩
        have wl:=congrArg List.length hw
        have ul:=congrArg List.length hu
        rw [List.length_map] at wl ul
        have hlt5:=s5 _ _ hlt4
        refine ⟨lt,l5,_,_,rfl,rfl,hlt5,hl5,Nat.le_of_lt (mid (by rw [List.length_map,List.length_map]; omega)),?_⟩
        refine ⟨ws ++ us,_,rfl,sput (s4.trans s5) hlt,by rw [upd_same,List.map_append],?_⟩
        rw [List.map_append,hw,hu,flats_take htr]
      · rintro σ H4 ⟨ws,v4,rfl,s4,hlt4,hw⟩
        rw [xl,show ds.length = (ds.map Dc.tr).length from (List.length_map _).symm,List.take_length] at hw
        have s14:=s2.trans (sh.trans s4)
        refine ⟨rfl,_,rfl,l,rfl,⟨_,SqL.of (s14 _ _ hl)⟩,?_⟩
        refine comp_eachL (xs:=xs) (fun i H v => ∃ z:Str,v = .str z ∧ ∀ d,ds[i]? = some d → cps z = d.tr.text) (fun i H H' v e h => h) (SqL.of (s14 _ _ hl)) (by omega) ?_ ?_
        · intro i u H5 N B hu s5 hN
          obtain ⟨d,hd,p,vd,vt,rfl,hp,hvd,hvt⟩:=prs_at hps hu
          have sx:=s14.trans s5
          have htd:=tg_dc (hok d (List.mem_of_getElem? hd))
          have hmt:=List.mem_of_getElem? (show (ds.map Dc.tr)[i]? = some d.tr from map_get' hd)
          have f1:=flat_len hmt
          refine ⟨rfl,tYes_go ⟨_,rfl,p,_,_,vt,rfl,rfl,SqT.of (sx _ _ hp),rfl,vt,d.tr,rfl,hvt.same sx,(by have:=htd.2.2; omega),by omega,fun H6 l6 us s6 _ hl6 hu => ?_⟩⟩
          have ul:=congrArg List.length hu
          rw [List.length_map] at ul
          refine ⟨l6,us,d.tr,rfl,SqL.of hl6,hu,htd.1,by omega,(g2 _ hmt).2,fun z hz => hN _ _ s6 ⟨z,rfl,fun d' hd' => ?_⟩⟩
          rw [hd] at hd'
          cases hd'
          exact hz
        · intro zs H5 D s5 hzl hzz hD
          obtain ⟨ts,rfl,hts⟩:∃ ts:List Str,zs = ts.map V.str ∧ ts.map cps = (ds.map Dc.tr).map Tr.text:=by
            have key:∀ (zs:List V) (es:List Dc),zs.length = es.length → (∀ (i:Nat) (v:V),zs[i]? = some v → ∃ z:Str,v = .str z ∧ ∀ d,es[i]? = some d → cps z = d.tr.text) → ∃ ts:List Str,zs = ts.map V.str ∧ ts.map cps = (es.map Dc.tr).map Tr.text:=by
              intro zs
              induction zs with
              | nil =>
                intro es hl _
                cases es with
                | nil => exact ⟨[],rfl,rfl⟩
                | cons _ _ => cases hl
              | cons v zs ih =>
                intro es hl h
                cases es with
                | nil => cases hl
                | cons d es =>
                  obtain ⟨z,rfl,hz⟩:=h 0 v rfl
                  obtain ⟨ts,rfl,hts⟩:=ih es (Nat.succ.inj hl) fun i v hv => h (i + 1) v hv
                  exact ⟨z :: ts,rfl,by rw [List.map_cons,List.map_cons,List.map_cons,hts,hz d rfl]⟩
            exact key zs ds (by rw [hzl,xl]) hzz
          have sD:=same_new hD (.lst (ts.map V.str))
          have e1:(Str.ofString "\n").length = 1:=by decide +kernel
          have ls:=lines_sum (ds.map Dc.tr)
          have tl:ts.length = (ds.map Dc.tr).length:=by
            have:=congrArg List.length hts
            rw [List.length_map,List.length_map] at this
            exact this
          have sm:(ts.map (·.length)).sum = (((ds.map Dc.tr).map Tr.text).map List.length).sum:=by
            rw [← hts,List.map_map]
            congr 1
          refine ⟨_,D,ts,rfl,rfl,SqL.of upd_same,by rw [sm,e1]; exact Nat.le_of_lt (mid (by omega)),?_⟩
          have s45:=s5.trans sD
          have ht:cps (Txt.join "\n" ts) = lines (ds.map Dc.tr):=by
            rw [cps_join,hts]
            exact glue_lines _
          have hh5:upd H5 D (.lst (ts.map V.str)) lh = some (.lst hs):=(s4.trans s45) _ _ upd_same
          refine ⟨_,rfl,lh,hs,rfl,.inl (SqL.of hh5),fun hn hhn => ?_⟩
          have s6:=same_new hhn (.lst hs)
          have shx:=sh.trans (s4.trans (s45.trans s6))
          refine ⟨_,rfl,hn,hs,ds,rfl,SqL.of upd_same,hhs.same shx,hok,hd2,hfl,fun H7 zx s7 hzx => ?_⟩
          have s47:=s45.trans (s6.trans s7)
          have s17:=s14.trans s47
          exact k8 H7 l lh lt hn xs hs ds ws _ zx _ (s1.trans s17) (s17 _ _ hl) (prs_same s17 hps) hok hd2 hfl ((s4.trans s47) _ _ upd_same) (hhs.same (shx.trans s7)) (s47 _ _ hlt4) hw (s7 _ _ upd_same) ht hzx
  refine ⟨_,pss_cons (ps_set (i:=1) scLaw.nd rfl (Or.inl rfl) (pe_lst (pa_cons (pe_call GD hr7 rfl mD kD bD .nil pass0 (pa_cons (pv 0) (pa_cons pe_int pa_nil))) pa_nil)))
    (pss_cons (ps_if (PW.pt (pw_and (pt_cmpR op_eq (pe_op op_mod (pe_op op_fdiv (pe_call GC hr1 rfl mC kC bC .nil pass0 (pa_cons (pv 0) (pa_cons pe_int pa_nil))) pe_int) pe_int) pe_int (nomark _)) (pw_and1 (pt_cmpR op_ne (pe_op op_mod (pe_call GC hr1 rfl mC kC bC .nil pass0 (pa_cons (pv 0) (pa_cons pe_int pa_nil))) pe_int) pe_int (nomark _)))))
      (pss_one (ps_expr (pe_bm PySem.F.plainAttrs_list PySem.F.slot_list_append PySem.F.type_list_append mt_append (pv 1) (pa_cons (pe_call GD hr7 rfl mD kD bD .nil pass0 (pa_cons (pv 0) (pa_cons pe_int pa_nil))) pa_nil)))) pss_nil)
    d2),?_⟩
  refine ⟨_,rfl,a,ns,1,rfl,hS,h63,by decide,by decide,fun H1 v d s1 hv hok h16 hmm => ⟨(by show 1 ≤ sizeLine; decide),fun l hl => ?_⟩⟩
  have sl:=same_new hl (.lst [v])
  have s1l:=s1.trans sl
  have hn1:=n_dc hok
  have hp1:PrsAt K (upd H1 l (.lst [v])) Dc.d Dc.tr [v] [d]:=prs_snoc (xs:=[]) (as:=[]) ⟨rfl,fun i v a h => nomatch h⟩ (hv.same sl)
  have one:t2 { nx:=fun _ H' => Q .non H',rt:=Q } [some (.ref a),some (.ref l),none,none,none,none,none,none] (upd H1 l (.lst [v])):=by
    refine k2 _ l [v] [d] s1l upd_same hp1 (all_cons hok all_nil) (by show 1 ≤ 2; decide) ?_
    show (flats [d.tr]).length ≤ 1900
    rw [flats_c,flats_nil]
    omega
  refine ⟨_,rfl,a,ns,0,rfl,s1l.seq hS,h63,by decide,by decide,fun c0 e0 => ⟨_,_,rfl,rfl,⟨by decide,by decide⟩,_,_,rfl,rfl,(by show (0:Int) < 2; decide),rfl,_,rfl,ite2 (fun _ => ?_) (fun _ => iteF one)⟩⟩
  refine ⟨_,rfl,a,ns,0,rfl,s1l.seq hS,h63,by decide,by decide,fun c1 e1 => ⟨_,_,rfl,rfl,(by show (0:Int) < 8; decide),rfl,_,rfl,ite2 (fun c => ?_) (fun _ => one)⟩⟩
  have c':(!decide (V.int (c1 % 8) = V.int 1)) = true:=c
  have c3:d.many ≤ 3:=by
    rcases hmm with h | ⟨_,h⟩
    · exact h
    · rw [← e1] at h
      rw [h,decide_eq_true rfl] at c'
      exact absurd c' (by decide)
  refine ⟨_,rfl,.inl ⟨rfl,_,SqL.of upd_same⟩,_,rfl,a,ns,11,rfl,s1l.seq hS,h63,by decide,by decide,fun H2 v2 d2' s2 hv2 hok2 h162 hmm2 => ?_⟩
  have m3:d2'.many ≤ 3:=by
    rcases hmm2 with h | ⟨h,_⟩
    · exact h
    · exact absurd h (by decide)
  have hn2:=n_dc hok2
  have hl2:=s2 _ _ (upd_same (H:=H1) (a:=l) (o:=.lst [v]))
  have kp:∀ x us,H2 x = some (.tup us) → upd H2 l (.lst ([v] ++ [v2])) x = some (.tup us):=fun x us h => tup_upd hl2 h
  refine ⟨l,_,_,rfl,rfl,hl2,mid (by show 1 ≤ 1000000; decide),?_⟩
  refine k2 _ l [v,v2] [d,d2'] (sput (s1.trans (sl.trans s2)) (Same.free s1 hl)) upd_same (prs_snoc (xs:=[v]) (as:=[d]) (prs_keep kp (prs_same s2 hp1)) (hv2.keep kp)) (all_cons hok (all_cons hok2 all_nil)) (by show 2 ≤ 2; decide) ?_
  show (flats [d.tr,d2'.tr]).length ≤ 1900
  rw [flats_c,flats_c,flats_nil]
  omega
end
end K17
namespace PySem.W.Fast
def tw3938240721119407769:=()
def tw1709971798049662985:=()
def tw10863283762118568998:=()
def tw3469780365558402192:=()
def tw9644830549350013057:=()
def tw16160954037018723230:=()
def tw13476810448024439598:=()
def tw7354806338753366879:=()
def tw17826941038256536143:=()
def tw18129540908874960254:=()
def tw1338718744974012315:=()
def tw5019360210559979548:=()
def tw13182212356757672903:=()
def tw14401966236366943108:=()
def tw7417787850405635178:=()
def tw13705965708835871528:=()
def tw14760168792097581172:=()
def tw4893228718635490186:=()
def tw6327008131183837446:=()
def tw4580982224663544007:=()
def tw173207259347377944:=()
def tw160190383408655176:=()
def tw4072231155549508784:=()
def tw15213079971400126993:=()
def tw976841479978780433:=()
def tw3543054774022194073:=()
def tw2423372191462957873:=()
def tw2110630353560608123:=()
def tw2705439757830844316:=()
def tw8926507390767768039:=()
def tw6784521305957869136:=()
def tw11204856391095456792:=()
def tw9469099092040221939:=()
def tw15868708308885518569:=()
def tw3407807698131887822:=()
def tw10342220434587821788:=()
def tw3980969763450636538:=()
def tw1559108739283139535:=()
def tw9080136099768380940:=()
def tw12195549992353936314:=()
def tw16650659671614032717:=()
def tw16530042383494195821:=()
def tw16263363640353259225:=()
def tw8603686404504708321:=()
def tw14711270490142157797:=()
def tw17225885415019700697:=()
def tw861796354186652024:=()
def tw787179658479238452:=()
def tw17972993393099040564:=()
def tw18219891927359145293:=()
def tw15846436650632728782:=()
def tw16107356488730186948:=()
def tw5707783379630431842:=()
def tw6169498789082641071:=()
def tw3463273688453750600:=()
def tw17774783193644446158:=()
def tw9239150867017408844:=()
def tw3060689094748691551:=()
def tw2581887272773683166:=()
def tw9399575642389798224:=()
def tw8900962712306058024:=()
def tw1103621044420395363:=()
def tw3832128217769623042:=()
def tw16254482447591505901:=()
def tw5942234979530327940:=()
def tw13640705253566030065:=()
def tw1751778381532233257:=()
def tw2279614052687903901:=()
def tw17593316572368478672:=()
def tw183731181804224704:=()
def tw11679613200705815633:=()
def tw7739790597354153228:=()
def tw18409152747077546744:=()
def tw18183665128019619952:=()
def tw14720368190165494225:=()
def tw1470146744897834799:=()
def tw9545365330562103272:=()
def tw18063229546674561316:=()
def tw14891121065650459067:=()
def tw16340130908628547209:=()
def tw9501976316677922961:=()
def tw719097343696335307:=()
def tw17360466545383696291:=()
def tw8825394399186366677:=()
def tw13885354716494058947:=()
def tw12431859788386151503:=()
def tw6928145596389544358:=()
def tw9176972001270379597:=()
def tw3775219938786047196:=()
def tw11086182638957323664:=()
def tw1133573052841661148:=()
def tw15232687652014920412:=()
def tw3153280139834130513:=()
def tw438548551970888012:=()
def tw2211435685903291577:=()
def tw5624018451514330743:=()
def tw16439413987030677947:=()
def tw17830959501060929147:=()
def tw18095296664474738965:=()
def tw10570668440180626548:=()
def tw13649067789725635455:=()
def tw13993443703402111285:=()
def tw14789556579272397767:=()
def tw8504194675075711185:=()
def tw11017883248976243194:=()
def tw1549539045570222156:=()
def tw3615107496771766274:=()
def tw11776457614686613525:=()
def tw7456545341434390707:=()
def tw4430701956277074008:=()
def tw15348344087467118867:=()
def tw11009211252625335786:=()
def tw5058611011500663467:=()
def tw1126674130380441902:=()
def tw10350330192898873513:=()
def tw8907257903424589348:=()
def tw6677894610411305812:=()
def tw17055423524550240584:=()
def tw14295399316139383040:=()
def tw13280652105109041468:=()
def tw9060904626400599501:=()
def tw14569319408720961230:=()
def tw6587123245701858513:=()
def tw5386350070461267960:=()
def tw13419939760348106454:=()
def tw12423693370538369776:=()
def tw7771083088107338854:=()
def tw13313513514972019103:=()
def tw14187702908080327049:=()
def tw7430626532082892785:=()
def tw1778147945663690769:=()
def tw4026596965755647417:=()
def tw3872539787395370797:=()
def tw8098175289639277115:=()
def tw13846890822545590323:=()
def tw1412533875827972201:=()
def tw11810522798853531765:=()
def tw18007058447968877392:=()
def tw3467379983135883962:=()
def tw6621744083010666477:=()
def tw6419407559936505971:=()
def tw17826048695713120222:=()
def tw8654561810103979060:=()
end PySem.W.Fast
namespace L2
open PySem
theorem mem_look {α β:Type} [BEq α] [LawfulBEq α] {a:α} {b:β}:∀ {l:List (α × β)},l.lookup a = some b → (a,b) ∈ l
  | [],h => by cases h
  | p :: r,h => by
    obtain ⟨c,d⟩:=p
    rw [List.lookup_cons] at h
    by_cases e:(a == c) = true
    · rw [e] at h
      have h':d = b:=Option.some.inj h
      rw [eq_of_beq e,h']
      exact .head _
    · rw [Bool.not_eq_true] at e
      rw [e] at h
      exact .tail _ (mem_look h)
theorem walk_z {q:Program} {loose:List Str} {XP:(Str → Option Value) → Heap → Prop} {r:PySem.W.RowW} {d:DefRec} {kwd:List (Str × Expr)} {run:Value → List Value → Sem Value} {K:Params → PySem.W.Frag} {as:List Addr} {n t:Nat}
    (hl:∀ p:Params,as = (K p).map (·.1)) (h:PySem.W.WalkO q loose XP (fun w h => (K w.params).In h) r d kwd run):PySem.W.WalkX q loose XP (PySem.W.X.obsZ as) (PySem.W.X.valZ K n t) r d kwd run:=by
  intro w s₀ s₁ mg mb G y a o pm cd doc dV kV ho hd hcd hD hmg hg args vals as' L hpre hlay hrd hwl hlo
  refine h w s₀ s₁ mg mb G (fun b ob hb => ?_) a o pm cd doc dV kV ho hd hcd hD hmg hg args vals as' hpre hlay hrd hwl hlo
  have e1:as.map s₀.heap.get? = (K w.params).map fun p => some p.2:=congrArg Prod.fst y
  rw [hl w.params,List.map_map] at e1
  have e2:s₀.heap.get? b = some ob:=List.map_inj_left.mp e1 (b,ob) (mem_look hb)
  exact L.keeps b ob e2
end L2
namespace K17
open PySem L2
set_option maxHeartbeats 0 in
theorem all_mk {l:PySem.W.OpenLaw} {w:World} {K:PySem.W.Frag} {h:Heap} {mg:Str → Option Value} {fa f1 f2 f3 f4 f5 f6 f7 f8 f9 f10 f11 f12 f13 f14 f15 f16 f17 f18 f19 f20 f21 f22 f23 f24 f25 f26 f27 f28 f29 f30 f31 f32 f33 f34 f35 f36 f37 f38 f39 f40 f41 f42 f43 f44 f45 f46 f47 f48 f49 f50 f51 f52 f53 f54 f55 f56 f57 f58 f59 f60 f61 f62:Addr} (X:K.In h) (G:h.Ns mainGlobals mg) (hfa:mg "law" = some (.ref fa))
    {od1 an1 od2 an2 od3 an3 od4 an4 od5 an5 od6 an6 od7 an7 od8 an8 od9 an9 od10 an10 od11 an11 od12 an12 od13 an13 od14 an14 od15 an15 od16 an16 od17 an17 od18 an18 od19 an19 od20 an20 od21 an21 od22 an22 od23 an23 od24 an24 od25 an25 od26 an26 od27 an27 od28 an28 od29 an29 od30 an30 od31 an31 od32 an32 od33 an33 od34 an34 od35 an35 od36 an36 od37 an37 od38 an38 od39 an39 od40 an40 od41 an41 od42 an42 od43 an43 od44 an44 od45 an45 od46 an46 od47 an47 od48 an48 od49 an49 od50 an50 od51 an51 od52 an52 od53 an53 od54 an54 od55 an55 od56 an56 od57 an57 od58 an58 od59 an59 od60 an60 od61 an61 od62 an62:Option Addr} {sl1 sl2 sl3 sl4 sl5 sl6 sl7 sl8 sl9 sl10 sl11 sl12 sl13 sl14 sl15 sl16 sl17 sl18 sl19 sl20 sl21 sl22 sl23 sl24 sl25 sl26 sl27 sl28 sl29 sl30 sl31 sl32 sl33 sl34 sl35 sl36 sl37 sl38 sl39 sl40 sl41 sl42 sl43 sl44 sl45 sl46 sl47 sl48 sl49 sl50 sl51 sl52 sl53 sl54 sl55 sl56 sl57 sl58 sl59 sl60 sl61 sl62:Array (Option Value)} {oc1 kV1 dc1 pm1 cd1 ct1 oc2 kV2 dc2 pm2 cd2 ct2 oc3 kV3 dc3 pm3 cd3 ct3 oc4 kV4 dc4 pm4 cd4 ct4 oc5 kV5 dc5 pm5 cd5 ct5 oc6 kV6 dc6 pm6 cd6 ct6 oc7 kV7 dc7 pm7 cd7 ct7 oc8 kV8 dc8 pm8 cd8 ct8 oc9 kV9 dc9 pm9 cd9 ct9 oc10 kV10 dc10 pm10 cd10 ct10 oc11 kV11 dc11 pm11 cd11 ct11 oc12 kV12 dc12 pm12 cd12 ct12 oc13 kV13 dc13 pm13 cd13 ct13 oc14 kV14 dc14 pm14 cd14 ct14 oc15 kV15 dc15 pm15 cd15 ct15 oc16 kV16 dc16 pm16 cd16 ct16 oc17 kV17 dc17 pm17 cd17 ct17 oc18 kV18 dc18 pm18 cd18 ct18 oc19 kV19 dc19 pm19 cd19 ct19 oc20 kV20 dc20 pm20 cd20 ct20 oc21 kV21 dc21 pm21 cd21 ct21 oc22 kV22 dc22 pm22 cd22 ct22 oc23 kV23 dc23 pm23 cd23 ct23 oc24 kV24 dc24 pm24 cd24 ct24 oc25 kV25 dc25 pm25 cd25 ct25 oc26 kV26 dc26 pm26 cd26 ct26 oc27 kV27 dc27 pm27 cd27 ct27 oc28 kV28 dc28 pm28 cd28 ct28 oc29 kV29 dc29 pm29 cd29 ct29 oc30 kV30 dc30 pm30 cd30 ct30 oc31 kV31 dc31 pm31 cd31 ct31 oc32 kV32 dc32 pm32 cd32 ct32 oc33 kV33 dc33 pm33 cd33 ct33 oc34 kV34 dc34 pm34 cd34 ct34 oc35 kV35 dc35 pm35 cd35 ct35 oc36 kV36 dc36 pm36 cd36 ct36 oc37 kV37 dc37 pm37 cd37 ct37 oc38 kV38 dc38 pm38 cd38 ct38 oc39 kV39 dc39 pm39 cd39 ct39 oc40 kV40 dc40 pm40 cd40 ct40 oc41 kV41 dc41 pm41 cd41 ct41 oc42 kV42 dc42 pm42 cd42 ct42 oc43 kV43 dc43 pm43 cd43 ct43 oc44 kV44 dc44 pm44 cd44 ct44 oc45 kV45 dc45 pm45 cd45 ct45 oc46 kV46 dc46 pm46 cd46 ct46 oc47 kV47 dc47 pm47 cd47 ct47 oc48 kV48 dc48 pm48 cd48 ct48 oc49 kV49 dc49 pm49 cd49 ct49 oc50 kV50 dc50 pm50 cd50 ct50 oc51 kV51 dc51 pm51 cd51 ct51 oc52 kV52 dc52 pm52 cd52 ct52 oc53 kV53 dc53 pm53 cd53 ct53 oc54 kV54 dc54 pm54 cd54 ct54 oc55 kV55 dc55 pm55 cd55 ct55 oc56 kV56 dc56 pm56 cd56 ct56 oc57 kV57 dc57 pm57 cd57 ct57 oc58 kV58 dc58 pm58 cd58 ct58 oc59 kV59 dc59 pm59 cd59 ct59 oc60 kV60 dc60 pm60 cd60 ct60 oc61 kV61 dc61 pm61 cd61 ct61 oc62 kV62 dc62 pm62 cd62 ct62:Value}
    {pT:Addr} {tk tL tN tF tM tG:Tok}
    {oT:Option Addr} {sT:Array (Option Value)} {nT:Nat} {t1 t2 t3 t4 t5 t6 t7 t8 t9:Tok}
    {pO pTs pB pA:Addr} {tA:Tok}
    {oO oE:Option Addr} {sO sE:Array (Option Value)} {nO nE nB nA:Nat} {u1 u2 u3 u4 u5:Tok}
    {b1 b2 b3 b4 d1 d2 d3 d4:Tok}
    {g1 g2 g3 g4 g5 g6 g7 g8 h1 h2 h3 h4 h5 h6 h7 h8:Tok}
    (a1:PySem.W.nsIn K mainGlobals "trees_of" = some (some (.ref f1))) (l1:K.lookup f1 = some ⟨oc1,od1,.func (PySem.W.fnOf "trees_of" "trees_of" (defArgs sTrees) (defBody sTrees) (defScope sTrees) .none kV1 dc1 pm1 an1 cd1 ct1),sl1⟩) (c1:PySem.W.codeIn K cd1 "trees_of" = true) (k1:PySem.W.keepIn K (.ref f1) = true)
    (a2:PySem.W.nsIn K mainGlobals "pieces_of" = some (some (.ref f2))) (l2:K.lookup f2 = some ⟨oc2,od2,.func (PySem.W.fnOf "pieces_of" "pieces_of" (defArgs sPiecesOf) (defBody sPiecesOf) (defScope sPiecesOf) .none kV2 dc2 pm2 an2 cd2 ct2),sl2⟩) (c2:PySem.W.codeIn K cd2 "pieces_of" = true) (k2:PySem.W.keepIn K (.ref f2) = true)
    (a3:PySem.W.nsIn K mainGlobals "text_of" = some (some (.ref f3))) (l3:K.lookup f3 = some ⟨oc3,od3,.func (PySem.W.fnOf "text_of" "text_of" (defArgs sTextOf) (defBody sTextOf) (defScope sTextOf) .none kV3 dc3 pm3 an3 cd3 ct3),sl3⟩) (c3:PySem.W.codeIn K cd3 "text_of" = true) (k3:PySem.W.keepIn K (.ref f3) = true)
    (a4:PySem.W.nsIn K mainGlobals "tree_text" = some (some (.ref f4))) (l4:K.lookup f4 = some ⟨oc4,od4,.func (PySem.W.fnOf "tree_text" "tree_text" (defArgs sTreeText) (defBody sTreeText) (defScope sTreeText) .none kV4 dc4 pm4 an4 cd4 ct4),sl4⟩) (c4:PySem.W.codeIn K cd4 "tree_text" = true) (k4:PySem.W.keepIn K (.ref f4) = true)
    (a5:PySem.W.nsIn K mainGlobals "bracket_pieces" = some (some (.ref f5))) (l5:K.lookup f5 = some ⟨oc5,od5,.func (PySem.W.fnOf "bracket_pieces" "bracket_pieces" (defArgs sPieces) (defBody sPieces) (defScope sPieces) .none kV5 dc5 pm5 an5 cd5 ct5),sl5⟩) (c5:PySem.W.codeIn K cd5 "bracket_pieces" = true) (k5:PySem.W.keepIn K (.ref f5) = true)
    (a6:PySem.W.nsIn K mainGlobals "is_name" = some (some (.ref f6))) (l6:K.lookup f6 = some ⟨oc6,od6,.func (PySem.W.fnOf "is_name" "is_name" (defArgs sName) (defBody sName) (defScope sName) .none kV6 dc6 pm6 an6 cd6 ct6),sl6⟩) (c6:PySem.W.codeIn K cd6 "is_name" = true) (k6:PySem.W.keepIn K (.ref f6) = true)
    (a7:PySem.W.nsIn K mainGlobals "is_number" = some (some (.ref f7))) (l7:K.lookup f7 = some ⟨oc7,od7,.func (PySem.W.fnOf "is_number" "is_number" (defArgs sNum) (defBody sNum) (defScope sNum) .none kV7 dc7 pm7 an7 cd7 ct7),sl7⟩) (c7:PySem.W.codeIn K cd7 "is_number" = true) (k7:PySem.W.keepIn K (.ref f7) = true)
    (a8:PySem.W.nsIn K mainGlobals "read_house" = some (some (.ref f8))) (l8:K.lookup f8 = some ⟨oc8,od8,.func (PySem.W.fnOf "read_house" "read_house" (defArgs sReadHouse) (defBody sReadHouse) (defScope sReadHouse) .none kV8 dc8 pm8 an8 cd8 ct8),sl8⟩) (c8:PySem.W.codeIn K cd8 "read_house" = true) (k8:PySem.W.keepIn K (.ref f8) = true)
    (a9:PySem.W.nsIn K mainGlobals "bracket" = some (some (.ref f9))) (l9:K.lookup f9 = some ⟨oc9,od9,.func (PySem.W.fnOf "bracket" "bracket" (defArgs sBracket) (defBody sBracket) (defScope sBracket) .none kV9 dc9 pm9 an9 cd9 ct9),sl9⟩) (c9:PySem.W.codeIn K cd9 "bracket" = true) (k9:PySem.W.keepIn K (.ref f9) = true)
    (a10:PySem.W.nsIn K mainGlobals "word_ahead" = some (some (.ref f10))) (l10:K.lookup f10 = some ⟨oc10,od10,.func (PySem.W.fnOf "word_ahead" "word_ahead" (defArgs sAhead) (defBody sAhead) (defScope sAhead) .none kV10 dc10 pm10 an10 cd10 ct10),sl10⟩) (c10:PySem.W.codeIn K cd10 "word_ahead" = true) (k10:PySem.W.keepIn K (.ref f10) = true)
    (a11:PySem.W.nsIn K mainGlobals "name_of_tree" = some (some (.ref f11))) (l11:K.lookup f11 = some ⟨oc11,od11,.func (PySem.W.fnOf "name_of_tree" "name_of_tree" (defArgs sNameOf) (defBody sNameOf) (defScope sNameOf) .none kV11 dc11 pm11 an11 cd11 ct11),sl11⟩) (c11:PySem.W.codeIn K cd11 "name_of_tree" = true) (k11:PySem.W.keepIn K (.ref f11) = true)
    (a12:PySem.W.nsIn K mainGlobals "number_of_tree" = some (some (.ref f12))) (l12:K.lookup f12 = some ⟨oc12,od12,.func (PySem.W.fnOf "number_of_tree" "number_of_tree" (defArgs sNumberOf) (defBody sNumberOf) (defScope sNumberOf) .none kV12 dc12 pm12 an12 cd12 ct12),sl12⟩) (c12:PySem.W.codeIn K cd12 "number_of_tree" = true) (k12:PySem.W.keepIn K (.ref f12) = true)
    (a13:PySem.W.nsIn K mainGlobals "size_of_tree" = some (some (.ref f13))) (l13:K.lookup f13 = some ⟨oc13,od13,.func (PySem.W.fnOf "size_of_tree" "size_of_tree" (defArgs sSizeOf) (defBody sSizeOf) (defScope sSizeOf) .none kV13 dc13 pm13 an13 cd13 ct13),sl13⟩) (c13:PySem.W.codeIn K cd13 "size_of_tree" = true) (k13:PySem.W.keepIn K (.ref f13) = true)
    (a14:PySem.W.nsIn K mainGlobals "near_or_far" = some (some (.ref f14))) (l14:K.lookup f14 = some ⟨oc14,od14,.func (PySem.W.fnOf "near_or_far" "near_or_far" (defArgs sNearFar) (defBody sNearFar) (defScope sNearFar) .none kV14 dc14 pm14 an14 cd14 ct14),sl14⟩) (c14:PySem.W.codeIn K cd14 "near_or_far" = true) (k14:PySem.W.keepIn K (.ref f14) = true)
    (a15:PySem.W.nsIn K mainGlobals "kind_of_tree" = some (some (.ref f15))) (l15:K.lookup f15 = some ⟨oc15,od15,.func (PySem.W.fnOf "kind_of_tree" "kind_of_tree" (defArgs sKindOf) (defBody sKindOf) (defScope sKindOf) .none kV15 dc15 pm15 an15 cd15 ct15),sl15⟩) (c15:PySem.W.codeIn K cd15 "kind_of_tree" = true) (k15:PySem.W.keepIn K (.ref f15) = true)
    (a16:PySem.W.nsIn K mainGlobals "expression_of_tree" = some (some (.ref f16))) (l16:K.lookup f16 = some ⟨oc16,od16,.func (PySem.W.fnOf "expression_of_tree" "expression_of_tree" (defArgs sExOf) (defBody sExOf) (defScope sExOf) .none kV16 dc16 pm16 an16 cd16 ct16),sl16⟩) (c16:PySem.W.codeIn K cd16 "expression_of_tree" = true) (k16:PySem.W.keepIn K (.ref f16) = true)
    (a17:PySem.W.nsIn K mainGlobals "expressions_of" = some (some (.ref f17))) (l17:K.lookup f17 = some ⟨oc17,od17,.func (PySem.W.fnOf "expressions_of" "expressions_of" (defArgs sExsOf) (defBody sExsOf) (defScope sExsOf) .none kV17 dc17 pm17 an17 cd17 ct17),sl17⟩) (c17:PySem.W.codeIn K cd17 "expressions_of" = true) (k17:PySem.W.keepIn K (.ref f17) = true)
    (a18:PySem.W.nsIn K mainGlobals "literal_of_tree" = some (some (.ref f18))) (l18:K.lookup f18 = some ⟨oc18,od18,.func (PySem.W.fnOf "literal_of_tree" "literal_of_tree" (defArgs sLitOf) (defBody sLitOf) (defScope sLitOf) .none kV18 dc18 pm18 an18 cd18 ct18),sl18⟩) (c18:PySem.W.codeIn K cd18 "literal_of_tree" = true) (k18:PySem.W.keepIn K (.ref f18) = true)
    (a19:PySem.W.nsIn K mainGlobals "call_of_tree" = some (some (.ref f19))) (l19:K.lookup f19 = some ⟨oc19,od19,.func (PySem.W.fnOf "call_of_tree" "call_of_tree" (defArgs sCallOf) (defBody sCallOf) (defScope sCallOf) .none kV19 dc19 pm19 an19 cd19 ct19),sl19⟩) (c19:PySem.W.codeIn K cd19 "call_of_tree" = true) (k19:PySem.W.keepIn K (.ref f19) = true)
    (a20:PySem.W.nsIn K mainGlobals "declaration_of_tree" = some (some (.ref f20))) (l20:K.lookup f20 = some ⟨oc20,od20,.func (PySem.W.fnOf "declaration_of_tree" "declaration_of_tree" (defArgs sDeclOf) (defBody sDeclOf) (defScope sDeclOf) .none kV20 dc20 pm20 an20 cd20 ct20),sl20⟩) (c20:PySem.W.codeIn K cd20 "declaration_of_tree" = true) (k20:PySem.W.keepIn K (.ref f20) = true)
    (a21:PySem.W.nsIn K mainGlobals "face_of_tree" = some (some (.ref f21))) (l21:K.lookup f21 = some ⟨oc21,od21,.func (PySem.W.fnOf "face_of_tree" "face_of_tree" (defArgs sFaceOf) (defBody sFaceOf) (defScope sFaceOf) .none kV21 dc21 pm21 an21 cd21 ct21),sl21⟩) (c21:PySem.W.codeIn K cd21 "face_of_tree" = true) (k21:PySem.W.keepIn K (.ref f21) = true)
    (a22:PySem.W.nsIn K mainGlobals "part_of_tree" = some (some (.ref f22))) (l22:K.lookup f22 = some ⟨oc22,od22,.func (PySem.W.fnOf "part_of_tree" "part_of_tree" (defArgs sPartOf) (defBody sPartOf) (defScope sPartOf) .none kV22 dc22 pm22 an22 cd22 ct22),sl22⟩) (c22:PySem.W.codeIn K cd22 "part_of_tree" = true) (k22:PySem.W.keepIn K (.ref f22) = true)
    (a23:PySem.W.nsIn K mainGlobals "maker_of_tree" = some (some (.ref f23))) (l23:K.lookup f23 = some ⟨oc23,od23,.func (PySem.W.fnOf "maker_of_tree" "maker_of_tree" (defArgs sMakerOf) (defBody sMakerOf) (defScope sMakerOf) .none kV23 dc23 pm23 an23 cd23 ct23),sl23⟩) (c23:PySem.W.codeIn K cd23 "maker_of_tree" = true) (k23:PySem.W.keepIn K (.ref f23) = true)
    (a24:PySem.W.nsIn K mainGlobals "made_of_tree" = some (some (.ref f24))) (l24:K.lookup f24 = some ⟨oc24,od24,.func (PySem.W.fnOf "made_of_tree" "made_of_tree" (defArgs sMadeOf) (defBody sMadeOf) (defScope sMadeOf) .none kV24 dc24 pm24 an24 cd24 ct24),sl24⟩) (c24:PySem.W.codeIn K cd24 "made_of_tree" = true) (k24:PySem.W.keepIn K (.ref f24) = true)
    (a25:PySem.W.nsIn K mainGlobals "formal_of_tree" = some (some (.ref f25))) (l25:K.lookup f25 = some ⟨oc25,od25,.func (PySem.W.fnOf "formal_of_tree" "formal_of_tree" (defArgs sFormalOf) (defBody sFormalOf) (defScope sFormalOf) .none kV25 dc25 pm25 an25 cd25 ct25),sl25⟩) (c25:PySem.W.codeIn K cd25 "formal_of_tree" = true) (k25:PySem.W.keepIn K (.ref f25) = true)
    (a26:PySem.W.nsIn K mainGlobals "seal_of_tree" = some (some (.ref f26))) (l26:K.lookup f26 = some ⟨oc26,od26,.func (PySem.W.fnOf "seal_of_tree" "seal_of_tree" (defArgs sSealOf) (defBody sSealOf) (defScope sSealOf) .none kV26 dc26 pm26 an26 cd26 ct26),sl26⟩) (c26:PySem.W.codeIn K cd26 "seal_of_tree" = true) (k26:PySem.W.keepIn K (.ref f26) = true)
    (a27:PySem.W.nsIn K mainGlobals "refining_of" = some (some (.ref f27))) (l27:K.lookup f27 = some ⟨oc27,od27,.func (PySem.W.fnOf "refining_of" "refining_of" (defArgs sRefOf) (defBody sRefOf) (defScope sRefOf) .none kV27 dc27 pm27 an27 cd27 ct27),sl27⟩) (c27:PySem.W.codeIn K cd27 "refining_of" = true) (k27:PySem.W.keepIn K (.ref f27) = true)
    (a28:PySem.W.nsIn K mainGlobals "named_kinds" = some (some (.ref f28))) (l28:K.lookup f28 = some ⟨oc28,od28,.func (PySem.W.fnOf "named_kinds" "named_kinds" (defArgs sNamed) (defBody sNamed) (defScope sNamed) .none kV28 dc28 pm28 an28 cd28 ct28),sl28⟩) (c28:PySem.W.codeIn K cd28 "named_kinds" = true) (k28:PySem.W.keepIn K (.ref f28) = true)
    (a29:PySem.W.nsIn K mainGlobals "face_item" = some (some (.ref f29))) (l29:K.lookup f29 = some ⟨oc29,od29,.func (PySem.W.fnOf "face_item" "face_item" (defArgs sFI) (defBody sFI) (defScope sFI) .none kV29 dc29 pm29 an29 cd29 ct29),sl29⟩) (c29:PySem.W.codeIn K cd29 "face_item" = true) (k29:PySem.W.keepIn K (.ref f29) = true)
    (a30:PySem.W.nsIn K mainGlobals "part_items" = some (some (.ref f30))) (l30:K.lookup f30 = some ⟨oc30,od30,.func (PySem.W.fnOf "part_items" "part_items" (defArgs sPIs) (defBody sPIs) (defScope sPIs) .none kV30 dc30 pm30 an30 cd30 ct30),sl30⟩) (c30:PySem.W.codeIn K cd30 "part_items" = true) (k30:PySem.W.keepIn K (.ref f30) = true)
    (a31:PySem.W.nsIn K mainGlobals "part_item" = some (some (.ref f31))) (l31:K.lookup f31 = some ⟨oc31,od31,.func (PySem.W.fnOf "part_item" "part_item" (defArgs sPI) (defBody sPI) (defScope sPI) .none kV31 dc31 pm31 an31 cd31 ct31),sl31⟩) (c31:PySem.W.codeIn K cd31 "part_item" = true) (k31:PySem.W.keepIn K (.ref f31) = true)
    (a32:PySem.W.nsIn K mainGlobals "within" = some (some (.ref f32))) (l32:K.lookup f32 = some ⟨oc32,od32,.func (PySem.W.fnOf "within" "within" (defArgs sWithin) (defBody sWithin) (defScope sWithin) .none kV32 dc32 pm32 an32 cd32 ct32),sl32⟩) (c32:PySem.W.codeIn K cd32 "within" = true) (k32:PySem.W.keepIn K (.ref f32) = true)
    (a33:PySem.W.nsIn K mainGlobals "house_text" = some (some (.ref f33))) (l33:K.lookup f33 = some ⟨oc33,od33,.func (PySem.W.fnOf "house_text" "house_text" (defArgs sHouseText) (defBody sHouseText) (defScope sHouseText) .none kV33 dc33 pm33 an33 cd33 ct33),sl33⟩) (c33:PySem.W.codeIn K cd33 "house_text" = true) (k33:PySem.W.keepIn K (.ref f33) = true)
    (a34:PySem.W.nsIn K mainGlobals "near_or_far_word" = some (some (.ref f34))) (l34:K.lookup f34 = some ⟨oc34,od34,.func (PySem.W.fnOf "near_or_far_word" "near_or_far_word" (defArgs sNearFarW) (defBody sNearFarW) (defScope sNearFarW) .none kV34 dc34 pm34 an34 cd34 ct34),sl34⟩) (c34:PySem.W.codeIn K cd34 "near_or_far_word" = true) (k34:PySem.W.keepIn K (.ref f34) = true)
    (a35:PySem.W.nsIn K mainGlobals "kind_tree" = some (some (.ref f35))) (l35:K.lookup f35 = some ⟨oc35,od35,.func (PySem.W.fnOf "kind_tree" "kind_tree" (defArgs sKindTree) (defBody sKindTree) (defScope sKindTree) .none kV35 dc35 pm35 an35 cd35 ct35),sl35⟩) (c35:PySem.W.codeIn K cd35 "kind_tree" = true) (k35:PySem.W.keepIn K (.ref f35) = true)
    (a36:PySem.W.nsIn K mainGlobals "expression_tree" = some (some (.ref f36))) (l36:K.lookup f36 = some ⟨oc36,od36,.func (PySem.W.fnOf "expression_tree" "expression_tree" (defArgs sExTree) (defBody sExTree) (defScope sExTree) .none kV36 dc36 pm36 an36 cd36 ct36),sl36⟩) (c36:PySem.W.codeIn K cd36 "expression_tree" = true) (k36:PySem.W.keepIn K (.ref f36) = true)
    (a37:PySem.W.nsIn K mainGlobals "words_ahead" = some (some (.ref f37))) (l37:K.lookup f37 = some ⟨oc37,od37,.func (PySem.W.fnOf "words_ahead" "words_ahead" (defArgs sWords) (defBody sWords) (defScope sWords) .none kV37 dc37 pm37 an37 cd37 ct37),sl37⟩) (c37:PySem.W.codeIn K cd37 "words_ahead" = true) (k37:PySem.W.keepIn K (.ref f37) = true)
    (a38:PySem.W.nsIn K mainGlobals "declaration_tree" = some (some (.ref f38))) (l38:K.lookup f38 = some ⟨oc38,od38,.func (PySem.W.fnOf "declaration_tree" "declaration_tree" (defArgs sDeclTree) (defBody sDeclTree) (defScope sDeclTree) .none kV38 dc38 pm38 an38 cd38 ct38),sl38⟩) (c38:PySem.W.codeIn K cd38 "declaration_tree" = true) (k38:PySem.W.keepIn K (.ref f38) = true)
    (a39:PySem.W.nsIn K mainGlobals "seal_tree" = some (some (.ref f39))) (l39:K.lookup f39 = some ⟨oc39,od39,.func (PySem.W.fnOf "seal_tree" "seal_tree" (defArgs sSealTree) (defBody sSealTree) (defScope sSealTree) .none kV39 dc39 pm39 an39 cd39 ct39),sl39⟩) (c39:PySem.W.codeIn K cd39 "seal_tree" = true) (k39:PySem.W.keepIn K (.ref f39) = true)
    (a40:PySem.W.nsIn K mainGlobals "named_trees" = some (some (.ref f40))) (l40:K.lookup f40 = some ⟨oc40,od40,.func (PySem.W.fnOf "named_trees" "named_trees" (defArgs sNamedTr) (defBody sNamedTr) (defScope sNamedTr) .none kV40 dc40 pm40 an40 cd40 ct40),sl40⟩) (c40:PySem.W.codeIn K cd40 "named_trees" = true) (k40:PySem.W.keepIn K (.ref f40) = true)
    (a41:PySem.W.nsIn K mainGlobals "face_item_tree" = some (some (.ref f41))) (l41:K.lookup f41 = some ⟨oc41,od41,.func (PySem.W.fnOf "face_item_tree" "face_item_tree" (defArgs sFITr) (defBody sFITr) (defScope sFITr) .none kV41 dc41 pm41 an41 cd41 ct41),sl41⟩) (c41:PySem.W.codeIn K cd41 "face_item_tree" = true) (k41:PySem.W.keepIn K (.ref f41) = true)
    (a42:PySem.W.nsIn K mainGlobals "part_item_trees" = some (some (.ref f42))) (l42:K.lookup f42 = some ⟨oc42,od42,.func (PySem.W.fnOf "part_item_trees" "part_item_trees" (defArgs sPIsTr) (defBody sPIsTr) (defScope sPIsTr) .none kV42 dc42 pm42 an42 cd42 ct42),sl42⟩) (c42:PySem.W.codeIn K cd42 "part_item_trees" = true) (k42:PySem.W.keepIn K (.ref f42) = true)
    (a43:PySem.W.nsIn K mainGlobals "part_item_tree" = some (some (.ref f43))) (l43:K.lookup f43 = some ⟨oc43,od43,.func (PySem.W.fnOf "part_item_tree" "part_item_tree" (defArgs sPITr) (defBody sPITr) (defScope sPITr) .none kV43 dc43 pm43 an43 cd43 ct43),sl43⟩) (c43:PySem.W.codeIn K cd43 "part_item_tree" = true) (k43:PySem.W.keepIn K (.ref f43) = true)
    (a44:PySem.W.nsIn K mainGlobals "_law_cell" = some (some (.ref f44))) (l44:K.lookup f44 = some ⟨oc44,od44,.func (PySem.W.fnOf "_law_cell" "_law_cell" (defArgs sCell) (defBody sCell) (defScope sCell) .none kV44 dc44 pm44 an44 cd44 ct44),sl44⟩) (c44:PySem.W.codeIn K cd44 "_law_cell" = true) (k44:PySem.W.keepIn K (.ref f44) = true)
    (a45:PySem.W.nsIn K mainGlobals "_law_name" = some (some (.ref f45))) (l45:K.lookup f45 = some ⟨oc45,od45,.func (PySem.W.fnOf "_law_name" "_law_name" (defArgs sNameL) (defBody sNameL) (defScope sNameL) .none kV45 dc45 pm45 an45 cd45 ct45),sl45⟩) (c45:PySem.W.codeIn K cd45 "_law_name" = true) (k45:PySem.W.keepIn K (.ref f45) = true)
    (a46:PySem.W.nsIn K mainGlobals "_law_size" = some (some (.ref f46))) (l46:K.lookup f46 = some ⟨oc46,od46,.func (PySem.W.fnOf "_law_size" "_law_size" (defArgs sSizeL) (defBody sSizeL) (defScope sSizeL) .none kV46 dc46 pm46 an46 cd46 ct46),sl46⟩) (c46:PySem.W.codeIn K cd46 "_law_size" = true) (k46:PySem.W.keepIn K (.ref f46) = true)
    (a47:PySem.W.nsIn K mainGlobals "_law_kind" = some (some (.ref f47))) (l47:K.lookup f47 = some ⟨oc47,od47,.func (PySem.W.fnOf "_law_kind" "_law_kind" (defArgs sKindL) (defBody sKindL) (defScope sKindL) .none kV47 dc47 pm47 an47 cd47 ct47),sl47⟩) (c47:PySem.W.codeIn K cd47 "_law_kind" = true) (k47:PySem.W.keepIn K (.ref f47) = true)
    (a48:PySem.W.nsIn K mainGlobals "_law_kinds" = some (some (.ref f48))) (l48:K.lookup f48 = some ⟨oc48,od48,.func (PySem.W.fnOf "_law_kinds" "_law_kinds" (defArgs sKindsL) (defBody sKindsL) (defScope sKindsL) .none kV48 dc48 pm48 an48 cd48 ct48),sl48⟩) (c48:PySem.W.codeIn K cd48 "_law_kinds" = true) (k48:PySem.W.keepIn K (.ref f48) = true)
    (a49:PySem.W.nsIn K mainGlobals "_law_rows" = some (some (.ref f49))) (l49:K.lookup f49 = some ⟨oc49,od49,.func (PySem.W.fnOf "_law_rows" "_law_rows" (defArgs sRowsL) (defBody sRowsL) (defScope sRowsL) .none kV49 dc49 pm49 an49 cd49 ct49),sl49⟩) (c49:PySem.W.codeIn K cd49 "_law_rows" = true) (k49:PySem.W.keepIn K (.ref f49) = true)
    (a50:PySem.W.nsIn K mainGlobals "_law_want" = some (some (.ref f50))) (l50:K.lookup f50 = some ⟨oc50,od50,.func (PySem.W.fnOf "_law_want" "_law_want" (defArgs sWantL) (defBody sWantL) (defScope sWantL) .none kV50 dc50 pm50 an50 cd50 ct50),sl50⟩) (c50:PySem.W.codeIn K cd50 "_law_want" = true) (k50:PySem.W.keepIn K (.ref f50) = true)
    (a51:PySem.W.nsIn K mainGlobals "_law_seal" = some (some (.ref f51))) (l51:K.lookup f51 = some ⟨oc51,od51,.func (PySem.W.fnOf "_law_seal" "_law_seal" (defArgs sSealL) (defBody sSealL) (defScope sSealL) .none kV51 dc51 pm51 an51 cd51 ct51),sl51⟩) (c51:PySem.W.codeIn K cd51 "_law_seal" = true) (k51:PySem.W.keepIn K (.ref f51) = true)
    (a52:PySem.W.nsIn K mainGlobals "_law_expression" = some (some (.ref f52))) (l52:K.lookup f52 = some ⟨oc52,od52,.func (PySem.W.fnOf "_law_expression" "_law_expression" (defArgs sExL) (defBody sExL) (defScope sExL) .none kV52 dc52 pm52 an52 cd52 ct52),sl52⟩) (c52:PySem.W.codeIn K cd52 "_law_expression" = true) (k52:PySem.W.keepIn K (.ref f52) = true)
    (a53:PySem.W.nsIn K mainGlobals "_law_face_item" = some (some (.ref f53))) (l53:K.lookup f53 = some ⟨oc53,od53,.func (PySem.W.fnOf "_law_face_item" "_law_face_item" (defArgs sFIL) (defBody sFIL) (defScope sFIL) .none kV53 dc53 pm53 an53 cd53 ct53),sl53⟩) (c53:PySem.W.codeIn K cd53 "_law_face_item" = true) (k53:PySem.W.keepIn K (.ref f53) = true)
    (a54:PySem.W.nsIn K mainGlobals "_law_part_item" = some (some (.ref f54))) (l54:K.lookup f54 = some ⟨oc54,od54,.func (PySem.W.fnOf "_law_part_item" "_law_part_item" (defArgs sPIL) (defBody sPIL) (defScope sPIL) .none kV54 dc54 pm54 an54 cd54 ct54),sl54⟩) (c54:PySem.W.codeIn K cd54 "_law_part_item" = true) (k54:PySem.W.keepIn K (.ref f54) = true)
    (a55:PySem.W.nsIn K mainGlobals "_law_formals" = some (some (.ref f55))) (l55:K.lookup f55 = some ⟨oc55,od55,.func (PySem.W.fnOf "_law_formals" "_law_formals" (defArgs sFormalsL) (defBody sFormalsL) (defScope sFormalsL) .none kV55 dc55 pm55 an55 cd55 ct55),sl55⟩) (c55:PySem.W.codeIn K cd55 "_law_formals" = true) (k55:PySem.W.keepIn K (.ref f55) = true)
    (a56:PySem.W.nsIn K mainGlobals "_law_declaration" = some (some (.ref f56))) (l56:K.lookup f56 = some ⟨oc56,od56,.func (PySem.W.fnOf "_law_declaration" "_law_declaration" (defArgs sDeclL) (defBody sDeclL) (defScope sDeclL) .none kV56 dc56 pm56 an56 cd56 ct56),sl56⟩) (c56:PySem.W.codeIn K cd56 "_law_declaration" = true) (k56:PySem.W.keepIn K (.ref f56) = true)
    (a57:PySem.W.nsIn K mainGlobals "_law_tokens" = some (some (.ref f57))) (l57:K.lookup f57 = some ⟨oc57,od57,.func (PySem.W.fnOf "_law_tokens" "_law_tokens" (defArgs sTokens) (defBody sTokens) (defScope sTokens) .none kV57 dc57 pm57 an57 cd57 ct57),sl57⟩) (c57:PySem.W.codeIn K cd57 "_law_tokens" = true) (k57:PySem.W.keepIn K (.ref f57) = true)
    (a58:PySem.W.nsIn K mainGlobals "_law_written" = some (some (.ref f58))) (l58:K.lookup f58 = some ⟨oc58,od58,.func (PySem.W.fnOf "_law_written" "_law_written" (defArgs sWritten) (defBody sWritten) (defScope sWritten) .none kV58 dc58 pm58 an58 cd58 ct58),sl58⟩) (c58:PySem.W.codeIn K cd58 "_law_written" = true) (k58:PySem.W.keepIn K (.ref f58) = true)
    (a59:PySem.W.nsIn K mainGlobals "_law_loose" = some (some (.ref f59))) (l59:K.lookup f59 = some ⟨oc59,od59,.func (PySem.W.fnOf "_law_loose" "_law_loose" (defArgs sLoose) (defBody sLoose) (defScope sLoose) .none kV59 dc59 pm59 an59 cd59 ct59),sl59⟩) (c59:PySem.W.codeIn K cd59 "_law_loose" = true) (k59:PySem.W.keepIn K (.ref f59) = true)
    (a60:PySem.W.nsIn K mainGlobals "_law_alike" = some (some (.ref f60))) (l60:K.lookup f60 = some ⟨oc60,od60,.func (PySem.W.fnOf "_law_alike" "_law_alike" (defArgs sAlike) (defBody sAlike) (defScope sAlike) .none kV60 dc60 pm60 an60 cd60 ct60),sl60⟩) (c60:PySem.W.codeIn K cd60 "_law_alike" = true) (k60:PySem.W.keepIn K (.ref f60) = true)
    (a61:PySem.W.nsIn K mainGlobals "_law_same" = some (some (.ref f61))) (l61:K.lookup f61 = some ⟨oc61,od61,.func (PySem.W.fnOf "_law_same" "_law_same" (defArgs sSame) (defBody sSame) (defScope sSame) .none kV61 dc61 pm61 an61 cd61 ct61),sl61⟩) (c61:PySem.W.codeIn K cd61 "_law_same" = true) (k61:PySem.W.keepIn K (.ref f61) = true)
    (a62:PySem.W.nsIn K mainGlobals "law" = some (some (.ref f62))) (l62:K.lookup f62 = some ⟨oc62,od62,.func (PySem.W.fnOf "law" "law" (defArgs sLaw) (defBody sLaw) (defScope sLaw) .none kV62 dc62 pm62 an62 cd62 ct62),sl62⟩) (c62:PySem.W.codeIn K cd62 "law" = true) (k62:PySem.W.keepIn K (.ref f62) = true)
    (eD:PySem.W.nsIn K mainGlobals "DEEPEST" = some (some (.int 30 tk)))
    (eL:PySem.W.nsIn K mainGlobals "LETTERS" = some (some (.str "abcdefghijklmnopqrstuvwxyz" tL)))
    (eN:PySem.W.nsIn K mainGlobals "LONGEST_NAME" = some (some (.int 12 tN)))
    (eF:PySem.W.nsIn K mainGlobals "FIGURES" = some (some (.str "0123456789" tF)))
    (eM:PySem.W.nsIn K mainGlobals "LONGEST_NUMBER" = some (some (.int 19 tM)))
    (eG:PySem.W.nsIn K mainGlobals "GREATEST" = some (some (.int 1000000000000000000 tG)))
    (eP:PySem.W.nsIn K mainGlobals "NO_NAMES" = some (some (.ref pT)))
    (lT:K.lookup pT = some ⟨.type "tuple",oT,.seq #[.str "num" t1,.str "pair" t2,.str "lit" t3,.str "as" t4,.str "if" t5,.str "let" t6,.str "two" t7,.str "first" t8,.str "second" t9] nT,sT⟩)
    (eA:PySem.W.nsIn K mainGlobals "MOST_ARGUMENTS" = some (some (.int 4 tA)))
    (eO:PySem.W.nsIn K mainGlobals "OPERATORS" = some (some (.ref pO)))
    (lO:K.lookup pO = some ⟨.type "tuple",oO,.seq #[.str "+" u1,.str "-" u2,.str "*" u3] nO,sO⟩)
    (eE:PySem.W.nsIn K mainGlobals "TESTS" = some (some (.ref pTs)))
    (lE:K.lookup pTs = some ⟨.type "tuple",oE,.seq #[.str "=" u4,.str "<" u5] nE,sE⟩)
    (eB:PySem.W.nsIn K mainGlobals "BRANCHES" = some (some (.ref pB)))
    (lB:K.lookup pB = some ⟨.type "dict",none,.dict #[⟨hashStr w "if",.str "if" b1,.int 3 d1⟩,⟨hashStr w "two",.str "two" b2,.int 2 d2⟩,⟨hashStr w "first",.str "first" b3,.int 1 d3⟩,⟨hashStr w "second",.str "second" b4,.int 1 d4⟩] nB,#[]⟩)
    (qB:(pB == sysModules) = false)
    (eH:PySem.W.nsIn K mainGlobals "AHEAD" = some (some (.ref pA)))
    (lH:K.lookup pA = some ⟨.type "dict",none,.dict #[⟨hashStr w "op",.str "op" g1,.int 3 h1⟩,⟨hashStr w "test",.str "test" g2,.int 2 h2⟩,⟨hashStr w "as",.str "as" g3,.int 2 h3⟩,⟨hashStr w "let",.str "let" g4,.int 2 h4⟩,⟨hashStr w "if",.str "if" g5,.int 1 h5⟩,⟨hashStr w "two",.str "two" g6,.int 1 h6⟩,⟨hashStr w "first",.str "first" g7,.int 1 h7⟩,⟨hashStr w "second",.str "second" g8,.int 1 h8⟩] nA,#[]⟩)
    (qH:(pA == sysModules) = false)
    (z1:PySem.W.nsIn K mainGlobals "len" = some none)
    (z2:PySem.W.nsIn K mainGlobals "range" = some none)
    (z3:PySem.W.nsIn K mainGlobals "isinstance" = some none)
    (z4:PySem.W.nsIn K mainGlobals "tuple" = some none)
    (z5:PySem.W.nsIn K mainGlobals "str" = some none)
    (z6:PySem.W.nsIn K mainGlobals "reversed" = some none)
    (z7:PySem.W.nsIn K mainGlobals "enumerate" = some none)
    (z8:PySem.W.nsIn K mainGlobals "int" = some none)
    (z9:PySem.W.nsIn K mainGlobals "bool" = some none)
    (z10:PySem.W.nsIn K mainGlobals "list" = some none)
    (z11:PySem.W.nsIn K mainGlobals "all" = some none) :
    ∃ fd:FuncData,(∀ (s:Shared) (v:Value),BindsTo s fd ⟨[v],[]⟩ [("_law_script",v)]) ∧ ∀ base:Heap,K.In base → base.Ns mainGlobals mg → FnOk l.prog w K mg base CX0 20 fa fd ["_law_script"] (spLaw K):=by
  have e:=hfa.symm.trans (PySem.W.mg_of X G a62)
  cases e
  have F1:=fun_mk (st:=sTrees) l1 c1 k1
  have F2:=fun_mk (st:=sPiecesOf) l2 c2 k2
  have F3:=fun_mk (st:=sTextOf) l3 c3 k3
  have F4:=fun_mk (st:=sTreeText) l4 c4 k4
  have F5:=fun_mk (st:=sPieces) l5 c5 k5
  have F6:=fun_mk (st:=sName) l6 c6 k6
  have F7:=fun_mk (st:=sNum) l7 c7 k7
  have F8:=fun_mk (st:=sReadHouse) l8 c8 k8
  have F9:=fun_mk (st:=sBracket) l9 c9 k9
  have F10:=fun_mk (st:=sAhead) l10 c10 k10
  have F11:=fun_mk (st:=sNameOf) l11 c11 k11
  have F12:=fun_mk (st:=sNumberOf) l12 c12 k12
  have F13:=fun_mk (st:=sSizeOf) l13 c13 k13
  have F14:=fun_mk (st:=sNearFar) l14 c14 k14
  have F15:=fun_mk (st:=sKindOf) l15 c15 k15
  have F16:=fun_mk (st:=sExOf) l16 c16 k16
  have F17:=fun_mk (st:=sExsOf) l17 c17 k17
  have F18:=fun_mk (st:=sLitOf) l18 c18 k18
  have F19:=fun_mk (st:=sCallOf) l19 c19 k19
  have F20:=fun_mk (st:=sDeclOf) l20 c20 k20
  have F21:=fun_mk (st:=sFaceOf) l21 c21 k21
  have F22:=fun_mk (st:=sPartOf) l22 c22 k22
  have F23:=fun_mk (st:=sMakerOf) l23 c23 k23
  have F24:=fun_mk (st:=sMadeOf) l24 c24 k24
  have F25:=fun_mk (st:=sFormalOf) l25 c25 k25
  have F26:=fun_mk (st:=sSealOf) l26 c26 k26
  have F27:=fun_mk (st:=sRefOf) l27 c27 k27
  have F28:=fun_mk (st:=sNamed) l28 c28 k28
  have F29:=fun_mk (st:=sFI) l29 c29 k29
  have F30:=fun_mk (st:=sPIs) l30 c30 k30
  have F31:=fun_mk (st:=sPI) l31 c31 k31
  have F32:=fun_mk (st:=sWithin) l32 c32 k32
  have F33:=fun_mk (st:=sHouseText) l33 c33 k33
  have F34:=fun_mk (st:=sNearFarW) l34 c34 k34
  have F35:=fun_mk (st:=sKindTree) l35 c35 k35
  have F36:=fun_mk (st:=sExTree) l36 c36 k36
  have F37:=fun_mk (st:=sWords) l37 c37 k37
  have F38:=fun_mk (st:=sDeclTree) l38 c38 k38
  have F39:=fun_mk (st:=sSealTree) l39 c39 k39
  have F40:=fun_mk (st:=sNamedTr) l40 c40 k40
  have F41:=fun_mk (st:=sFITr) l41 c41 k41
  have F42:=fun_mk (st:=sPIsTr) l42 c42 k42
  have F43:=fun_mk (st:=sPITr) l43 c43 k43
  have F44:=fun_mk (st:=sCell) l44 c44 k44
  have F45:=fun_mk (st:=sNameL) l45 c45 k45
  have F46:=fun_mk (st:=sSizeL) l46 c46 k46
  have F47:=fun_mk (st:=sKindL) l47 c47 k47
  have F48:=fun_mk (st:=sKindsL) l48 c48 k48
  have F49:=fun_mk (st:=sRowsL) l49 c49 k49
  have F50:=fun_mk (st:=sWantL) l50 c50 k50
  have F51:=fun_mk (st:=sSealL) l51 c51 k51
  have F52:=fun_mk (st:=sExL) l52 c52 k52
  have F53:=fun_mk (st:=sFIL) l53 c53 k53
  have F54:=fun_mk (st:=sPIL) l54 c54 k54
  have F55:=fun_mk (st:=sFormalsL) l55 c55 k55
  have F56:=fun_mk (st:=sDeclL) l56 c56 k56
  have F57:=fun_mk (st:=sTokens) l57 c57 k57
  have F58:=fun_mk (st:=sWritten) l58 c58 k58
  have F59:=fun_mk (st:=sLoose) l59 c59 k59
  have F60:=fun_mk (st:=sAlike) l60 c60 k60
  have F61:=fun_mk (st:=sSame) l61 c61 k61
  have F62:=fun_mk (st:=sLaw) l62 c62 k62
  have b1:=F1.binds (ps:=["text"]) fun _ _ _ _ _ _ us hl => match us,hl with | [_],_ => rfl
  have b2:=F2.binds (ps:=["text"]) fun _ _ _ _ _ _ us hl => match us,hl with | [_],_ => rfl
  have b3:=F3.binds (ps:=["trees"]) fun _ _ _ _ _ _ us hl => match us,hl with | [_],_ => rfl
  have b4:=F4.binds (ps:=["tree"]) fun _ _ _ _ _ _ us hl => match us,hl with | [_],_ => rfl
  have b5:=F5.binds (ps:=["trees"]) fun _ _ _ _ _ _ us hl => match us,hl with | [_],_ => rfl
  have b6:=F6.binds (ps:=["word"]) fun _ _ _ _ _ _ us hl => match us,hl with | [_],_ => rfl
  have b7:=F7.binds (ps:=["word"]) fun _ _ _ _ _ _ us hl => match us,hl with | [_],_ => rfl
  have b8:=F8.binds (ps:=["text"]) fun _ _ _ _ _ _ us hl => match us,hl with | [_],_ => rfl
  have b9:=F9.binds (ps:=["tree","least","most"]) fun _ _ _ _ _ _ us hl => match us,hl with | [_,_,_],_ => rfl
  have b10:=F10.binds (ps:=["tree"]) fun _ _ _ _ _ _ us hl => match us,hl with | [_],_ => rfl
  have b11:=F11.binds (ps:=["tree"]) fun _ _ _ _ _ _ us hl => match us,hl with | [_],_ => rfl
  have b12:=F12.binds (ps:=["tree","least","most"]) fun _ _ _ _ _ _ us hl => match us,hl with | [_,_,_],_ => rfl
  have b13:=F13.binds (ps:=["tree"]) fun _ _ _ _ _ _ us hl => match us,hl with | [_],_ => rfl
  have b14:=F14.binds (ps:=["word"]) fun _ _ _ _ _ _ us hl => match us,hl with | [_],_ => rfl
  have b15:=F15.binds (ps:=["tree"]) fun _ _ _ _ _ _ us hl => match us,hl with | [_],_ => rfl
  have b16:=F16.binds (ps:=["tree"]) fun _ _ _ _ _ _ us hl => match us,hl with | [_],_ => rfl
  have b17:=F17.binds (ps:=["trees"]) fun _ _ _ _ _ _ us hl => match us,hl with | [_],_ => rfl
  have b18:=F18.binds (ps:=["tree"]) fun _ _ _ _ _ _ us hl => match us,hl with | [_],_ => rfl
  have b19:=F19.binds (ps:=["tree"]) fun _ _ _ _ _ _ us hl => match us,hl with | [_],_ => rfl
  have b20:=F20.binds (ps:=["tree"]) fun _ _ _ _ _ _ us hl => match us,hl with | [_],_ => rfl
  have b21:=F21.binds (ps:=["tree"]) fun _ _ _ _ _ _ us hl => match us,hl with | [_],_ => rfl
  have b22:=F22.binds (ps:=["tree"]) fun _ _ _ _ _ _ us hl => match us,hl with | [_],_ => rfl
  have b23:=F23.binds (ps:=["tree"]) fun _ _ _ _ _ _ us hl => match us,hl with | [_],_ => rfl
  have b24:=F24.binds (ps:=["tree"]) fun _ _ _ _ _ _ us hl => match us,hl with | [_],_ => rfl
  have b25:=F25.binds (ps:=["tree"]) fun _ _ _ _ _ _ us hl => match us,hl with | [_],_ => rfl
  have b26:=F26.binds (ps:=["tree"]) fun _ _ _ _ _ _ us hl => match us,hl with | [_],_ => rfl
  have b27:=F27.binds (ps:=["trees"]) fun _ _ _ _ _ _ us hl => match us,hl with | [_],_ => rfl
  have b28:=F28.binds (ps:=["trees"]) fun _ _ _ _ _ _ us hl => match us,hl with | [_],_ => rfl
  have b29:=F29.binds (ps:=["tree"]) fun _ _ _ _ _ _ us hl => match us,hl with | [_],_ => rfl
  have b30:=F30.binds (ps:=["trees"]) fun _ _ _ _ _ _ us hl => match us,hl with | [_],_ => rfl
  have b31:=F31.binds (ps:=["tree"]) fun _ _ _ _ _ _ us hl => match us,hl with | [_],_ => rfl
  have b32:=F32.binds (ps:=["expression"]) fun _ _ _ _ _ _ us hl => match us,hl with | [_],_ => rfl
  have b33:=F33.binds (ps:=["house"]) fun _ _ _ _ _ _ us hl => match us,hl with | [_],_ => rfl
  have b34:=F34.binds (ps:=["part","name"]) fun _ _ _ _ _ _ us hl => match us,hl with | [_,_],_ => rfl
  have b35:=F35.binds (ps:=["kind"]) fun _ _ _ _ _ _ us hl => match us,hl with | [_],_ => rfl
  have b36:=F36.binds (ps:=["expression"]) fun _ _ _ _ _ _ us hl => match us,hl with | [_],_ => rfl
  have b37:=F37.binds (ps:=["expression"]) fun _ _ _ _ _ _ us hl => match us,hl with | [_],_ => rfl
  have b38:=F38.binds (ps:=["declaration"]) fun _ _ _ _ _ _ us hl => match us,hl with | [_],_ => rfl
  have b39:=F39.binds (ps:=["seal"]) fun _ _ _ _ _ _ us hl => match us,hl with | [_],_ => rfl
  have b40:=F40.binds (ps:=["named"]) fun _ _ _ _ _ _ us hl => match us,hl with | [_],_ => rfl
  have b41:=F41.binds (ps:=["item"]) fun _ _ _ _ _ _ us hl => match us,hl with | [_],_ => rfl
  have b42:=F42.binds (ps:=["items"]) fun _ _ _ _ _ _ us hl => match us,hl with | [_],_ => rfl
  have b43:=F43.binds (ps:=["item"]) fun _ _ _ _ _ _ us hl => match us,hl with | [_],_ => rfl
  have b44:=F44.binds (ps:=["_law_script","_law_k"]) fun _ _ _ _ _ _ us hl => match us,hl with | [_,_],_ => rfl
  have b45:=F45.binds (ps:=["_law_cell_here"]) fun _ _ _ _ _ _ us hl => match us,hl with | [_],_ => rfl
  have b46:=F46.binds (ps:=["_law_cell_here"]) fun _ _ _ _ _ _ us hl => match us,hl with | [_],_ => rfl
  have b47:=F47.binds (ps:=["_law_cell_here"]) fun _ _ _ _ _ _ us hl => match us,hl with | [_],_ => rfl
  have b48:=F48.binds (ps:=["_law_cell_here","_law_many"]) fun _ _ _ _ _ _ us hl => match us,hl with | [_,_],_ => rfl
  have b49:=F49.binds (ps:=["_law_cell_here","_law_many"]) fun _ _ _ _ _ _ us hl => match us,hl with | [_,_],_ => rfl
  have b50:=F50.binds (ps:=["_law_cell_here","_law_many"]) fun _ _ _ _ _ _ us hl => match us,hl with | [_,_],_ => rfl
  have b51:=F51.binds (ps:=["_law_cell_here"]) fun _ _ _ _ _ _ us hl => match us,hl with | [_],_ => rfl
  have b52:=F52.binds (ps:=["_law_cell_here"]) fun _ _ _ _ _ _ us hl => match us,hl with | [_],_ => rfl
  have b53:=F53.binds (ps:=["_law_cell_here","_law_most"]) fun _ _ _ _ _ _ us hl => match us,hl with | [_,_],_ => rfl
  have b54:=F54.binds (ps:=["_law_cell_here","_law_most"]) fun _ _ _ _ _ _ us hl => match us,hl with | [_,_],_ => rfl
  have b55:=F55.binds (ps:=["_law_cell_here"]) fun _ _ _ _ _ _ us hl => match us,hl with | [_],_ => rfl
  have b56:=F56.binds (ps:=["_law_script","_law_base"]) fun _ _ _ _ _ _ us hl => match us,hl with | [_,_],_ => rfl
  have b57:=F57.binds (ps:=["_law_tree"]) fun _ _ _ _ _ _ us hl => match us,hl with | [_],_ => rfl
  have b58:=F58.binds (ps:=["_law_tokens_here"]) fun _ _ _ _ _ _ us hl => match us,hl with | [_],_ => rfl
  have b59:=F59.binds (ps:=["_law_tokens_here","_law_cell_here"]) fun _ _ _ _ _ _ us hl => match us,hl with | [_,_],_ => rfl
  have b60:=F60.binds (ps:=["_law_found","_law_due"]) fun _ _ _ _ _ _ us hl => match us,hl with | [_,_],_ => rfl
  have b61:=F61.binds (ps:=["_law_found","_law_house"]) fun _ _ _ _ _ _ us hl => match us,hl with | [_,_],_ => rfl
  refine ⟨PySem.W.fnOf "law" "law" (defArgs sLaw) (defBody sLaw) (defScope sLaw) .none kV62 dc62 pm62 an62 cd62 ct62,fun s v => .of_eq rfl,fun base _ _ => ?_⟩
  have hT:∀ H,SqT K H pT takenV:=fun H => .inr ⟨_,_,_,lT,rfl,rfl,(show (9:Nat) ≤ sizeLine by decide),.cons ⟨_,rfl⟩ (.cons ⟨_,rfl⟩ (.cons ⟨_,rfl⟩ (.cons ⟨_,rfl⟩ (.cons ⟨_,rfl⟩ (.cons ⟨_,rfl⟩ (.cons ⟨_,rfl⟩ (.cons ⟨_,rfl⟩ (.cons ⟨_,rfl⟩ .nil))))))))⟩
  have hO:∀ H,SqT K H pO opsV:=fun H => .inr ⟨_,_,_,lO,rfl,rfl,(show (3:Nat) ≤ sizeLine by decide),.cons ⟨_,rfl⟩ (.cons ⟨_,rfl⟩ (.cons ⟨_,rfl⟩ .nil))⟩
  have hE:∀ H,SqT K H pTs tstV:=fun H => .inr ⟨_,_,_,lE,rfl,rfl,(show (2:Nat) ≤ sizeLine by decide),.cons ⟨_,rfl⟩ (.cons ⟨_,rfl⟩ .nil)⟩
  have hB:DKt K w pB brs:=dkt_of lB qB (.cons rfl (.cons rfl (.cons rfl (.cons rfl .nil)))) (by decide +kernel)
  have hA:DKt K w pA ahs:=dkt_of lH qH (.cons rfl (.cons rfl (.cons rfl (.cons rfl (.cons rfl (.cons rfl (.cons rfl (.cons rfl .nil)))))))) (by decide +kernel)
  have GP:=ok_pieces (P:=l.prog) (w:=w) (base:=base) (mg:=mg) F5 (PySem.W.mg_none_of X G z7)
  have GX:=ok_treeText (P:=l.prog) (w:=w) (base:=base) (mg:=mg) F4 GP b5 k5 (PySem.W.mg_of X G a5) (PySem.W.mg_none_of X G z1) (PySem.W.mg_none_of X G z3) (PySem.W.mg_none_of X G z5) (PySem.W.mg_none_of X G z6)
  have GO:=ok_textOf (P:=l.prog) (w:=w) (base:=base) (mg:=mg) F3 GX b4 k4 (PySem.W.mg_of X G a4)
  have GI:=ok_pcs (P:=l.prog) (w:=w) (base:=base) (mg:=mg) F2
  have GT:=ok_trees (P:=l.prog) (w:=w) (base:=base) (mg:=mg) F1 GI b2 k2 (PySem.W.mg_of X G a2) (PySem.W.mg_of X G eD) (PySem.W.mg_none_of X G z1) (PySem.W.mg_none_of X G z4)
  have GNa:=ok_name (P:=l.prog) (w:=w) (base:=base) (mg:=mg) F6 (PySem.W.mg_none_of X G z1) (PySem.W.mg_none_of X G z11) (PySem.W.mg_of X G eL) (PySem.W.mg_of X G eN) (PySem.W.mg_of X G eP) hT
  have GNu:=ok_num (P:=l.prog) (w:=w) (base:=base) (mg:=mg) F7 (PySem.W.mg_none_of X G z1) (PySem.W.mg_none_of X G z11) (PySem.W.mg_of X G eF) (PySem.W.mg_of X G eM)
  have GBr:=ok_bracket (P:=l.prog) (w:=w) (base:=base) (mg:=mg) F9 (PySem.W.mg_none_of X G z1) (PySem.W.mg_none_of X G z3) (PySem.W.mg_none_of X G z4)
  have GAh:=ok_ahead (P:=l.prog) (w:=w) (base:=base) (mg:=mg) F10 GBr b9 k9 (PySem.W.mg_of X G a9) (PySem.W.mg_none_of X G z3) (PySem.W.mg_none_of X G z5)
  have GNm:=ok_nameOf (P:=l.prog) (w:=w) (base:=base) (mg:=mg) F11 GNa b6 k6 (PySem.W.mg_of X G a6) (PySem.W.mg_none_of X G z3) (PySem.W.mg_none_of X G z5)
  have GNo:=ok_numberOf (P:=l.prog) (w:=w) (base:=base) (mg:=mg) F12 GNu b7 k7 (PySem.W.mg_of X G a7) (PySem.W.mg_none_of X G z3) (PySem.W.mg_none_of X G z5) (PySem.W.mg_none_of X G z8)
  have GSz:=ok_sizeOf (P:=l.prog) (w:=w) (base:=base) (mg:=mg) F13 GNo b12 k12 (PySem.W.mg_of X G a12) (PySem.W.mg_of X G eG)
  have GNf:=ok_nearFar (P:=l.prog) (w:=w) (base:=base) (mg:=mg) F14 GNa b6 k6 (PySem.W.mg_of X G a6) (PySem.W.mg_none_of X G z1)
  have GKo:=ok_kindOf (P:=l.prog) (w:=w) (base:=base) (mg:=mg) F15 b15 k15 (PySem.W.mg_of X G a15) GNf b14 k14 (PySem.W.mg_of X G a14) GAh b10 k10 (PySem.W.mg_of X G a10) GBr b9 k9 (PySem.W.mg_of X G a9) GSz b13 k13 (PySem.W.mg_of X G a13) (PySem.W.mg_none_of X G z3) (PySem.W.mg_none_of X G z5) 2
  have GLi:=ok_litOf (P:=l.prog) (w:=w) (base:=base) (mg:=mg) F18 GBr b9 k9 (PySem.W.mg_of X G a9) GSz b13 k13 (PySem.W.mg_of X G a13) GNo b12 k12 (PySem.W.mg_of X G a12)
  have GEx:=ok_exOf (P:=l.prog) (w:=w) (base:=base) (mg:=mg) F16 b16 k16 (PySem.W.mg_of X G a16) GNm b11 k11 (PySem.W.mg_of X G a11) GAh b10 k10 (PySem.W.mg_of X G a10) GBr b9 k9 (PySem.W.mg_of X G a9) GSz b13 k13 (PySem.W.mg_of X G a13) GLi b18 k18 (PySem.W.mg_of X G a18) (fun n GG => ok_exsOf F17 GG b16 k16 (PySem.W.mg_of X G a16) (PySem.W.mg_none_of X G z4)) b17 k17 (PySem.W.mg_of X G a17) (fun n GG => ok_callOf (m:=3 * n + 4) F19 GNf b14 k14 (PySem.W.mg_of X G a14) GAh b10 k10 (PySem.W.mg_of X G a10) GBr b9 k9 (PySem.W.mg_of X G a9) GG b17 k17 (PySem.W.mg_of X G a17) (PySem.W.mg_of X G eA)) b19 k19 (PySem.W.mg_of X G a19) (PySem.W.mg_of X G eO) hO (PySem.W.mg_of X G eE) hE (PySem.W.mg_of X G eB) hB (PySem.W.mg_none_of X G z3) (PySem.W.mg_none_of X G z5) 3
  have GNk:=ok_named (P:=l.prog) (w:=w) (base:=base) (mg:=mg) F28 GBr b9 k9 (PySem.W.mg_of X G a9) GNm b11 k11 (PySem.W.mg_of X G a11) GKo b15 k15 (PySem.W.mg_of X G a15) (PySem.W.mg_none_of X G z4)
  have GRf:=ok_refOf (P:=l.prog) (w:=w) (base:=base) (mg:=mg) F27 GNm b11 k11 (PySem.W.mg_of X G a11) GNk b28 k28 (PySem.W.mg_of X G a28)
  have GSe:=ok_sealOf (P:=l.prog) (w:=w) (base:=base) (mg:=mg) F26 GBr b9 k9 (PySem.W.mg_of X G a9) GRf b27 k27 (PySem.W.mg_of X G a27)
  have GFo:=ok_formalOf (P:=l.prog) (w:=w) (base:=base) (mg:=mg) F25 GBr b9 k9 (PySem.W.mg_of X G a9) GNm b11 k11 (PySem.W.mg_of X G a11) GRf b27 k27 (PySem.W.mg_of X G a27)
  have GFi:=ok_fi (P:=l.prog) (w:=w) (base:=base) (mg:=mg) F29 GAh b10 k10 (PySem.W.mg_of X G a10) GBr b9 k9 (PySem.W.mg_of X G a9) GNm b11 k11 (PySem.W.mg_of X G a11) GKo b15 k15 (PySem.W.mg_of X G a15) (PySem.W.mg_of X G eA) (PySem.W.mg_none_of X G z4)
  have GPi:=ok_pi (P:=l.prog) (w:=w) (base:=base) (mg:=mg) F31 GAh b10 k10 (PySem.W.mg_of X G a10) GBr b9 k9 (PySem.W.mg_of X G a9) GNm b11 k11 (PySem.W.mg_of X G a11) GKo b15 k15 (PySem.W.mg_of X G a15) GNk b28 k28 (PySem.W.mg_of X G a28) GEx b16 k16 (PySem.W.mg_of X G a16) (PySem.W.mg_of X G eA)
  have GPs:=ok_pis (P:=l.prog) (w:=w) (base:=base) (mg:=mg) F30 GPi b31 k31 (PySem.W.mg_of X G a31) (PySem.W.mg_none_of X G z4)
  have GFa:=ok_faceOf (P:=l.prog) (w:=w) (base:=base) (mg:=mg) F21 GBr b9 k9 (PySem.W.mg_of X G a9) GNm b11 k11 (PySem.W.mg_of X G a11) GFi b29 k29 (PySem.W.mg_of X G a29) (PySem.W.mg_none_of X G z4)
  have GPa:=ok_partOf (P:=l.prog) (w:=w) (base:=base) (mg:=mg) F22 GBr b9 k9 (PySem.W.mg_of X G a9) GNm b11 k11 (PySem.W.mg_of X G a11) GSe b26 k26 (PySem.W.mg_of X G a26) GPs b30 k30 (PySem.W.mg_of X G a30)
  have GMk:=ok_makerOf (P:=l.prog) (w:=w) (base:=base) (mg:=mg) F23 GBr b9 k9 (PySem.W.mg_of X G a9) GNm b11 k11 (PySem.W.mg_of X G a11) GSe b26 k26 (PySem.W.mg_of X G a26) GFo b25 k25 (PySem.W.mg_of X G a25) GPs b30 k30 (PySem.W.mg_of X G a30) (PySem.W.mg_of X G eA) (PySem.W.mg_none_of X G z4)
  have GMd:=ok_madeOf (P:=l.prog) (w:=w) (base:=base) (mg:=mg) F24 GBr b9 k9 (PySem.W.mg_of X G a9) GNm b11 k11 (PySem.W.mg_of X G a11) (PySem.W.mg_none_of X G z4)
  have GDc:=ok_declOf (P:=l.prog) (w:=w) (base:=base) (mg:=mg) F20 GAh b10 k10 (PySem.W.mg_of X G a10) GFa b21 k21 (PySem.W.mg_of X G a21) GPa b22 k22 (PySem.W.mg_of X G a22) GMk b23 k23 (PySem.W.mg_of X G a23) GMd b24 k24 (PySem.W.mg_of X G a24)
  have GRh:=ok_readHouse (P:=l.prog) (w:=w) (base:=base) (mg:=mg) F8 GT b1 k1 (PySem.W.mg_of X G a1) GDc b20 k20 (PySem.W.mg_of X G a20)
  have GWi:=ok_within (P:=l.prog) (w:=w) (base:=base) (mg:=mg) F32 (PySem.W.mg_of X G eH) hA
  have GNw:=ok_nearFarW (P:=l.prog) (w:=w) (base:=base) (mg:=mg) F34
  have GKt:=ok_kindTree (P:=l.prog) (w:=w) (base:=base) (mg:=mg) F35 b35 k35 (PySem.W.mg_of X G a35) GNw b34 k34 (PySem.W.mg_of X G a34) (PySem.W.mg_none_of X G z5) 2
  have GWo:=ok_words (P:=l.prog) (w:=w) (base:=base) (mg:=mg) F37 GNw b34 k34 (PySem.W.mg_of X G a34) (PySem.W.mg_none_of X G z5)
  have GTr:=ok_exTree (P:=l.prog) (w:=w) (base:=base) (mg:=mg) F36 b36 k36 (PySem.W.mg_of X G a36) GWo b37 k37 (PySem.W.mg_of X G a37) GWi b32 k32 (PySem.W.mg_of X G a32) (PySem.W.mg_none_of X G z10) (PySem.W.mg_none_of X G z4) 3
  have GNt:=ok_namedTr (P:=l.prog) (w:=w) (base:=base) (mg:=mg) F40 GKt b35 k35 (PySem.W.mg_of X G a35) (PySem.W.mg_none_of X G z4)
  have GSt:=ok_sealTr (P:=l.prog) (w:=w) (base:=base) (mg:=mg) F39 GNt b40 k40 (PySem.W.mg_of X G a40)
  have GFt:=ok_fiTr (P:=l.prog) (w:=w) (base:=base) (mg:=mg) F41 GKt b35 k35 (PySem.W.mg_of X G a35) (PySem.W.mg_none_of X G z4)
  have GPt:=ok_piTr (P:=l.prog) (w:=w) (base:=base) (mg:=mg) F43 GKt b35 k35 (PySem.W.mg_of X G a35) GNt b40 k40 (PySem.W.mg_of X G a40) GTr b36 k36 (PySem.W.mg_of X G a36)
  have GPts:=ok_pisTr (P:=l.prog) (w:=w) (base:=base) (mg:=mg) F42 GPt b43 k43 (PySem.W.mg_of X G a43) (PySem.W.mg_none_of X G z4)
  have GDt:=ok_dcTr (P:=l.prog) (w:=w) (base:=base) (mg:=mg) F38 GFt b41 k41 (PySem.W.mg_of X G a41) GSt b39 k39 (PySem.W.mg_of X G a39) GPts b42 k42 (PySem.W.mg_of X G a42) (PySem.W.mg_none_of X G z4)
  have GHt:=ok_houseText (P:=l.prog) (w:=w) (base:=base) (mg:=mg) F33 GDt b38 k38 (PySem.W.mg_of X G a38) GO b3 k3 (PySem.W.mg_of X G a3)
  have GC:=ok_cellX (P:=l.prog) (w:=w) (base:=base) (mg:=mg) F44 (PySem.W.mg_none_of X G z1)
  have GNl:=ok_nameL (P:=l.prog) (w:=w) (base:=base) (mg:=mg) F45 (PySem.W.mg_none_of X G z2)
  have GSl:=ok_sizeL (P:=l.prog) (w:=w) (base:=base) (mg:=mg) F46
  have GKl:=ok_kindL (P:=l.prog) (w:=w) (base:=base) (mg:=mg) F47 GNl b45 k45 (PySem.W.mg_of X G a45) GSl b46 k46 (PySem.W.mg_of X G a46) (PySem.W.mg_none_of X G z5)
  have GKs:=ok_kindsL (P:=l.prog) (w:=w) (base:=base) (mg:=mg) F48 GNl b45 k45 (PySem.W.mg_of X G a45) GKl b47 k47 (PySem.W.mg_of X G a47) (PySem.W.mg_none_of X G z2)
  have GRl:=ok_rowsL (P:=l.prog) (w:=w) (base:=base) (mg:=mg) F49 GNl b45 k45 (PySem.W.mg_of X G a45) GKs b48 k48 (PySem.W.mg_of X G a48) (PySem.W.mg_none_of X G z2) (PySem.W.mg_none_of X G z8) (PySem.W.mg_none_of X G z4)
  have GWl:=ok_wantL (P:=l.prog) (w:=w) (base:=base) (mg:=mg) F50 GNl b45 k45 (PySem.W.mg_of X G a45) GRl b49 k49 (PySem.W.mg_of X G a49)
  have GSel:=ok_sealL (P:=l.prog) (w:=w) (base:=base) (mg:=mg) F51 GWl b50 k50 (PySem.W.mg_of X G a50)
  have GEl:=ok_exL (P:=l.prog) (w:=w) (base:=base) (mg:=mg) F52 GNl b45 k45 (PySem.W.mg_of X G a45) GSl b46 k46 (PySem.W.mg_of X G a46) (PySem.W.mg_none_of X G z5)
  have GFl:=ok_fiL (P:=l.prog) (w:=w) (base:=base) (mg:=mg) F53 GNl b45 k45 (PySem.W.mg_of X G a45) GKl b47 k47 (PySem.W.mg_of X G a47) GKs b48 k48 (PySem.W.mg_of X G a48) (PySem.W.mg_none_of X G z4)
  have GPl:=ok_piL (P:=l.prog) (w:=w) (base:=base) (mg:=mg) F54 GNl b45 k45 (PySem.W.mg_of X G a45) GKl b47 k47 (PySem.W.mg_of X G a47) GRl b49 k49 (PySem.W.mg_of X G a49) GEl b52 k52 (PySem.W.mg_of X G a52)
  have GFol:=ok_formalsL (P:=l.prog) (w:=w) (base:=base) (mg:=mg) F55 GNl b45 k45 (PySem.W.mg_of X G a45) GWl b50 k50 (PySem.W.mg_of X G a50) (PySem.W.mg_none_of X G z2) (PySem.W.mg_none_of X G z8) (PySem.W.mg_none_of X G z4)
  have GDl:=ok_declL (P:=l.prog) (w:=w) (base:=base) (mg:=mg) F56 GC b44 k44 (PySem.W.mg_of X G a44) GNl b45 k45 (PySem.W.mg_of X G a45) GFl b53 k53 (PySem.W.mg_of X G a53) GPl b54 k54 (PySem.W.mg_of X G a54) GSel b51 k51 (PySem.W.mg_of X G a51) GFol b55 k55 (PySem.W.mg_of X G a55) (PySem.W.mg_none_of X G z2) (PySem.W.mg_none_of X G z8) (PySem.W.mg_none_of X G z4)
  have GTo:=ok_tokens (P:=l.prog) (w:=w) (base:=base) (mg:=mg) F57 b57 k57 (PySem.W.mg_of X G a57) (PySem.W.mg_none_of X G z3) (PySem.W.mg_none_of X G z5) 7
  have GW:=ok_written (P:=l.prog) (w:=w) (base:=base) (mg:=mg) F58 (PySem.W.mg_none_of X G z1) (PySem.W.mg_none_of X G z2)
  have GL:=ok_loose (P:=l.prog) (w:=w) (base:=base) (mg:=mg) F59 (PySem.W.mg_none_of X G z1) (PySem.W.mg_none_of X G z2)
  have GAl:=ok_alike (P:=l.prog) (w:=w) (base:=base) (mg:=mg) F60 b60 k60 (PySem.W.mg_of X G a60) (PySem.W.mg_none_of X G z3) (PySem.W.mg_none_of X G z5) (PySem.W.mg_none_of X G z4) (PySem.W.mg_none_of X G z8) (PySem.W.mg_none_of X G z9) (PySem.W.mg_none_of X G z1) (PySem.W.mg_none_of X G z2) (PySem.W.mg_none_of X G z11) 10
  have GSa:=ok_same (P:=l.prog) (w:=w) (base:=base) (mg:=mg) F61 GAl b60 k60 (PySem.W.mg_of X G a60) (PySem.W.mg_none_of X G z3) (PySem.W.mg_none_of X G z10) (PySem.W.mg_none_of X G z4)
  exact ok_law F62 GC b44 k44 (PySem.W.mg_of X G a44) GDl b56 k56 (PySem.W.mg_of X G a56) GTo b57 k57 (PySem.W.mg_of X G a57) GW b58 k58 (PySem.W.mg_of X G a58) GL b59 k59 (PySem.W.mg_of X G a59) GHt b33 k33 (PySem.W.mg_of X G a33) GRh b8 k8 (PySem.W.mg_of X G a8) GDc b20 k20 (PySem.W.mg_of X G a20) GSa b61 k61 (PySem.W.mg_of X G a61) (PySem.W.mg_none_of X G z3) (PySem.W.mg_none_of X G z10) (PySem.W.mg_none_of X G z5)
theorem walk {l:PySem.W.OpenLaw} {q:Program} {loose:List Str} {XP:(Str → Option Value) → Heap → Prop} {YP:World → Heap → Prop} {d:DefRec} {K:Params → PySem.W.Frag} (hn:l.most = some 63) (hdf:d.params.defaults = [])
    (hY:∀ (w:World) (h:Heap),YP w h → (K w.params).In h)
    (F:∀ (w:World) (mg:Str → Option Value) (fa:Addr) (h:Heap),(K w.params).In h → h.Ns mainGlobals mg → mg d.name = some (.ref fa) →
      ∃ fd:FuncData,(∀ (s:Shared) (u:Value),BindsTo s fd ⟨[u],[]⟩ [("_law_script",u)]) ∧ ∀ base:Heap,(K w.params).In base → base.Ns mainGlobals mg → FnOk l.prog w (K w.params) mg base CX0 20 fa fd ["_law_script"] (spLaw (K w.params))) :
    PySem.W.WalkO q loose XP YP l.row.toRowW d [] (fun f vs => PySem.call f vs) :=
  L2.walk_of (n:=63) (k:=20) (x:="_law_script") (CX:=fun _ => CX0) (sp:=fun w => spLaw (K w.params)) hn (by decide) hdf ⟨rfl,by decide,by decide,rfl⟩ hY F (fun _ _ a ns hl _ hS => ⟨a,ns,rfl,hS,hl,fun _ => rfl⟩) fun _ _ _ _ _ z => z
end K17
open PySem PySem.W PyProof.Rows
set_option maxRecDepth 100000 in
set_option maxHeartbeats 0 in
theorem PySem.Challenge.cw_sealhouse_k17_houses_read_and_written_holds : PySem.Challenge.rw_sealhouse_k17_houses_read_and_written.Holds := by
  w_on; o_law; z_head; (case hw => w_witness2)
  k_fill
  refine L2.walk_z (fun _ => rfl) ?_
  refine K17.walk (l:=PySem.Challenge.rw_sealhouse_k17_houses_read_and_written) rfl rfl (fun w h Y => Y) ?F
  case F =>
    intro w mg fa h KX G hmg
    refine' K17.all_mk KX G hmg ?a1 ?l1 ?c1 ?k1 ?a2 ?l2 ?c2 ?k2 ?a3 ?l3 ?c3 ?k3 ?a4 ?l4 ?c4 ?k4 ?a5 ?l5 ?c5 ?k5 ?a6 ?l6 ?c6 ?k6 ?a7 ?l7 ?c7 ?k7 ?a8 ?l8 ?c8 ?k8 ?a9 ?l9 ?c9 ?k9 ?a10 ?l10 ?c10 ?k10 ?a11 ?l11 ?c11 ?k11 ?a12 ?l12 ?c12 ?k12 ?a13 ?l13 ?c13 ?k13 ?a14 ?l14 ?c14 ?k14 ?a15 ?l15 ?c15 ?k15 ?a16 ?l16 ?c16 ?k16 ?a17 ?l17 ?c17 ?k17 ?a18 ?l18 ?c18 ?k18 ?a19 ?l19 ?c19 ?k19 ?a20 ?l20 ?c20 ?k20 ?a21 ?l21 ?c21 ?k21 ?a22 ?l22 ?c22 ?k22 ?a23 ?l23 ?c23 ?k23 ?a24 ?l24 ?c24 ?k24 ?a25 ?l25 ?c25 ?k25 ?a26 ?l26 ?c26 ?k26 ?a27 ?l27 ?c27 ?k27 ?a28 ?l28 ?c28 ?k28 ?a29 ?l29 ?c29 ?k29 ?a30 ?l30 ?c30 ?k30 ?a31 ?l31 ?c31 ?k31 ?a32 ?l32 ?c32 ?k32 ?a33 ?l33 ?c33 ?k33 ?a34 ?l34 ?c34 ?k34 ?a35 ?l35 ?c35 ?k35 ?a36 ?l36 ?c36 ?k36 ?a37 ?l37 ?c37 ?k37 ?a38 ?l38 ?c38 ?k38 ?a39 ?l39 ?c39 ?k39 ?a40 ?l40 ?c40 ?k40 ?a41 ?l41 ?c41 ?k41 ?a42 ?l42 ?c42 ?k42 ?a43 ?l43 ?c43 ?k43 ?a44 ?l44 ?c44 ?k44 ?a45 ?l45 ?c45 ?k45 ?a46 ?l46 ?c46 ?k46 ?a47 ?l47 ?c47 ?k47 ?a48 ?l48 ?c48 ?k48 ?a49 ?l49 ?c49 ?k49 ?a50 ?l50 ?c50 ?k50 ?a51 ?l51 ?c51 ?k51 ?a52 ?l52 ?c52 ?k52 ?a53 ?l53 ?c53 ?k53 ?a54 ?l54 ?c54 ?k54 ?a55 ?l55 ?c55 ?k55 ?a56 ?l56 ?c56 ?k56 ?a57 ?l57 ?c57 ?k57 ?a58 ?l58 ?c58 ?k58 ?a59 ?l59 ?c59 ?k59 ?a60 ?l60 ?c60 ?k60 ?a61 ?l61 ?c61 ?k61 ?a62 ?l62 ?c62 ?k62 ?eD ?eL ?eN ?eF ?eM ?eG ?eP ?lT ?eA ?eO ?lO ?eE ?lE ?eB ?lB ?qB ?eH ?lH ?qH ?z1 ?z2 ?z3 ?z4 ?z5 ?z6 ?z7 ?z8 ?z9 ?z10 ?z11
    (case a1 => k_is)
    (case l1 => k_is)
    (case c1 => k_is)
    (case k1 => k_is)
    (case a2 => k_is)
    (case l2 => k_is)
    (case c2 => k_is)
    (case k2 => k_is)
    (case a3 => k_is)
    (case l3 => k_is)
    (case c3 => k_is)
    (case k3 => k_is)
    (case a4 => k_is)
    (case l4 => k_is)
    (case c4 => k_is)
    (case k4 => k_is)
    (case a5 => k_is)
    (case l5 => k_is)
    (case c5 => k_is)
    (case k5 => k_is)
    (case a6 => k_is)
    (case l6 => k_is)
    (case c6 => k_is)
    (case k6 => k_is)
    (case a7 => k_is)
    (case l7 => k_is)
    (case c7 => k_is)
    (case k7 => k_is)
    (case a8 => k_is)
    (case l8 => k_is)
    (case c8 => k_is)
    (case k8 => k_is)
    (case a9 => k_is)
    (case l9 => k_is)
    (case c9 => k_is)
    (case k9 => k_is)
    (case a10 => k_is)
    (case l10 => k_is)
    (case c10 => k_is)
    (case k10 => k_is)
    (case a11 => k_is)
    (case l11 => k_is)
    (case c11 => k_is)
    (case k11 => k_is)
    (case a12 => k_is)
    (case l12 => k_is)
    (case c12 => k_is)
    (case k12 => k_is)
    (case a13 => k_is)
    (case l13 => k_is)
    (case c13 => k_is)
    (case k13 => k_is)
    (case a14 => k_is)
    (case l14 => k_is)
    (case c14 => k_is)
    (case k14 => k_is)
    (case a15 => k_is)
    (case l15 => k_is)
    (case c15 => k_is)
    (case k15 => k_is)
    (case a16 => k_is)
    (case l16 => k_is)
    (case c16 => k_is)
    (case k16 => k_is)
    (case a17 => k_is)
    (case l17 => k_is)
    (case c17 => k_is)
    (case k17 => k_is)
    (case a18 => k_is)
    (case l18 => k_is)
    (case c18 => k_is)
    (case k18 => k_is)
    (case a19 => k_is)
    (case l19 => k_is)
    (case c19 => k_is)
    (case k19 => k_is)
    (case a20 => k_is)
    (case l20 => k_is)
    (case c20 => k_is)
    (case k20 => k_is)
    (case a21 => k_is)
    (case l21 => k_is)
    (case c21 => k_is)
    (case k21 => k_is)
    (case a22 => k_is)
    (case l22 => k_is)
    (case c22 => k_is)
    (case k22 => k_is)
    (case a23 => k_is)
    (case l23 => k_is)
    (case c23 => k_is)
    (case k23 => k_is)
    (case a24 => k_is)
    (case l24 => k_is)
    (case c24 => k_is)
    (case k24 => k_is)
    (case a25 => k_is)
    (case l25 => k_is)
    (case c25 => k_is)
    (case k25 => k_is)
    (case a26 => k_is)
    (case l26 => k_is)
    (case c26 => k_is)
    (case k26 => k_is)
    (case a27 => k_is)
    (case l27 => k_is)
    (case c27 => k_is)
    (case k27 => k_is)
    (case a28 => k_is)
    (case l28 => k_is)
    (case c28 => k_is)
    (case k28 => k_is)
    (case a29 => k_is)
    (case l29 => k_is)
    (case c29 => k_is)
    (case k29 => k_is)
    (case a30 => k_is)
    (case l30 => k_is)
    (case c30 => k_is)
    (case k30 => k_is)
    (case a31 => k_is)
    (case l31 => k_is)
    (case c31 => k_is)
    (case k31 => k_is)
    (case a32 => k_is)
    (case l32 => k_is)
    (case c32 => k_is)
    (case k32 => k_is)
    (case a33 => k_is)
    (case l33 => k_is)
    (case c33 => k_is)
    (case k33 => k_is)
    (case a34 => k_is)
    (case l34 => k_is)
    (case c34 => k_is)
    (case k34 => k_is)
    (case a35 => k_is)
    (case l35 => k_is)
    (case c35 => k_is)
    (case k35 => k_is)
    (case a36 => k_is)
    (case l36 => k_is)
    (case c36 => k_is)
    (case k36 => k_is)
    (case a37 => k_is)
    (case l37 => k_is)
    (case c37 => k_is)
    (case k37 => k_is)
    (case a38 => k_is)
    (case l38 => k_is)
    (case c38 => k_is)
    (case k38 => k_is)
    (case a39 => k_is)
    (case l39 => k_is)
    (case c39 => k_is)
    (case k39 => k_is)
    (case a40 => k_is)
    (case l40 => k_is)
    (case c40 => k_is)
    (case k40 => k_is)
    (case a41 => k_is)
    (case l41 => k_is)
    (case c41 => k_is)
    (case k41 => k_is)
    (case a42 => k_is)
    (case l42 => k_is)
    (case c42 => k_is)
    (case k42 => k_is)
    (case a43 => k_is)
    (case l43 => k_is)
    (case c43 => k_is)
    (case k43 => k_is)
    (case a44 => k_is)
    (case l44 => k_is)
    (case c44 => k_is)
    (case k44 => k_is)
    (case a45 => k_is)
    (case l45 => k_is)
    (case c45 => k_is)
    (case k45 => k_is)
    (case a46 => k_is)
    (case l46 => k_is)
    (case c46 => k_is)
    (case k46 => k_is)
    (case a47 => k_is)
    (case l47 => k_is)
    (case c47 => k_is)
    (case k47 => k_is)
    (case a48 => k_is)
    (case l48 => k_is)
    (case c48 => k_is)
    (case k48 => k_is)
    (case a49 => k_is)
    (case l49 => k_is)
    (case c49 => k_is)
    (case k49 => k_is)
    (case a50 => k_is)
    (case l50 => k_is)
    (case c50 => k_is)
    (case k50 => k_is)
    (case a51 => k_is)
    (case l51 => k_is)
    (case c51 => k_is)
    (case k51 => k_is)
    (case a52 => k_is)
    (case l52 => k_is)
    (case c52 => k_is)
    (case k52 => k_is)
    (case a53 => k_is)
    (case l53 => k_is)
    (case c53 => k_is)
    (case k53 => k_is)
    (case a54 => k_is)
    (case l54 => k_is)
    (case c54 => k_is)
    (case k54 => k_is)
    (case a55 => k_is)
    (case l55 => k_is)
    (case c55 => k_is)
    (case k55 => k_is)
    (case a56 => k_is)
    (case l56 => k_is)
    (case c56 => k_is)
    (case k56 => k_is)
    (case a57 => k_is)
    (case l57 => k_is)
    (case c57 => k_is)
    (case k57 => k_is)
    (case a58 => k_is)
    (case l58 => k_is)
    (case c58 => k_is)
    (case k58 => k_is)
    (case a59 => k_is)
    (case l59 => k_is)
    (case c59 => k_is)
    (case k59 => k_is)
    (case a60 => k_is)
    (case l60 => k_is)
    (case c60 => k_is)
    (case k60 => k_is)
    (case a61 => k_is)
    (case l61 => k_is)
    (case c61 => k_is)
    (case k61 => k_is)
    (case a62 => k_is)
    (case l62 => k_is)
    (case c62 => k_is)
    (case k62 => k_is)
    (case eD => k_is)
    (case eL => k_is)
    (case eN => k_is)
    (case eF => k_is)
    (case eM => k_is)
    (case eG => k_is)
    (case eP => k_is)
    (case lT => k_is)
    (case eA => k_is)
    (case eO => k_is)
    (case lO => k_is)
    (case eE => k_is)
    (case lE => k_is)
    (case eB => k_is)
    (case lB => with_unfolding_all exact rfl)
    (case qB => exact rfl)
    (case eH => k_is)
    (case lH => with_unfolding_all exact rfl)
    (case qH => exact rfl)
    (case z1 => k_is)
    (case z2 => k_is)
    (case z3 => k_is)
    (case z4 => k_is)
    (case z5 => k_is)
    (case z6 => k_is)
    (case z7 => k_is)
    (case z8 => k_is)
    (case z9 => k_is)
    (case z10 => k_is)
    (case z11 => k_is)
#print axioms PySem.Challenge.cw_sealhouse_k17_houses_read_and_written_holds
