import PyProof.Rows.All
import Wide.All
import OpenK.AllK
import Wide.FinOn
import Lean
import PyProof.EqAt
import PyProof.EqKinds
import PyProof.TupleCall
import PySem.Challenge.RW_sealhouse_k41_full_faces
set_option Elab.async false
set_option linter.all false
set_option maxRecDepth 100000
namespace L2
open PySem PySem.Spec PyProof.Rows
abbrev Key:=Sum Int Str
def keyIs:Key→Value→Bool
 |.inl k,v=>Value.isInt k v
 |.inr x,v=>Value.isStrOf x v
def keyH(w:World):Key→Int
 |.inl k=>hashInt k
 |.inr x=>hashStr w x
theorem keyIs_shape:∀{k:Key} {v:Value},keyIs k v=true→(∃i t,k=Sum.inl i∧v=Value.int i t)∨(∃x t,k=Sum.inr x∧v=Value.str x t)
 |.inl i,v,h=>by
  obtain⟨t,e⟩:=Value.isInt_shape (k:=i) (v:=v) h
  exact .inl ⟨i,t,rfl,e⟩
 |.inr x,v,h=>by
  obtain⟨t,e⟩:=Value.isStrOf_shape (x:=x) (v:=v) h
  exact .inr ⟨x,t,rfl,e⟩
theorem keyIs_int(i:Int)(t:Tok):keyIs (.inl i) (.int i t)=true:=by simp [keyIs,Value.isInt]
theorem keyIs_str(x:Str)(t:Tok):keyIs (.inr x) (.str x t)=true:=by simp [keyIs,Value.isStrOf]
theorem key_ll(a b:Int):decide ((Sum.inl a:Key)=Sum.inl b)=(a==b):=by
 by_cases e:a=b
 ·subst e;simp
 ·have h:¬(Sum.inl a:Key)=Sum.inl b:=fun q=>e (Sum.inl.inj q)
  rw [decide_eq_false h]
  exact(beq_eq_false_iff_ne.mpr e).symm
theorem key_rr(a b:Str):decide ((Sum.inr a:Key)=Sum.inr b)=decide (a=b):=by
 by_cases e:a=b
 ·subst e;simp
 ·have h:¬(Sum.inr a:Key)=Sum.inr b:=fun q=>e (Sum.inr.inj q)
  rw [decide_eq_false h,decide_eq_false e]
theorem key_lr(a:Int)(b:Str):decide ((Sum.inl a:Key)=Sum.inr b)=false:=decide_eq_false (fun q=>nomatch q)
theorem key_rl(a:Str)(b:Int):decide ((Sum.inr a:Key)=Sum.inl b)=false:=decide_eq_false (fun q=>nomatch q)
def mixKind(prog:Program)(w:World):PySem.KeyKind prog w Key where
 is:=keyIs
 hash:=keyH w
 inj:=fun v a b ha hb=>by
  rcases keyIs_shape ha with ⟨i,t,rfl,rfl⟩|⟨x,t,rfl,rfl⟩
  ·rcases keyIs_shape hb with ⟨j,u,rfl,e⟩|⟨y,u,rfl,e⟩
   ·injection e with e1 _;rw [e1]
   ·exact nomatch e
  ·rcases keyIs_shape hb with ⟨j,u,rfl,e⟩|⟨y,u,rfl,e⟩
   ·exact nomatch e
   ·injection e with e1 _;rw [e1]
 byValue:=fun k v h=>by
  rcases keyIs_shape h with ⟨i,t,rfl,rfl⟩|⟨x,t,rfl,rfl⟩<;>rfl
 pyHash:=fun hv h=>by
  rcases keyIs_shape hv with ⟨i,t,rfl,rfl⟩|⟨x,t,rfl,rfl⟩
  ·exact wpAny_pyHash_int h
  ·exact wpAny_pyHash_str h
 eqBool:=fun hu hv h=>by
  rcases keyIs_shape hu with ⟨i,t,rfl,rfl⟩|⟨x,t,rfl,rfl⟩
  ·rcases keyIs_shape hv with ⟨j,u,rfl,rfl⟩|⟨y,u,rfl,rfl⟩
   ·rw [key_ll] at h;exact wpAny_eqBool_int h
   ·rw [key_lr] at h;exact SeqAt.EqAt.int_str i t y u _ _ _ _ h
  ·rcases keyIs_shape hv with ⟨j,u,rfl,rfl⟩|⟨y,u,rfl,rfl⟩
   ·rw [key_rl] at h;exact SeqAt.EqAt.str_int x t j u _ _ _ _ h
   ·rw [key_rr] at h;exact wpAny_eqBool_str h
 «strs»:=fun k x t v h=>by
  rcases keyIs_shape h with ⟨i,u,rfl,e⟩|⟨y,u,rfl,e⟩
  ·exact nomatch e
  ·injection e with e1 _
   subst e1
   cases v<;>rfl
theorem mixKind_is(prog:Program)(w:World)(k:Key)(v:Value):(mixKind prog w).is k v=keyIs k v:=rfl
theorem mixKind_int(prog:Program)(w:World)(i:Int)(t:Tok):(mixKind prog w).is (.inl i) (.int i t)=true:=keyIs_int i t
theorem mixKind_str(prog:Program)(w:World)(x:Str)(t:Tok):(mixKind prog w).is (.inr x) (.str x t)=true:=keyIs_str x t
end L2
namespace L2
open PySem PySem.Spec PyProof.Rows
inductive V where
 |non|bl (b:Bool)|int (i:Int)|str (x:Str)|byt (b:Array UInt8)|flt (b:UInt64)|ref (a:Addr)|ty (n:String)
 deriving DecidableEq
def RelV:V→Value→Prop
 |.non,u=>u=Value.none
 |.bl b,u=>u=Value.bool b
 |.int i,u=>∃t,u=Value.int i t
 |.str x,u=>∃t,u=Value.str x t
 |.byt b,u=>∃t,u=Value.bytes b t
 |.flt b,u=>∃t,u=Value.float b t
 |.ref a,u=>u=Value.ref a
 |.ty n,u=>u=Value.type n
abbrev Vals:List V→List Value→Prop:=Paired RelV
theorem Vals.length{xs:List V}{us:List Value}(r:Vals xs us):xs.length=us.length:=Paired.length r
theorem Vals.get:∀{xs:List V} {us:List Value} {i:Nat} {x:V},Vals xs us→xs[i]?=some x→∃u,us[i]?=some u∧RelV x u
 |_,_,_,_,.nil,e=>by simp at e
 |_,_,0,_,.cons r _,e=>by simp at e;subst e;exact⟨_,rfl,r⟩
 |_,_,i+1,x,.cons _ t,e=>by
  obtain⟨u,h1,h2⟩:=Vals.get (i:=i) (x:=x) t (by simpa using e)
  exact⟨u,by simpa using h1,h2⟩
theorem Vals.append:∀{xs ys:List V} {us ws:List Value},Vals xs us→Vals ys ws→Vals (xs++ys) (us++ws)
 |_,_,_,_,.nil,s=>s
 |_,_,_,_,.cons r t,s=>.cons r (Vals.append t s)
theorem Vals.take:∀{xs:List V} {us:List Value} (n:Nat),Vals xs us→Vals (xs.take n) (us.take n)
 |_,_,0,_=>.nil
 |_,_,_+1,.nil=>.nil
 |_,_,n+1,.cons r t=>.cons r (Vals.take n t)
theorem Vals.drop:∀{xs:List V} {us:List Value} (n:Nat),Vals xs us→Vals (xs.drop n) (us.drop n)
 |_,_,0,r=>r
 |_,_,_+1,.nil=>.nil
 |_,_,n+1,.cons _ t=>Vals.drop n t
def RelO:Option V→Option Value→Prop
 |some v,some u=>RelV v u
 |none,none=>True
 |_,_=>False
def KV{κ:Type}:List (κ × V)→List (κ × Value)→Prop:=Paired fun(p:κ × V) (q:κ × Value)=>p.1=q.1∧RelV p.2 q.2
def kV:Key→V
 |.inl i=>.int i
 |.inr x=>.str x
inductive HO where
 |lst (xs:List V)
 |tup (xs:List V)
 |dK (kvs:List (Key × V))|dT (kvs:List (List Key × V))
 |set (S:Int→Bool) (n:Nat)
 |ins (C dx:Addr) (fs:List (Str × V))
 |own (x:Addr)
 |xd (fs:List (Str × V))
 |met (f x:Addr)
 |rng (lo hi:Int)
 |frz (o:Obj) (u:HO)
 |tbl (ps:Array Value)
 |ext (φ:Heap→Prop)
abbrev Hp:=Addr→Option HO
def upd(H:Hp)(a:Addr)(o:HO):Hp:=fun b=>if b=a then some o else H b
theorem upd_same{H:Hp}{a:Addr}{o:HO}:upd H a o a=some o:=by unfold upd;rw [if_pos rfl]
theorem upd_ne{H:Hp}{a b:Addr}{o:HO}(h:b≠a):upd H a o b=H b:=by unfold upd;rw [if_neg h]
theorem upd_upd{H:Hp}{a:Addr}{o u:HO}:upd (upd H a o) a u=upd H a u:=by
 funext b;unfold upd;split<;>rfl
theorem ne_of{H:Hp}{a b:Addr}{o u:HO}(h:H a=some o)(h':H b=some u)(d:o≠u):a≠b:=by
 intro e;subst e;rw [h] at h';exact d (Option.some.inj h')
theorem ne_of_none{H:Hp}{a b:Addr}{o:HO}(h:H a=some o)(h':H b=none):a≠b:=by
 intro e;subst e;rw [h] at h';cases h'
section
variable(P:Program)(w:World)
def ObjOk(H:Hp)(h:Heap)(a:Addr):HO→Prop
 |.lst xs=>xs.length≤sizeLine∧∃(its:List Value) (n:Nat),Vals xs its∧h.get? a=some { cls:=.type "list",data:=.seq its.toArray n }
 |.tup xs=>xs.length≤sizeLine∧∃its:List Value,Vals xs its∧IsTup h a its.toArray
 |.dK kvs=>kvs.length≤sizeLine∧(a==sysModules)=false∧∃vs,KV kvs vs∧h.DictOf (mixKind P w) a vs
 |.dT kvs=>kvs.length≤sizeLine∧(a==sysModules)=false∧∃xs:List (List Key × Addr × Value),
   Paired (fun(p:List Key × V) (q:List Key × Addr × Value)=>p.1=q.1∧H q.2.1=some (.tup (p.1.map kV))∧RelV p.2 q.2.2) kvs xs ∧
   ∃o es ep,h.get? a=some o∧o.ExactDict∧o.data=.dict es ep∧es.toList=xs.map (entryOfKey (tupleKind (mixKind P w)))∧(xs.map (·.1)).Nodup
 |.set S n=>h.SetOf (intKind P w) a S n
 |.ins C dx fs=>H dx=some (.own a)∧fs.length≤1000∧dx≠a∧h.get? a=some (PySem.W.instObj C dx) ∧
   ∃mA,h.Ns1 dx mA∧(∀f,RelO (fs.lookup f) (mA f))∧PySem.Within mA (fs.map (·.1))
 |.own _=>∃o,h.get? a=some o
 |.xd fs=>∃mA,h.Ns1 a mA∧∀f,RelO (fs.lookup f) (mA f)
 |.rng lo hi=>∃t u v,h.get? a=some { cls:=.type "range",data:=.fields #[.int lo t,.int hi u,.int 1 v] }
 |.frz o u=>h.get? a=some o∧ObjOk H h a u
 |.tbl ps=>h.get? a=some { cls:=.none,data:=.fields ps }
 |.met f x=>h.get? a=some (PySem.W.methodObj (.ref f) (.ref x))
 |.ext φ=>φ h∧(∃o,h.get? a=some o)∧∀h1 h2:Heap,φ h1→(∀o,h1.get? a=some o→h2.get? a=some o)→φ h2
def HOk(H:Hp)(h:Heap):Prop:=∀a o,H a=some o→ObjOk P w H h a o
end
section
variable{P:Program}{w:World}{H H':Hp}{h h':Heap}{a:Addr}{o:HO}
theorem ObjOk.lt(x:ObjOk P w H h a o):a < h.objs.size:=by
 cases o with
 |lst xs=>obtain⟨_,_,_,_,e⟩:=x;exact Heap.lt_size e
 |tup xs=>obtain⟨_,_,_,p⟩:=x;exact p.lt
 |dK kvs=>obtain⟨_,_,_,_,o,_,_,e,_⟩:=x;exact Heap.lt_size e
 |dT kvs=>obtain⟨_,_,_,_,o,_,_,e,_⟩:=x;exact Heap.lt_size e
 |set S n=>obtain⟨o,_,_,_,e,_⟩:=x;exact Heap.lt_size e
 |ins C dx fs=>obtain⟨_,_,_,e,_⟩:=x;exact Heap.lt_size e
 |own y=>obtain⟨_,e⟩:=x;exact Heap.lt_size e
 |xd fs=>obtain⟨_,⟨_,_,_,e,_⟩,_⟩:=x;exact Heap.lt_size e
 |rng lo hi=>obtain⟨_,_,_,e⟩:=x;exact Heap.lt_size e
 |frz ob u=>obtain⟨e,_⟩:=x;exact Heap.lt_size e
 |tbl ps=>exact Heap.lt_size (show h.get? a=some _ from x)
 |met f y=>exact Heap.lt_size (show h.get? a=some _ from x)
 |ext φ=>obtain⟨_,⟨_,e⟩,_⟩:=x;exact Heap.lt_size e
theorem Paired.mapP{α β:Type}{F G:α→β→Prop}:∀{l₁:List α} {l₂:List β},Paired F l₁ l₂→(∀a b,F a b→G a b)→Paired G l₁ l₂
 |_,_,.nil,_=>.nil
 |_,_,.cons r t,f=>.cons (f _ _ r) (Paired.mapP t f)
theorem Paired.imp'{α β:Type}{F G:α→β→Prop}(f:∀a b,F a b→G a b){l₁:List α}{l₂:List β}(r:Paired F l₁ l₂):Paired G l₁ l₂:=Paired.mapP r f
theorem ObjOk.stay(x:ObjOk P w H h a o)(k:∀b u,(b=a∨H b=some (.own a))→h.get? b=some u→h'.get? b=some u)
  (ho:∀b,H b=some (.own a)→H' b=some (.own a)) (ht:∀b xs,H b=some (.tup xs)→H' b=some (.tup xs)):ObjOk P w H' h' a o:=by
 induction o with
 |lst xs=>obtain⟨z,its,n,r,e⟩:=x;exact⟨z,its,n,r,k _ _ (.inl rfl) e⟩
 |tup xs=>obtain⟨z,its,r,ob,e,c⟩:=x;exact⟨z,its,r,ob,k _ _ (.inl rfl) e,c⟩
 |dK kvs=>obtain⟨z,y,vs,r,ob,es,ep,e,c⟩:=x;exact⟨z,y,vs,r,ob,es,ep,k _ _ (.inl rfl) e,c⟩
 |dT kvs =>
  obtain⟨z,y,xs,r,ob,es,ep,e,c⟩:=x
  exact⟨z,y,xs,Paired.mapP r fun p q z=>⟨z.1,ht _ _ z.2.1,z.2.2⟩,ob,es,ep,k _ _ (.inl rfl) e,c⟩
 |set S n=>obtain⟨ob,es,ep,t,e,c⟩:=x;exact⟨ob,es,ep,t,k _ _ (.inl rfl) e,c⟩
 |ins C dx fs =>
  obtain⟨d,z,ne,e,mA,⟨od,es,ep,e2,c⟩,r⟩:=x
  exact⟨ho _ d,z,ne,k _ _ (.inl rfl) e,mA,⟨od,es,ep,k _ _ (.inr d) e2,c⟩,r⟩
 |own y=>obtain⟨ob,e⟩:=x;exact⟨ob,k _ _ (.inl rfl) e⟩
 |xd fs=>obtain⟨mA,⟨od,es,ep,e,c⟩,r⟩:=x;exact⟨mA,⟨od,es,ep,k _ _ (.inl rfl) e,c⟩,r⟩
 |rng lo hi=>obtain⟨t,u,v,e⟩:=x;exact⟨t,u,v,k _ _ (.inl rfl) e⟩
 |frz ob u ih=>obtain⟨e,q⟩:=x;exact⟨k _ _ (.inl rfl) e,ih q⟩
 |tbl ps =>
  have e:h.get? a=some { cls:=.none,data:=.fields ps }:=x
  show h'.get? a=some { cls:=.none,data:=.fields ps }
  exact k a _ (.inl rfl) e
 |met f y =>
  have e:h.get? a=some (PySem.W.methodObj (.ref f) (.ref y)):=x
  show h'.get? a=some (PySem.W.methodObj (.ref f) (.ref y))
  exact k a _ (.inl rfl) e
 |ext φ=>obtain⟨p,⟨o,e⟩,st⟩:=x;exact⟨st _ _ p fun o q=>k _ _ (.inl rfl) q,⟨o,k _ _ (.inl rfl) e⟩,st⟩
theorem HOk.lt(x:HOk P w H h)(e:H a=some o):a < h.objs.size:=(x a o e).lt
theorem HOk.fresh(x:HOk P w H h)(e:h.objs.size≤a):H a=none:=by
 cases q:H a with
 |none=>rfl
 |some u=>exact absurd (Nat.lt_of_lt_of_le (x.lt q) e) (Nat.lt_irrefl _)
theorem HOk.kept(x:HOk P w H h)(k:∀b u,h.get? b=some u→h'.get? b=some u):HOk P w H h':=fun a o e =>
 (x a o e).stay (fun b u _ q=>k b u q) (fun _ q=>q) fun _ _ q=>q
theorem HOk.laid(x:HOk P w H h)(k:∀b u,h.get? b=some u→h'.get? b=some u)(hp:h.objs.size≤a)(new:ObjOk P w (upd H a o) h' a o):HOk P w (upd H a o) h':=fun b u e=>by
 have hn:=x.fresh hp
 by_cases hb:b=a
 ·subst hb;rw [upd_same] at e;cases e;exact new
 ·rw [upd_ne hb] at e
  exact(x b u e).stay (fun c v _ q=>k c v q) (fun c q=>by rw [upd_ne (ne_of_none q hn)];exact q) fun c xs q=>by rw [upd_ne (ne_of_none q hn)];exact q
end
def Rd(H:Hp)(a:Addr)(u:HO):Prop:=H a=some u∨∃o,H a=some (.frz o u)
theorem Rd.ok{P:Program}{w:World}{H:Hp}{h:Heap}{a:Addr}{u:HO}(r:Rd H a u)(x:HOk P w H h):ObjOk P w H h a u:=by
 rcases r with r|⟨o,r⟩
 ·exact x a u r
 ·obtain⟨_,q⟩:=x a _ r
  exact q
def Mut:Option HO→Prop
 |some (.lst _)=>True
 |some (.dK _)=>True
 |some (.dT _)=>True
 |some (.set _ _)=>True
 |some (.ins _ _ _)=>True
 |some (.ext _)=>True
 |_=>False
section
variable{P:Program}{w:World}{H:Hp}{h h':Heap}{x e:Addr}{o':HO}
theorem HOk.write(ok:HOk P w H h)(mu:Mut (H x))(he:e=x∨H e=some (.own x))(k:∀b u,b≠e→h.get? b=some u→h'.get? b=some u)(heo:∃u,h'.get? e=some u)
  (new:ObjOk P w (upd H x o') h' x o'):HOk P w (upd H x o') h':=fun b u q=>by
 have nown:∀c y,H c=some (.own y)→c≠x:=fun c y r z=>by subst z;rw [r] at mu;exact mu
 have ntup:∀c xs,H c=some (.tup xs)→c≠x:=fun c xs r z=>by subst z;rw [r] at mu;exact mu
 by_cases hb:b=x
 ·subst hb;rw [upd_same] at q;cases q;exact new
 ·rw [upd_ne hb] at q
  by_cases hbe:b=e
  ·have q':H b=some (.own x):=by
    rcases he with z|z
    ·exact absurd (hbe.trans z) hb
    ·rw [hbe];exact z
   rw [q] at q';cases q'
   obtain⟨v,hv⟩:=heo
   exact⟨v,by rw [hbe];exact hv⟩
  ·refine(ok b u q).stay (fun c v hc r=>k c v ?_ r) (fun c r=>by rw [upd_ne (nown c b r)];exact r) fun c xs r=>by rw [upd_ne (ntup c xs r)];exact r
   rcases hc with rfl|hc
   ·exact hbe
   ·rintro rfl
    rcases he with z|z
    ·exact nown c b hc z
    ·rw [hc] at z;cases z;exact hb rfl
end
structure Un(fs ex:List Addr)(H H':Hp)(h h':Heap):Prop where
 keep:∀b o,h.get? b=some o→H b=none→b∉fs→b∉ex→h'.get? b=some o
 slot:∀b o,h.get? b=some o→H b=none→b∈fs→b∉ex→∃sl,h'.get? b=some { o with slots:=sl }
 free:∀b o,h.get? b=some o→H b=none→b∉ex→H' b=none
 there:∀b o,h.get? b=some o→b∉ex→∃o',h'.get? b=some o'
 tups:∀b xs,H b=some (.tup xs)→H' b=some (.tup xs)
 frzs:∀b o u,H b=some (.frz o u)→H' b=some (.frz o u)
 tbls:∀b ps,H b=some (.tbl ps)→∃more,H' b=some (.tbl (ps++more))
section
variable{fs fs' ex ex':List Addr}{H H1 H2:Hp}{h h1 h2 h':Heap}{a x e:Addr}{o:HO}
theorem Un.any(u:Un fs ex H H1 h h1){b:Addr}{ob:Obj}(q:h.get? b=some ob)(n:H b=none)(hx:b∉ex):∃sl,h1.get? b=some { ob with slots:=sl }:=by
 by_cases hb:b∈fs
 ·exact u.slot b ob q n hb hx
 ·exact⟨ob.slots,u.keep b ob q n hb hx⟩
theorem Un.kept(k:∀b u,h.get? b=some u→h'.get? b=some u):Un fs ex H H h h' :=
 ⟨fun b ob q _ _ _=>k b ob q,fun b ob q _ _ _=>⟨ob.slots,k b ob q⟩,fun _ _ _ n _=>n,fun b ob q _=>⟨ob,k b ob q⟩,fun _ _ q=>q,fun _ _ _ q=>q,fun _ ps q=>⟨#[],by rw [q];simp⟩⟩
theorem Un.refl:Un fs ex H H h h:=Un.kept fun _ _ q=>q
theorem Un.laid(k:∀b u,h.get? b=some u→h'.get? b=some u)(hp:h.objs.size≤a)(hn:H a=none):Un fs ex H (upd H a o) h h' where
 keep:=fun b u q _ _ _=>k b u q
 slot:=fun b u q _ _ _=>⟨u.slots,k b u q⟩
 free:=fun b u q n _=>by rw [upd_ne (Nat.ne_of_lt (Nat.lt_of_lt_of_le (Heap.lt_size q) hp))];exact n
 there:=fun b u q _=>⟨u,k b u q⟩
 tups:=fun b xs q=>by rw [upd_ne (ne_of_none q hn)];exact q
 frzs:=fun b u xs q=>by rw [upd_ne (ne_of_none q hn)];exact q
 tbls:=fun b ps q=>⟨#[],by rw [upd_ne (ne_of_none q hn),q];simp⟩
theorem Un.write(mu:Mut (H x))(he:e=x∨H e=some (.own x))(k:∀b u,b≠e→h.get? b=some u→h'.get? b=some u)(heo:∃u,h'.get? e=some u):Un fs ex H (upd H x o) h h':=by
 have hx:∀b,H b=none→b≠x:=fun b n z=>by subst z;rw [n] at mu;exact mu
 have hb:∀b,H b=none→b≠e:=fun b n z=>by
  subst z
  rcases he with r|r
  ·exact hx b n r
  ·rw [n] at r;cases r
 have hm:∀b u,H b=some u→¬Mut (some u)→b≠x:=fun b u q nm z=>by subst z;rw [q] at mu;exact nm mu
 refine⟨fun b u q n _ _=>k b u (hb b n) q,fun b u q n _ _=>⟨u.slots,k b u (hb b n) q⟩,fun b u q n _=>by rw [upd_ne (hx b n)];exact n,fun b u q _=>?_,
  fun b xs q=>by rw [upd_ne (hm b _ q fun z=>z)];exact q,fun b u xs q=>by rw [upd_ne (hm b _ q fun z=>z)];exact q,fun b ps q=>⟨#[],by rw [upd_ne (hm b _ q fun z=>z),q];simp⟩⟩
 by_cases hbe:b=e
 ·subst hbe;exact heo
 ·exact⟨u,k b u hbe q⟩
end
def trk(h:Heap)(H:Hp):List Addr:=(List.range h.objs.size).filter fun a=>(H a).isSome
def hidT(h:Heap)(H:Hp):Heap:=PySem.W.hideAll h (trk h H)
theorem hidT_size(h:Heap)(H:Hp):(hidT h H).objs.size=h.objs.size:=PySem.W.hideAll_size _ _
theorem hidT_get{h:Heap}{H:Hp}{b:Addr}{o:Obj}(e:h.get? b=some o)(n:H b=none):(hidT h H).get? b=some o :=
 PySem.W.hideAll_get _ e fun hm=>by
  have q:(H b).isSome=true:=(List.mem_filter.mp hm).2
  rw [n] at q;simp at q
theorem of_hidT{h:Heap}{H:Hp}{b:Addr}{o:Obj}(e:(hidT h H).get? b=some o):h.get? b=some o∧H b=none:=by
 have e':h.get? b=some o:=PySem.W.of_hideAll (trk h H) e
 refine⟨e',?_⟩
 cases q:H b with
 |none=>rfl
 |some x =>
  have hm:b∈trk h H:=List.mem_filter.mpr ⟨List.mem_range.mpr (Heap.lt_size e'),by simp [q]⟩
  have z:(hidT h H).get? b=none:=PySem.W.hideAll_none (trk h H) hm
  rw [z] at e;cases e
def allNews(g h:Heap)(L:Addr):List (Addr × Obj):=(List.range h.objs.size).filterMap fun a=>if a=L∨(g.get? a).isSome=true then none else (h.get? a).map fun o=>(a,o)
def rest(g h:Heap)(L d:Addr):List (Addr × Obj):=(allNews g h L).filter fun p=>decide (p.1≠d)
end L2
namespace L2
open PySem PySem.Spec PyProof.Rows
structure Mod(K:PySem.W.Frag)(mg:Str→Option Value)(base:Heap):Prop where
 kin:K.In base
 glob:base.Ns mainGlobals mg
 blt:∃mb,base.Ns builtinsNs mb∧∀x:Str,x≠"__name__"→mb x=bootBuiltins x
 nolimit:base.NoLimit
structure Cx where
 prog:Program
 w:World
 K:PySem.W.Frag
 mg:Str→Option Value
 base:Heap
 A:Around
 N:List Str
 s₀:Shared
 H₀:Hp
 env:Env
 outer:List Env
 stack:List Env
 ex:List Addr
 fn:Str→Bool
 calm:Bool
 pn:List (Addr × Obj)
 xe:Value→Shared→Prop
def frs(l:List Env):List Addr:=l.filterMap (·.frame)
abbrev Cx.fs(X:Cx):List Addr:=frs X.outer
def Vis(sc:Scope)(x:Str):Prop:=sc.names.lookup x=some .local∨sc.names.lookup x=some .cell∨sc.names.lookup x=some .free
def Loc(sc:Scope)(x:Str):Prop:=sc.names.lookup x=some .local∨sc.names.lookup x=some .cell
def Look(env:Env)(h:Heap)(m:Str→Option Value)(x:Str)(u:Value):Prop :=
 (env.kindOf x=some .local∧m x=some u)∨((env.kindOf x=some .cell∨env.kindOf x=some .free)∧∃c,env.cells.lookup x=some c∧h.IsCell c (some u))
structure Cx.Ok(X:Cx):Prop where
 mod:Mod X.K X.mg X.base
 kind:X.env.scope.kind=.function
 glob:X.env.globals=mainGlobals
 blt:X.env.builtins=builtinsNs
 above:X.s₀.heap.objs.size≤X.env.locals
 inj:∀x y c,X.env.cells.lookup x=some c→X.env.cells.lookup y=some c→x=y
 has:∀x,(X.env.kindOf x=some .cell∨X.env.kindOf x=some .free)→∃c,X.env.cells.lookup x=some c
 cab:∀x c,X.fn x=true→X.env.cells.lookup x=some c→X.s₀.heap.objs.size≤c
 hd:X.calm=true→X.A.handled=none
 frames:X.A.frames=some X.stack
 stk:X.stack=X.outer∨(X.stack=X.env::X.outer∧X.env.frame=some X.env.locals)
 exf:∀b∈X.ex,b≠X.env.locals∧∀x c,X.env.cells.lookup x=some c→c≠b
 bs:∀b o,X.base.get? b=some o→X.s₀.heap.get? b=some o∧X.H₀ b=none
 bsz:X.base.objs.size≤X.s₀.heap.objs.size
 noex:∀b o,X.base.get? b=some o→b∉X.ex
 exfs:∀b∈X.ex,b∉X.fs
 funs:X.s₀.heap.FunFrames X.base X.outer
 frf:∀b∈X.fs,X.H₀ b=none
structure Inv(X:Cx)(pins:List (Addr × Obj))(σ:List (Option V))(H:Hp)(s:Shared):Prop where
 ok:X.Ok
 os:s.os=X.s₀.os
 bare:AllBare s.gens
 base:Un X.fs X.ex X.H₀ H X.s₀.heap s.heap
 loc:∃m,s.heap.Ns X.env.locals m∧∀(i:Nat) (x:Str) (v:V),X.N[i]?=some x→σ[i]?=some (some v)→Vis X.env.scope x→∃u,RelV v u∧Look X.env s.heap m x u
 cell:∀x c,X.env.cells.lookup x=some c→∃v,s.heap.IsCell c v
 free:H X.env.locals=none
 freeC:∀x c,X.env.cells.lookup x=some c→H c=none
 pin:∀p∈X.pn++pins,s.heap.get? p.1=some p.2∧H p.1=none∧p.1≠X.env.locals∧p.1∉X.fs∧∀v,p.2.data≠.cell v
 hok:HOk X.prog X.w H s.heap
 len:σ.length=X.N.length
section
variable{X:Cx}{pins:List (Addr × Obj)}{σ:List (Option V)}{H H':Hp}{s:Shared}{h':Heap}
theorem Cx.Ok.nofr(ok:X.Ok){b:Addr}{o:Obj}(e:X.base.get? b=some o):b∉X.fs:=fun hb=>by
 have:=(ok.funs.mem hb).1
 rw [e] at this;cases this
theorem Inv.bs(I:Inv X pins σ H s):∀b o,X.base.get? b=some o→s.heap.get? b=some o∧H b=none:=fun b o e =>
 ⟨I.base.keep b o (I.ok.bs b o e).1 (I.ok.bs b o e).2 (I.ok.nofr e) (I.ok.noex b o e),I.base.free b o (I.ok.bs b o e).1 (I.ok.bs b o e).2 (I.ok.noex b o e)⟩
theorem Inv.bk(I:Inv X pins σ H s):∀b o,X.base.get? b=some o→s.heap.get? b=some o:=fun b o e=>(I.bs b o e).1
theorem Inv.mod(I:Inv X pins σ H s):Mod X.K X.mg X.base:=I.ok.mod
theorem Inv.kIn(I:Inv X pins σ H s):X.K.In s.heap:=I.ok.mod.kin.keeps I.bk
theorem Inv.lt(I:Inv X pins σ H s):X.env.locals < s.heap.objs.size:=let ⟨_,hn,_⟩:=I.loc;hn.lt
theorem Inv.sz(I:Inv X pins σ H s):X.s₀.heap.objs.size≤s.heap.objs.size:=Nat.le_trans I.ok.above (Nat.le_of_lt I.lt)
theorem Inv.nofs(I:Inv X pins σ H s){a:Addr}(h:s.heap.objs.size≤a):a∉X.fs:=fun hb=>by
 obtain⟨_,o,ho,_⟩:=I.ok.funs.mem hb
 exact absurd (Nat.lt_of_lt_of_le (Heap.lt_size ho) (Nat.le_trans I.sz h)) (Nat.lt_irrefl _)
theorem Inv.cne(I:Inv X pins σ H s):∀x c,X.env.cells.lookup x=some c→c≠X.env.locals:=fun x c e z=>by
 obtain⟨v,o,ho,hd⟩:=I.cell x c e
 obtain⟨m,⟨o',es,ep,ho',hd',_⟩,_⟩:=I.loc
 rw [z,ho'] at ho;cases ho;rw [hd'] at hd;cases hd
theorem Inv.funs(I:Inv X pins σ H s):s.heap.FunFrames X.base X.outer:=by
 have all:∀(l:List Env),(∀b∈frs l,b∈X.fs)→X.s₀.heap.FunFrames X.base l→s.heap.FunFrames X.base l:=by
  intro l
  induction l with
  |nil=>intro _ _;trivial
  |cons env r ih =>
   intro hs hl
   obtain⟨hk,⟨L,o,hf,hn,ho,hd⟩,hr⟩:=hl
   have hL:L∈X.fs:=hs L (by unfold frs;rw [List.filterMap_cons,hf];exact List.mem_cons_self)
   obtain⟨sl,e⟩:=I.base.slot L o ho (I.ok.frf L hL) hL fun z=>I.ok.exfs L z hL
   exact⟨hk,⟨L,_,hf,hn,e,hd⟩,ih (fun b hb=>hs b (by unfold frs;rw [List.filterMap_cons,hf];exact List.mem_cons_of_mem _ hb)) hr⟩
 exact all X.outer (fun _ hb=>hb) I.ok.funs
theorem Inv.stack(I:Inv X pins σ H s):s.heap.FunFrames X.base X.stack:=by
 rcases I.ok.stk with e|⟨e,hf⟩
 ·rw [e];exact I.funs
 ·rw [e]
  obtain⟨m,hn,_⟩:=I.loc
  refine .cons (by rw [I.ok.kind];decide) hf hn ?_ I.funs
  exact Heap.get?_none_of_le (Nat.le_trans I.ok.bsz I.ok.above)
theorem Inv.stkSub(I:Inv X pins σ H s):∀b∈frs X.stack,b∈X.env.locals::X.fs:=fun b hb=>by
 rcases I.ok.stk with e|⟨e,hf⟩
 ·rw [e] at hb;exact List.mem_cons_of_mem _ hb
 ·rw [e] at hb
  unfold frs at hb
  rw [List.filterMap_cons,hf] at hb
  exact hb
theorem Inv.stkFree(I:Inv X pins σ H s):∀b∈frs X.stack,H b=none:=fun b hb=>by
 rcases List.mem_cons.mp (I.stkSub b hb) with e|hb
 ·rw [e];exact I.free
 ·obtain⟨_,o,ho,_⟩:=I.ok.funs.mem hb
  exact I.base.free b o ho (I.ok.frf b hb) fun z=>I.ok.exfs b z hb
theorem Inv.step{g':Array GenState}{t':Nat}{d':Drawn}{ch:List Addr}(I:Inv X pins σ H s)
  (hch:∀b∈ch,(b∈X.ex∨X.s₀.heap.objs.size≤b)∧b≠X.env.locals∧(∀x c,X.env.cells.lookup x=some c→c≠b)∧∀p∈X.pn++pins,p.1≠b)
  (keep:∀b o,b≠X.env.locals→b∉X.fs→b∉ch→s.heap.get? b=some o→H b=none→h'.get? b=some o)
  (slot:∀b o,b≠X.env.locals→b∈X.fs→b∉ch→s.heap.get? b=some o→H b=none→∃sl,h'.get? b=some { o with slots:=sl }) (free:∀b o,b∉ch→s.heap.get? b=some o→H b=none→H' b=none)
  (there:∀b o,b∉ch→s.heap.get? b=some o→∃o',h'.get? b=some o')
  (tups:∀b xs,H b=some (.tup xs)→H' b=some (.tup xs)) (frzs:∀b o u,H b=some (.frz o u)→H' b=some (.frz o u)) (tbls:∀b ps,H b=some (.tbl ps)→∃more,H' b=some (.tbl (ps++more)))
  (ns:∀m,s.heap.Ns X.env.locals m→h'.Ns X.env.locals m) (hok:HOk X.prog X.w H' h') (hg:AllBare g') :
  Inv X pins σ H' { s with heap:=h',gens:=g',drawn:=d',toks:=t' }:=by
 have neL:∀b o,X.s₀.heap.get? b=some o→b≠X.env.locals:=fun b o e=>Nat.ne_of_lt (Nat.lt_of_lt_of_le (Heap.lt_size e) I.ok.above)
 have neC:∀b o,X.s₀.heap.get? b=some o→b∉X.ex→b∉ch:=fun b o e hx hb=>by
  rcases (hch b hb).1 with z|z
  ·exact hx z
  ·exact absurd (Nat.lt_of_lt_of_le (Heap.lt_size e) z) (Nat.lt_irrefl _)
 have cellK:∀x c,X.env.cells.lookup x=some c→∀v,s.heap.IsCell c v→h'.IsCell c v:=fun x c e v ⟨o,ho,hd⟩=>by
  have nch:c∉ch:=fun z=>(hch c z).2.2.1 x c e rfl
  by_cases hc:c∈X.fs
  ·obtain⟨sl,q⟩:=slot c o (I.cne x c e) hc nch ho (I.freeC x c e)
   exact⟨_,q,hd⟩
  ·exact⟨o,keep c o (I.cne x c e) hc nch ho (I.freeC x c e),hd⟩
 refine⟨I.ok,I.os,hg,⟨fun b o e n hb hx=>?_,fun b o e n hb hx=>?_,fun b o e n hx=>?_,fun b o e hx=>?_,fun b xs e=>tups b xs (I.base.tups b xs e),fun b o xs e=>frzs b o xs (I.base.frzs b o xs e),fun b ps e=>?_⟩,?_,fun x c e=>?_,?_,fun x c e=>?_,fun p hp=>?_,hok,I.len⟩
 ·exact keep b o (neL b o e) hb (neC b o e hx) (I.base.keep b o e n hb hx) (I.base.free b o e n hx)
 ·obtain⟨sl,e1⟩:=I.base.slot b o e n hb hx
  obtain⟨sl',e2⟩:=slot b _ (neL b o e) hb (neC b o e hx) e1 (I.base.free b o e n hx)
  exact⟨sl',e2⟩
 ·obtain⟨o',e1⟩:=I.base.there b o e hx
  exact free b o' (neC b o e hx) e1 (I.base.free b o e n hx)
 ·obtain⟨o',e1⟩:=I.base.there b o e hx
  exact there b o' (neC b o e hx) e1
 ·obtain⟨m1,e1⟩:=I.base.tbls b ps e
  obtain⟨m2,e2⟩:=tbls b _ e1
  exact⟨m1++m2,by rw [e2,Array.append_assoc]⟩
 ·obtain⟨m,hn,hl⟩:=I.loc
  refine⟨m,ns m hn,fun i x v e1 e2 e3=>?_⟩
  obtain⟨u,r,l⟩:=hl i x v e1 e2 e3
  refine⟨u,r,?_⟩
  rcases l with l|⟨k,c,e,z⟩
  ·exact .inl l
  ·exact .inr ⟨k,c,e,cellK x c e _ z⟩
 ·obtain⟨v,z⟩:=I.cell x c e
  exact⟨v,cellK x c e v z⟩
 ·obtain⟨m,⟨o,_,_,ho,_⟩,_⟩:=I.loc
  exact free _ o (fun z=>(hch _ z).2.1 rfl) ho I.free
 ·obtain⟨v,o,ho,hd⟩:=I.cell x c e
  exact free c o (fun z=>(hch c z).2.2.1 x c e rfl) ho (I.freeC x c e)
 ·obtain⟨e,n,ne,nf,d⟩:=I.pin p hp
  have nch:p.1∉ch:=fun z=>(hch p.1 z).2.2.2 p hp rfl
  exact⟨keep p.1 p.2 ne nf nch e n,free p.1 p.2 nch e n,ne,nf,d⟩
theorem Inv.un{t':Nat}(I:Inv X pins σ H s)(u:Un X.fs [] H H' s.heap h')(hok:HOk X.prog X.w H' h'):Inv X pins σ H' { s with heap:=h',toks:=t' }:=by
 obtain⟨m,⟨o,es,ep,ho,r⟩,_⟩:=id I.loc
 obtain⟨sl,hL⟩:=u.any ho I.free (by simp)
 exact I.step (g':=s.gens) (d':=s.drawn) (ch:=[]) (fun _ z=>nomatch z) (fun b o _ hb _ e n=>u.keep b o e n hb (by simp)) (fun b o _ hb _ e n=>u.slot b o e n hb (by simp)) (fun b o _ e n=>u.free b o e n (by simp)) (fun b o _ e=>u.there b o e (by simp)) u.tups u.frzs u.tbls (fun m' hm=>by
  obtain⟨o',es',ep',ho',r'⟩:=hm
  rw [ho] at ho';cases ho'
  exact⟨_,es',ep',hL,r'⟩) hok I.bare
theorem Inv.call{g':Array GenState}{t':Nat}{d':Drawn}{ch:List Addr}(I:Inv X pins σ H s)(u:Un (frs X.stack) ch H H' s.heap h')(hok:HOk X.prog X.w H' h')(hg:AllBare g')
  (hch:∀b∈ch,(b∈X.ex∨X.s₀.heap.objs.size≤b)∧b≠X.env.locals∧(∀x c,X.env.cells.lookup x=some c→c≠b)∧∀p∈X.pn++pins,p.1≠b) :
  Inv X pins σ H' { s with heap:=h',gens:=g',drawn:=d',toks:=t' }:=by
 obtain⟨m,⟨o,es,ep,ho,r⟩,_⟩:=id I.loc
 obtain⟨sl,hL⟩:=u.any ho I.free fun z=>(hch _ z).2.1 rfl
 exact I.step (ch:=ch) hch (fun b o hL hb hc e n=>u.keep b o e n (fun z=>(List.mem_cons.mp (I.stkSub b z)).elim hL hb) hc) (fun b o _ _ hc e n=>u.any e n hc) (fun b o hc e n=>u.free b o e n hc) (fun b o hc e=>u.there b o e hc) u.tups u.frzs u.tbls (fun m' hm=>by
  obtain⟨o',es',ep',ho',r'⟩:=hm
  rw [ho] at ho';cases ho'
  exact⟨_,es',ep',hL,r'⟩) hok hg
theorem Inv.turned{t':Nat}{it:Addr}(I:Inv X pins σ H s)(k:∀b o,b≠it→s.heap.get? b=some o→h'.get? b=some o)(hn:H it=none)(hL:it≠X.env.locals)
  (h1:it∈X.ex∨X.s₀.heap.objs.size≤it) (h2:∀x c,X.env.cells.lookup x=some c→c≠it) (h3:∀p∈X.pn++pins,p.1≠it):Inv X pins σ H { s with heap:=h',toks:=t' }:=by
 have nit:∀b u,H b=some u→b≠it:=fun b u e z=>by rw [z,hn] at e;cases e
 refine I.step (g':=s.gens) (d':=s.drawn) (ch:=[it]) (fun b hb=>?_) (fun b o _ _ hc e _=>k b o (fun z=>hc (by simp [z])) e) (fun b o _ _ hc e _=>⟨o.slots,k b o (fun z=>hc (by simp [z])) e⟩) (fun _ _ _ _ n=>n)
  (fun b o hc e=>⟨o,k b o (fun z=>hc (by simp [z])) e⟩) (fun _ _ e=>e) (fun _ _ _ e=>e) (fun b ps e=>⟨#[],by rw [e];simp⟩) (fun m hm=>?_) (fun b u e=>?_) I.bare
 ·have e:b=it:=by simpa using hb
  subst e
  exact⟨h1,hL,h2,h3⟩
 ·obtain⟨o,es,ep,ho,r⟩:=hm
  exact⟨o,es,ep,k _ o (Ne.symm hL) ho,r⟩
 ·refine(I.hok b u e).stay (fun c v hc q=>k c v ?_ q) (fun _ q=>q) fun _ _ q=>q
  rcases hc with z|z
  ·rw [z];exact nit b u e
  ·exact nit c _ z
theorem Inv.tok(I:Inv X pins σ H s)(t:Nat):Inv X pins σ H { s with toks:=t }:=I.un (h':=s.heap) (t':=t) Un.refl I.hok
theorem Inv.kept{t':Nat}(I:Inv X pins σ H s)(k:∀b u,s.heap.get? b=some u→h'.get? b=some u):Inv X pins σ H { s with heap:=h',toks:=t' }:=I.un (Un.kept k) (I.hok.kept k)
theorem Inv.laid{a:Addr}{o:HO}{t':Nat}(I:Inv X pins σ H s)(k:∀b u,s.heap.get? b=some u→h'.get? b=some u)(hp:s.heap.objs.size≤a)(new:ObjOk X.prog X.w (upd H a o) h' a o) :
  Inv X pins σ (upd H a o) { s with heap:=h',toks:=t' }:=I.un (Un.laid k hp (I.hok.fresh hp)) (I.hok.laid k hp new)
theorem Inv.write{x e:Addr}{o:HO}{t':Nat}(I:Inv X pins σ H s)(mu:Mut (H x))(he:e=x∨H e=some (.own x))(k:∀b u,b≠e→s.heap.get? b=some u→h'.get? b=some u)(heo:∃u,h'.get? e=some u)
  (new:ObjOk X.prog X.w (upd H x o) h' x o):Inv X pins σ (upd H x o) { s with heap:=h',toks:=t' }:=I.un (Un.write mu he k heo) (I.hok.write mu he k heo new)
theorem Inv.weak{σ':List (Option V)}(I:Inv X pins σ H s)(hl:σ'.length=σ.length)(w:∀(i:Nat) v,σ'[i]?=some (some v)→σ[i]?=some (some v)):Inv X pins σ' H s :=
 ⟨I.ok,I.os,I.bare,I.base,let ⟨m,hn,hl'⟩:=I.loc;⟨m,hn,fun i x v e1 e2 e3=>hl' i x v e1 (w i v e2) e3⟩,I.cell,I.free,I.freeC,I.pin,I.hok,hl.trans I.len⟩
theorem Inv.pins_of{pins':List (Addr × Obj)}(I:Inv X pins σ H s)(h:∀p∈pins',s.heap.get? p.1=some p.2∧H p.1=none∧p.1≠X.env.locals∧p.1∉X.fs∧∀v,p.2.data≠.cell v):Inv X pins' σ H s :=
 ⟨I.ok,I.os,I.bare,I.base,I.loc,I.cell,I.free,I.freeC,fun p hp=>(List.mem_append.mp hp).elim (fun z=>I.pin p (List.mem_append_left _ z)) (h p),I.hok,I.len⟩
theorem nodup_ix{N:List Str}(hN:N.Nodup){i j:Nat}{x:Str}(a:N[i]?=some x)(b:N[j]?=some x):i=j:=by
 obtain⟨h1,e1⟩:=List.getElem?_eq_some_iff.mp a
 obtain⟨h2,e2⟩:=List.getElem?_eq_some_iff.mp b
 exact(List.getElem_inj hN).mp (e1.trans e2.symm)
theorem store_ok2{M:Model}{A:Around}{E:Value→Shared→Prop}{i:Nat}{x:Str}{v:V}{u:Value}{Q:Unit→Shared→Prop}(I:Inv X pins σ H s)(hN:X.N.Nodup)(hi:X.N[i]?=some x)(hx:Loc X.env.scope x)(r:RelV v u)
  (h:∀s',Inv X pins (σ.set i (some v)) H s'→(∃a,Heap.SameBut a s.heap s'.heap∧(a=X.env.locals∨X.env.cells.lookup x=some a))→Q () s') (hf:X.fn x=true∨X.env.scope.names.lookup x=some .local:=by first|exact .inl rfl|exact .inr rfl|assumption):wpAny M A (storeName X.env x u) Q E s:=by
 obtain⟨m,hn,hl⟩:=id I.loc
 have hcls:(X.env.scope.kind==.class||(X.env.scope.kind==.module&&X.env.locals != X.env.globals))=false:=by rw [I.ok.kind];rfl
 have hiσ:i < σ.length:=by rw [I.len];exact(List.getElem?_eq_some_iff.mp hi).1
 have cne:=I.cne
 have tracked:∀{a:Addr} {h':Heap},(∃o,s.heap.get? a=some o∧H a=none)→Heap.SameBut a s.heap h'→HOk X.prog X.w H h':=fun {a h'} ha hs b ob e=>by
  obtain⟨_,_,hfree⟩:=ha
  refine(I.hok b ob e).stay (fun c w' hc q=>(hs.2 c ?_).trans q) (fun _ q=>q) fun _ _ q=>q
  rintro rfl
  rcases hc with rfl|hc
  ·rw [hfree] at e;cases e
  ·rw [hfree] at hc;cases hc
 rcases hx with hk|hk
 ·refine wpAny_storeName_local hk hn (fun h' hn' hs=>?_) hcls
  obtain⟨oL,_,_,hoL,_⟩:=id hn
  refine h _ ⟨I.ok,I.os,I.bare,⟨fun b o e n hb hx=>?_,fun b o e n hb hx=>?_,I.base.free,fun b o e hx=>?_,I.base.tups,I.base.frzs,I.base.tbls⟩,⟨_,hn',fun j y v' e1 e2 e3=>?_⟩,fun y c e=>?_,I.free,I.freeC,fun p hp=>?_,tracked ⟨oL,hoL,I.free⟩ hs,by simpa using I.len⟩ ⟨_,hs,.inl rfl⟩
  ·exact(hs.2 b (Nat.ne_of_lt (Nat.lt_of_lt_of_le (Heap.lt_size e) I.ok.above))).trans (I.base.keep b o e n hb hx)
  ·obtain⟨sl,e1⟩:=I.base.slot b o e n hb hx
   exact⟨sl,(hs.2 b (Nat.ne_of_lt (Nat.lt_of_lt_of_le (Heap.lt_size e) I.ok.above))).trans e1⟩
  ·obtain⟨o',e1⟩:=I.base.there b o e hx
   exact⟨o',(hs.2 b (Nat.ne_of_lt (Nat.lt_of_lt_of_le (Heap.lt_size e) I.ok.above))).trans e1⟩
  ·by_cases hj:j=i
   ·subst hj
    rw [hi] at e1;cases e1
    rw [List.getElem?_set_self hiσ] at e2
    cases e2
    exact⟨u,r,.inl ⟨hk,by simp⟩⟩
   ·rw [List.getElem?_set_ne (Ne.symm hj)] at e2
    obtain⟨u',r',q⟩:=hl j y v' e1 e2 e3
    refine⟨u',r',?_⟩
    rcases q with ⟨k,e⟩|⟨k,c,e,z⟩
    ·refine .inl ⟨k,?_⟩
     have:y≠x:=fun e=>hj (nodup_ix hN e1 (e▸hi))
     simp [this,e]
    ·exact .inr ⟨k,c,e,z.sameBut hs (cne y c e)⟩
  ·obtain⟨w',z⟩:=I.cell y c e
   exact⟨w',z.sameBut hs (cne y c e)⟩
  ·obtain⟨e,n,ne,nf,d⟩:=I.pin p hp
   exact⟨(hs.2 p.1 ne).trans e,n,ne,nf,d⟩
 ·have hfn:X.fn x=true:=by
   rcases hf with z|z
   ·exact z
   ·rw [z] at hk;cases hk
  obtain⟨c,hc⟩:=I.ok.has x (.inl hk)
  obtain⟨w',z⟩:=I.cell x c hc
  refine wpAny_storeName_cell I.ok.kind hk hc z (fun h' hc' hs=>?_)
  obtain⟨oc,hoc,hocd⟩:=id z
  refine h { s with heap:=h' } ⟨I.ok,I.os,I.bare,⟨fun b o e n hb hx=>?_,fun b o e n hb hx=>?_,I.base.free,fun b o e hx=>?_,I.base.tups,I.base.frzs,I.base.tbls⟩,⟨m,hn.sameBut hs (Ne.symm (cne x c hc)),fun j y v' e1 e2 e3=>?_⟩,fun y c' e=>?_,I.free,I.freeC,fun p hp=>?_,tracked ⟨oc,hoc,I.freeC x c hc⟩ hs,by simpa using I.len⟩ ⟨c,hs,.inr hc⟩
  ·exact(hs.2 b (Nat.ne_of_lt (Nat.lt_of_lt_of_le (Heap.lt_size e) (I.ok.cab x c hfn hc)))).trans (I.base.keep b o e n hb hx)
  ·obtain⟨sl,e1⟩:=I.base.slot b o e n hb hx
   exact⟨sl,(hs.2 b (Nat.ne_of_lt (Nat.lt_of_lt_of_le (Heap.lt_size e) (I.ok.cab x c hfn hc)))).trans e1⟩
  ·obtain⟨o',e1⟩:=I.base.there b o e hx
   exact⟨o',(hs.2 b (Nat.ne_of_lt (Nat.lt_of_lt_of_le (Heap.lt_size e) (I.ok.cab x c hfn hc)))).trans e1⟩
  ·by_cases hj:j=i
   ·subst hj
    rw [hi] at e1;cases e1
    rw [List.getElem?_set_self hiσ] at e2
    cases e2
    exact⟨u,r,.inr ⟨.inl hk,c,hc,hc'⟩⟩
   ·rw [List.getElem?_set_ne (Ne.symm hj)] at e2
    obtain⟨u',r',q⟩:=hl j y v' e1 e2 e3
    refine⟨u',r',?_⟩
    rcases q with q|⟨k,c',e,z'⟩
    ·exact .inl q
    ·refine .inr ⟨k,c',e,z'.sameBut hs ?_⟩
     rintro rfl
     exact hj (nodup_ix hN e1 (I.ok.inj _ _ _ e hc▸hi))
  ·by_cases hcc:c'=c
   ·subst hcc;exact⟨_,hc'⟩
   ·obtain⟨w2,z2⟩:=I.cell y c' e
    exact⟨w2,z2.sameBut hs hcc⟩
  ·obtain⟨e,n,ne,nf,d⟩:=I.pin p hp
   refine⟨(hs.2 p.1 ?_).trans e,n,ne,nf,d⟩
   intro q
   rw [q,hoc] at e
   have q':oc=p.2:=Option.some.inj e
   exact d w' (by rw [←q'];exact hocd)
theorem store_ok{M:Model}{A:Around}{E:Value→Shared→Prop}{i:Nat}{x:Str}{v:V}{u:Value}{Q:Unit→Shared→Prop}(I:Inv X pins σ H s)(hN:X.N.Nodup)(hi:X.N[i]?=some x)(hx:Loc X.env.scope x)(r:RelV v u)
  (h:∀s',Inv X pins (σ.set i (some v)) H s'→Q () s') (hf:X.fn x=true∨X.env.scope.names.lookup x=some .local:=by first|exact .inl rfl|exact .inr rfl|assumption):wpAny M A (storeName X.env x u) Q E s :=
 store_ok2 I hN hi hx r (fun s' I' _=>h s' I') hf
theorem Inv.call'{s':Shared}{ch:List Addr}(I:Inv X pins σ H s)(ho:s'.os=s.os)(u:Un (frs X.stack) ch H H' s.heap s'.heap)(hok:HOk X.prog X.w H' s'.heap)(hg:AllBare s'.gens)
  (hch:∀b∈ch,(b∈X.ex∨X.s₀.heap.objs.size≤b)∧b≠X.env.locals∧(∀x c,X.env.cells.lookup x=some c→c≠b)∧∀p∈X.pn++pins,p.1≠b):Inv X pins σ H' s':=by
 obtain⟨h',g',d',t',o'⟩:=s'
 have e:o'=s.os:=ho
 subst e
 exact I.call (g':=g') (t':=t') (d':=d') u hok hg hch
end
abbrev XK:=Value→Option Addr→Hp→Prop
abbrev St:=List (Option V)
abbrev VK:=V→Hp→Prop
abbrev TE:=St→Hp→VK→Prop
abbrev TT:=St→Hp→(Bool→Hp→Prop)→Prop
abbrev TA:=St→Hp→(List V→Hp→Prop)→Prop
structure Ends where
 nx:St→Hp→Prop
 rt:VK
 bk:St→Hp→Prop:=fun _ _=>False
 ct:St→Hp→Prop:=fun _ _=>False
abbrev TS:=Ends→St→Hp→Prop
def EP(X:Cx)(pins:List (Addr × Obj))(σ:St)(Q:VK)(u:Value)(s':Shared):Prop:=∃v H',Inv X pins σ H' s'∧RelV v u∧Q v H'
def TP(X:Cx)(pins:List (Addr × Obj))(σ:St)(Q:Bool→Hp→Prop)(b:Bool)(s':Shared):Prop:=∃H',Inv X pins σ H' s'∧Q b H'
def AP(X:Cx)(pins:List (Addr × Obj))(σ:St)(Q:List V→Hp→Prop)(us:List Value)(s':Shared):Prop:=∃vs H',Inv X pins σ H' s'∧Vals vs us∧Q vs H'
def SP(X:Cx)(pins:List (Addr × Obj))(D:Ends)(f:Flow)(s':Shared):Prop :=
 match f with
 |.next=>∃σ' H',Inv X pins σ' H' s'∧D.nx σ' H'
 |.brk=>∃σ' H',Inv X pins σ' H' s'∧D.bk σ' H'
 |.cont=>∃σ' H',Inv X pins σ' H' s'∧D.ct σ' H'
 |.ret u=>∃v σ' H',Inv X pins σ' H' s'∧RelV v u∧D.rt v H'
def PE(X:Cx)(e:Expr)(t:TE):Prop :=
 ∀(pins:List (Addr × Obj)) (s:Shared) (σ:St) (H:Hp) (Q:VK),Inv X pins σ H s→t σ H Q→wpAny (model X.prog X.w) X.A (eval e X.env) (EP X pins σ Q) X.xe s
def PT(X:Cx)(e:Expr)(t:TT):Prop :=
 ∀(pins:List (Addr × Obj)) (s:Shared) (σ:St) (H:Hp) (Q:Bool→Hp→Prop),Inv X pins σ H s→t σ H Q→wpAny (model X.prog X.w) X.A (isTrue e X.env (eval e X.env)) (TP X pins σ Q) X.xe s
def PW(X:Cx)(e:Expr)(t:TT):Prop :=
 ∀(whole:Sem Value) (pins:List (Addr × Obj)) (s:Shared) (σ:St) (H:Hp) (Q:Bool→Hp→Prop),Inv X pins σ H s→t σ H Q→wpAny (model X.prog X.w) X.A (isTrue e X.env whole) (TP X pins σ Q) X.xe s
theorem PW.pt{X:Cx}{e:Expr}{t:TT}(h:PW X e t):PT X e t:=h _
def PA(X:Cx)(es:List Expr)(t:TA):Prop :=
 ∀(pos:Pos) (pins:List (Addr × Obj)) (s:Shared) (σ:St) (H:Hp) (Q:List V→Hp→Prop),Inv X pins σ H s→t σ H Q→wpAny (model X.prog X.w) X.A (spliced (backTo pos (starEach es X.env))) (AP X pins σ Q) X.xe s
def PS(X:Cx)(st:Stmt)(t:TS):Prop :=
 ∀(pins:List (Addr × Obj)) (s:Shared) (σ:St) (H:Hp) (D:Ends),Inv X pins σ H s→t D σ H→wpAny (model X.prog X.w) X.A (exec st X.env) (SP X pins D) X.xe s
def PSs(X:Cx)(st:List Stmt)(t:TS):Prop :=
 ∀(pins:List (Addr × Obj)) (s:Shared) (σ:St) (H:Hp) (D:Ends),Inv X pins σ H s→t D σ H→wpAny (model X.prog X.w) X.A (execs st X.env) (SP X pins D) X.xe s
theorem thn{α:Type}{t:Sem α}{Q Q':α→Shared→Prop}{M:Model}{A:Around}{E:Value→Shared→Prop}{s:Shared}(h:wpAny M A t Q E s)(hQ:∀a s,Q a s→Q' a s):wpAny M A t Q' E s:=wpAny_mono h hQ fun _ _ x=>x
end L2
namespace L2
open PySem PySem.Spec PyProof.Rows
section
variable{X:Cx}
def tVar(i:Nat):TE:=fun σ H Q=>∃v,σ[i]?=some (some v)∧Q v H
def tC(v:V):TE:=fun _ H Q=>Q v H
theorem pe_var{i:Nat}{x:Str}{pos:Pos}(hN:X.N[i]?=some x)(hv:Vis X.env.scope x) (hd:(x==("__debug__":Str))=false:=by decide) (hcd:(x==("__classdict__":Str))=false:=by decide):PE X (.Name x pos) (tVar i):=by
 intro pins s σ H Q I h
 obtain⟨v,e,h⟩:=h
 obtain⟨m,hn,hl⟩:=I.loc
 obtain⟨u,r,l⟩:=hl i x v hN e hv
 have fin:EP X pins σ Q u s:=⟨v,H,I,r,h⟩
 rcases l with ⟨hk,hm⟩|⟨hk,c,hc,hcell⟩
 ·exact wpAny_Name (wpAny_loadName_local I.ok.kind hk hn hm fin) hd
 ·rcases hk with hk|hk
  ·exact wpAny_Name (wpAny_loadName_cell I.ok.kind hk hc hcell fin) hd
  ·exact wpAny_Name (wpAny_loadName_free I.ok.kind hk hc hcell fin hcd) hd
theorem pe_int{i j pos}:PE X (.Constant (.int i) j pos) (tC (.int i)):=fun _ _ _ H _ I h=>wpAny_Constant_int ⟨.int i,H,I.tok _,⟨_,rfl⟩,h⟩
theorem pe_bl{b j pos}:PE X (.Constant (.bool b) j pos) (tC (.bl b)):=fun _ _ _ H _ I h=>Constant_bool ⟨.bl b,H,I,rfl,h⟩
theorem pe_non{j pos}:PE X (.Constant .none j pos) (tC .non):=fun _ _ _ H _ I h=>Constant_none ⟨.non,H,I,rfl,h⟩
theorem pe_str{x j pos}:PE X (.Constant (.str x) j pos) (tC (.str x)):=fun _ _ _ H _ I h=>Calls.Constant_str ⟨.str x,H,I.tok _,⟨_,rfl⟩,h⟩
def Gl(X:Cx)(x:Str):Prop:=X.env.kindOf x=some .globalImplicit
theorem ld_glob{E:Value→Shared→Prop}{pins:List (Addr × Obj)}{s:Shared}{σ:St}{H:Hp}{x:Str}{u:Value}{pos:Pos}{Q:Value→Shared→Prop}(I:Inv X pins σ H s)(hg:Gl X x)(hm:X.mg x=some u)(h:Q u s)
  (hd:(x==("__debug__":Str))=false:=by decide):wpAny (model X.prog X.w) X.A (eval (.Name x pos) X.env) Q E s :=
 Calls.Name_function_global I.ok.kind hg (Calls.loadGlobal_global (by rw [I.ok.glob];exact I.mod.glob.keeps I.bk) hm h) hd
theorem ld_blt{E:Value→Shared→Prop}{pins:List (Addr × Obj)}{s:Shared}{σ:St}{H:Hp}{x:Str}{u:Value}{pos:Pos}{Q:Value→Shared→Prop}(I:Inv X pins σ H s)(hg:Gl X x)(hm:X.mg x=none)(hv:bootBuiltins x=some u)(h:Q u s)
  (hn:x≠"__name__":=by decide) (hd:(x==("__debug__":Str))=false:=by decide):wpAny (model X.prog X.w) X.A (eval (.Name x pos) X.env) Q E s:=by
 obtain⟨mb,h1,h2⟩:=I.mod.blt
 exact Calls.Name_function_global I.ok.kind hg (Calls.loadGlobal_builtin (by rw [I.ok.glob];exact I.mod.glob.keeps I.bk) hm (by rw [I.ok.blt];exact h1.keeps I.bk) ((h2 x hn).trans hv) h) hd
theorem pe_glob{x:Str}{v:V}{u:Value}{pos:Pos}(hg:Gl X x)(hm:X.mg x=some u)(r:RelV v u) (hd:(x==("__debug__":Str))=false:=by decide):PE X (.Name x pos) (tC v) :=
 fun _ _ _ H _ I h=>ld_glob I hg hm ⟨v,H,I,r,h⟩ hd
theorem pe_bltn{x:Str}{v:V}{u:Value}{pos:Pos}(hg:Gl X x)(hm:X.mg x=none)(hv:bootBuiltins x=some u)(r:RelV v u) (hn:x≠"__name__":=by decide) (hd:(x==("__debug__":Str))=false:=by decide):PE X (.Name x pos) (tC v) :=
 fun _ _ _ H _ I h=>ld_blt I hg hm hv ⟨v,H,I,r,h⟩ hn hd
variable{a b:Expr}{ta tb:TE}{pos:Pos}
def PC(X:Cx)(op:CmpOp)(a b:Expr)(t:TE):Prop :=
 ∀(pins:List (Addr × Obj)) (s:Shared) (σ:St) (H:Hp) (Q:VK),Inv X pins σ H s→t σ H Q →
  wpAny (model X.prog X.w) X.A (eval a X.env) (fun v s₁=>wpAny (model X.prog X.w) X.A (eval b X.env) (fun u s₂=>wpAny (model X.prog X.w) X.A (compareOp op v u) (EP X pins σ Q) X.xe s₂) X.xe s₁) X.xe s
def tB(t:TE):TT:=fun σ H Q=>t σ H fun x H1=>∃c,x=.bl c∧Q c H1
theorem pt_cmp{op:CmpOp}{t:TE}(h:PC X op a b t)(h1:behindInMarks op b=false:=by first|exact nobehind _ (by decide) (by decide)|rfl):PT X (.Compare a [op] [b] pos) (tB t):=by
 intro pins s σ H Q I hw
 refine wpAny_isTrue_Compare1 (thn (h pins s σ H _ I hw) fun v s1 h1=>thn h1 fun u s2 h2=>thn h2 fun c s3 ⟨x,H1,I1,r1,q1⟩=>?_) h1
 obtain⟨d,rfl,q⟩:=q1
 cases r1
 exact wpAny_truthy_bool ⟨H1,I1,q⟩
theorem pt_val{e:Expr}{t:TE}(h:PE X e t)(he:∀whole,isTrue e X.env whole=(do let v ←whole;standAt e.pos;holding [v] (truthy v)):=by intro _;rfl):PT X e (tB t):=by
 intro pins s σ H Q I hw
 refine isTrue_plain (thn (h pins s σ H _ I hw) fun v s1 ⟨x,H1,I1,r1,q1⟩=>?_) (he _)
 obtain⟨d,rfl,q⟩:=q1
 cases r1
 exact wpAny_truthy_bool ⟨H1,I1,q⟩
variable{tA tB':TT}{rest:List Expr}
def tAnd(t u:TT):TT:=fun σ H Q=>t σ H fun c H1=>if c=true then u σ H1 Q else Q false H1
def tOr(t u:TT):TT:=fun σ H Q=>t σ H fun c H1=>if c=true then Q true H1 else u σ H1 Q
def tNot(t:TT):TT:=fun σ H Q=>t σ H fun c H1=>Q (!c) H1
theorem pw_and1(ha:PT X a tA):PW X (.BoolOp .And [a] pos) tA:=by
 intro wh pins s σ H Q I h
 refine isTrue_and (thn (ha pins s σ H Q I h) fun c s1 e=>?_)
 cases c with
 |true=>exact isTrue_and_nil e
 |false=>exact e
theorem pw_or1(ha:PT X a tA):PW X (.BoolOp .Or [a] pos) tA:=by
 intro wh pins s σ H Q I h
 refine isTrue_or (thn (ha pins s σ H Q I h) fun c s1 e=>?_)
 cases c with
 |false=>exact isTrue_or_nil e
 |true=>exact e
theorem pw_and(ha:PT X a tA)(hb:PW X (.BoolOp .And (b::rest) pos) tB'):PW X (.BoolOp .And (a::b::rest) pos) (tAnd tA tB'):=by
 intro wh pins s σ H Q I h
 refine isTrue_and (thn (ha pins s σ H _ I h) fun c s1 ⟨H1,I1,q1⟩=>?_)
 cases c with
 |true=>exact hb wh pins s1 σ H1 Q I1 q1
 |false=>exact⟨H1,I1,q1⟩
theorem pw_or(ha:PT X a tA)(hb:PW X (.BoolOp .Or (b::rest) pos) tB'):PW X (.BoolOp .Or (a::b::rest) pos) (tOr tA tB'):=by
 intro wh pins s σ H Q I h
 refine isTrue_or (thn (ha pins s σ H _ I h) fun c s1 ⟨H1,I1,q1⟩=>?_)
 cases c with
 |true=>exact⟨H1,I1,q1⟩
 |false=>exact hb wh pins s1 σ H1 Q I1 q1
theorem pt_not(ha:PT X a tA):PT X (.UnaryOp .Not a pos) (tNot tA):=by
 intro pins s σ H Q I h
 exact isTrue_not (ha pins s σ H (fun c H1=>Q (!c) H1) I h)
def tAndV(ta tb:TE):TE:=fun σ H Q=>ta σ H fun x H1=>∃c,x=.bl c∧if c=true then tb σ H1 Q else Q (.bl false) H1
def tNotV(ta:TE):TE:=fun σ H Q=>ta σ H fun x H1=>∃c,x=.bl c∧Q (.bl (!c)) H1
theorem pe_one{op}{t:TE}(h:PE X a t):PE X (.BoolOp op [a] pos) t:=fun pins s σ H Q I hw=>BoolOp_one (h pins s σ H Q I hw)
theorem pe_and(ha:PE X a ta)(hb:PE X (.BoolOp .And (b::rest) pos) tb):PE X (.BoolOp .And (a::b::rest) pos) (tAndV ta tb):=by
 intro pins s σ H Q I h
 refine BoolOp_and (thn (ha pins s σ H _ I h) fun v s1 ⟨x,H1,I1,r1,q1⟩=>?_)
 obtain⟨c,rfl,q1⟩:=q1
 cases r1
 refine wpAny_truthy_bool ?_
 cases c with
 |true=>exact hb pins s1 σ H1 Q I1 q1
 |false=>exact⟨.bl false,H1,I1,rfl,q1⟩
theorem pe_not(ha:PE X a ta):PE X (.UnaryOp .Not a pos) (tNotV ta):=by
 intro pins s σ H Q I h
 refine UnaryOp_ (thn (ha pins s σ H _ I h) fun v s1 ⟨x,H1,I1,r1,q1⟩=>?_)
 obtain⟨c,rfl,q1⟩:=q1
 cases r1
 exact not_of (wpAny_truthy_bool ⟨.bl (!c),H1,I1,rfl,q1⟩)
end
end L2
namespace L2
open PySem PySem.Spec PyProof.Rows
def SqL(K:PySem.W.Frag)(H:Hp)(a:Addr)(xs:List V):Prop :=
 Rd H a (.lst xs) ∨
  ∃(o:Obj) (its:Array Value) (n:Nat),K.lookup a=some o∧o.cls=.type "list"∧o.dict=none∧o.data=.seq its n∧its.size≤sizeLine∧Vals xs its.toList
def SqT(K:PySem.W.Frag)(H:Hp)(a:Addr)(xs:List V):Prop :=
 Rd H a (.tup xs) ∨
  ∃(o:Obj) (its:Array Value) (n:Nat),K.lookup a=some o∧o.cls=.type "tuple"∧o.data=.seq its n∧its.size≤sizeLine∧Vals xs its.toList
def absV:Value→Option V
 |.none=>some .non
 |.bool b=>some (.bl b)
 |.int i _=>some (.int i)
 |.str x _=>some (.str x)
 |.bytes b _=>some (.byt b)
 |.float b _=>some (.flt b)
 |.ref a=>some (.ref a)
 |.type n=>some (.ty n)
 |_=>none
theorem RelV.abs{x:V}{u:Value}(r:RelV x u):absV u=some x:=by
 cases x with
 |non=>cases r;rfl
 |bl _=>cases r;rfl
 |int _=>obtain⟨t,rfl⟩:=r;rfl
 |str _=>obtain⟨t,rfl⟩:=r;rfl
 |byt _=>obtain⟨t,rfl⟩:=r;rfl
 |flt _=>obtain⟨t,rfl⟩:=r;rfl
 |ref _=>cases r;rfl
 |ty _=>cases r;rfl
theorem RelV.inj{x y:V}{u:Value}(r:RelV x u)(q:RelV y u):x=y:=Option.some.inj (r.abs.symm.trans q.abs)
theorem Vals.inj:∀{xs ys:List V} {us:List Value},Vals xs us→Vals ys us→xs=ys
 |_,_,_,.nil,.nil=>rfl
 |_,_,_,.cons r t,.cons r' t'=>by rw [r.inj r',Vals.inj t t']
section
variable{X:Cx}{pins:List (Addr × Obj)}{σ:St}{H:Hp}{s:Shared}{a:Addr}{xs ys:List V}
theorem SqL.of{K:PySem.W.Frag}(h:H a=some (.lst xs)):SqL K H a xs:=.inl (.inl h)
theorem SqT.of{K:PySem.W.Frag}(h:H a=some (.tup xs)):SqT K H a xs:=.inl (.inl h)
theorem Inv.list(I:Inv X pins σ H s)(h:SqL X.K H a xs):∃its:List Value,Vals xs its∧PlainL s.heap a its.toArray∧xs.length≤sizeLine:=by
 rcases h with h|⟨o,its,n,hk,hc,hd,hs,hz,r⟩
 ·obtain⟨z,its,n,r,e⟩:=h.ok I.hok
  exact⟨its,r,⟨_,n,e,rfl,rfl,rfl⟩,z⟩
 ·refine⟨its.toList,r,⟨o,n,I.kIn a o hk,hc,hd,by simpa using hs⟩,?_⟩
  have e:=r.length
  simp only [Array.length_toList] at e
  omega
theorem Inv.tuple(I:Inv X pins σ H s)(h:SqT X.K H a xs):∃its:List Value,Vals xs its∧IsTup s.heap a its.toArray∧xs.length≤sizeLine:=by
 rcases h with h|⟨o,its,n,hk,hc,hs,hz,r⟩
 ·obtain⟨z,its,r,p⟩:=h.ok I.hok
  exact⟨its,r,p,z⟩
 ·refine⟨its.toList,r,⟨o,I.kIn a o hk,hc,n,by simpa using hs⟩,?_⟩
  have e:=r.length
  simp only [Array.length_toList] at e
  omega
theorem Inv.list_inj(I:Inv X pins σ H s)(h:SqL X.K H a xs)(h':SqL X.K H a ys):xs=ys:=by
 obtain⟨its,r,⟨o,n,e,_,_,d⟩,_⟩:=I.list h
 obtain⟨its',r',⟨o',n',e',_,_,d'⟩,_⟩:=I.list h'
 rw [e] at e';cases e'
 rw [d] at d'
 injection d' with d1 _
 have:its=its':=by simpa using congrArg Array.toList d1
 subst this
 exact r.inj r'
theorem Inv.tuple_inj(I:Inv X pins σ H s)(h:SqT X.K H a xs)(h':SqT X.K H a ys):xs=ys:=by
 obtain⟨its,r,⟨o,e,_,n,d⟩,_⟩:=I.tuple h
 obtain⟨its',r',⟨o',e',_,n',d'⟩,_⟩:=I.tuple h'
 rw [e] at e';cases e'
 rw [d] at d'
 injection d' with d1 _
 have:its=its':=by simpa using congrArg Array.toList d1
 subst this
 exact r.inj r'
end
abbrev Cx.wish(X:Cx)(E:Value→Shared→Prop):Cx:={ X with xe:=E }
abbrev Cx.nox(X:Cx):Cx:=X.wish fun _ _=>False
theorem Cx.Ok.wish{X:Cx}(ok:X.Ok)(E:Value→Shared→Prop):(X.wish E).Ok :=
 ⟨ok.mod,ok.kind,ok.glob,ok.blt,ok.above,ok.inj,ok.has,ok.cab,ok.hd,ok.frames,ok.stk,ok.exf,ok.bs,ok.bsz,ok.noex,ok.exfs,ok.funs,ok.frf⟩
theorem Cx.Ok.unwish{X:Cx}{E:Value→Shared→Prop}(ok:(X.wish E).Ok):X.Ok :=
 ⟨ok.mod,ok.kind,ok.glob,ok.blt,ok.above,ok.inj,ok.has,ok.cab,ok.hd,ok.frames,ok.stk,ok.exf,ok.bs,ok.bsz,ok.noex,ok.exfs,ok.funs,ok.frf⟩
section
variable{X:Cx}{pins:List (Addr × Obj)}{σ:St}{H:Hp}{s:Shared}{E:Value→Shared→Prop}
theorem Inv.wish(I:Inv X pins σ H s)(E:Value→Shared→Prop):Inv (X.wish E) pins σ H s:=⟨I.ok.wish E,I.os,I.bare,I.base,I.loc,I.cell,I.free,I.freeC,I.pin,I.hok,I.len⟩
theorem Inv.unwish(I:Inv (X.wish E) pins σ H s):Inv X pins σ H s:=⟨I.ok.unwish,I.os,I.bare,I.base,I.loc,I.cell,I.free,I.freeC,I.pin,I.hok,I.len⟩
theorem SP.unwish{D:Ends}{f:Flow}{s':Shared}(h:SP (X.wish E) pins D f s'):SP X pins D f s':=by
 cases f with
 |next=>obtain⟨σ',H',I,q⟩:=h;exact⟨σ',H',I.unwish,q⟩
 |brk=>obtain⟨σ',H',I,q⟩:=h;exact⟨σ',H',I.unwish,q⟩
 |cont=>obtain⟨σ',H',I,q⟩:=h;exact⟨σ',H',I.unwish,q⟩
 |ret u=>obtain⟨v,σ',H',I,r,q⟩:=h;exact⟨v,σ',H',I.unwish,r,q⟩
theorem PSs.nox{st:List Stmt}{t:TS}(h:PSs X.nox st t):PSs X st t:=fun pins s σ H D I hw =>
 wpAny_mono (h pins s σ H D (I.wish _) hw) (fun _ _ q=>q.unwish) fun _ _ z=>False.elim z
end
section
variable{X:Cx}{st:Stmt}{rest:List Stmt}{t u:TS}{e:Expr}{te:TE}{pos:Pos}
def tNext:TS:=fun D σ H=>D.nx σ H
def tSeq(t u:TS):TS:=fun D σ H=>t { D with nx:=u D } σ H
theorem pss_nil:PSs X [] tNext:=fun _ _ σ H _ I h=>wpAny_execs_nil ⟨σ,H,I,h⟩
theorem pss_cons(h1:PS X st t)(h2:PSs X rest u):PSs X (st::rest) (tSeq t u):=by
 intro pins s σ H D I h
 refine wpAny_execs_cons (thn (h1 pins s σ H { D with nx:=u D } I h) fun f s1 q=>?_)
 cases f with
 |next =>
  obtain⟨σ',H',I',q⟩:=q
  exact h2 pins s1 σ' H' D I' q
 |ret v=>exact q
 |brk=>exact q
 |cont=>exact q
theorem pss_one(h1:PS X st t):PSs X [st] t:=by
 intro pins s σ H D I h
 refine wpAny_execs_cons (thn (h1 pins s σ H D I h) fun f s1 q=>?_)
 cases f with
 |next=>exact wpAny_execs_nil q
 |ret v=>exact q
 |brk=>exact q
 |cont=>exact q
theorem Inv.quiet{pins:List (Addr × Obj)}{σ:St}{H:Hp}{s:Shared}(I:Inv X pins σ H s):interactive X.env=false:=by simp [interactive,I.ok.kind]
def tDrop(te:TE):TS:=fun D σ H=>te σ H fun _ H1=>D.nx σ H1
theorem ps_expr(he:PE X e te)(hs:swapsWith e none pos.line X.env=pure false:=by rfl):PS X (.Expr e pos) (tDrop te):=by
 intro pins s σ H D I h
 exact wpAny_Expr_any (thn (he pins s σ H _ I h) fun v s1 ⟨x,H1,I1,r1,q1⟩=>⟨σ,H1,I1,q1⟩) I.quiet hs
def tRet(te:TE):TS:=fun D σ H=>te σ H D.rt
theorem ps_ret(he:PE X e te):PS X (.Return (some e) pos) (tRet te):=by
 intro pins s σ H D I h
 exact wpAny_Return_some (thn (he pins s σ H _ I h) fun v s1 ⟨x,H1,I1,r1,q1⟩=>⟨x,σ,H1,I1,r1,q1⟩)
def tIfS(c:TT)(t u:TS):TS:=fun D σ H=>c σ H fun b H1=>if b=true then t D σ H1 else u D σ H1
theorem ps_if{c:Expr}{a b:List Stmt}{tc:TT}(hc:PT X c tc)(ha:PSs X a t)(hb:PSs X b u):PS X (.If c a b pos) (tIfS tc t u):=by
 intro pins s σ H D I h
 refine wpAny_If (thn (hc pins s σ H _ I h) fun d s1 ⟨H1,I1,q1⟩=>?_)
 cases d with
 |true=>exact ha pins s1 σ H1 D I1 q1
 |false=>exact hb pins s1 σ H1 D I1 q1
end
abbrev TG:=V→St→Hp→(St→Hp→Prop)→Prop
abbrev TGs:=List V→St→Hp→(St→Hp→Prop)→Prop
def PG(X:Cx)(target:Expr)(t:TG):Prop :=
 ∀(pins:List (Addr × Obj)) (s:Shared) (σ:St) (H:Hp) (v:V) (u:Value) (Q:St→Hp→Prop),Inv X pins σ H s→RelV v u→t v σ H Q →
  wpAny (model X.prog X.w) X.A (assign target X.env u) (fun _ s'=>∃σ' H',Inv X pins σ' H' s'∧Q σ' H') X.xe s
def PGs(X:Cx)(ts:List Expr)(t:TGs):Prop :=
 ∀(pins:List (Addr × Obj)) (s:Shared) (σ:St) (H:Hp) (vs:List V) (us:List Value) (Q:St→Hp→Prop),Inv X pins σ H s→Vals vs us→t vs σ H Q →
  wpAny (model X.prog X.w) X.A (assignInOrder ((assignEach ts X.env).map (·.2)) us) (fun _ s'=>∃σ' H',Inv X pins σ' H' s'∧Q σ' H') X.xe s
abbrev TSet:=V→V→V→Hp→(Hp→Prop)→Prop
def PSet(X:Cx)(t:TSet):Prop :=
 ∀(pins:List (Addr × Obj)) (s:Shared) (σ:St) (H:Hp) (o i v:V) (ov iv u:Value) (Q:Hp→Prop),Inv X pins σ H s→RelV o ov→RelV i iv→RelV v u→t o i v H Q →
  wpAny (model X.prog X.w) X.A (setItem ov iv u) (fun _ s'=>∃H',Inv X pins σ H' s'∧Q H') X.xe s
abbrev TIp:=V→V→Hp→VK→Prop
def PIp(X:Cx)(op:Operator)(t:TIp):Prop :=
 ∀(pins:List (Addr × Obj)) (s:Shared) (σ:St) (H:Hp) (x y:V) (v u:Value) (Q:VK),Inv X pins σ H s→RelV x v→RelV y u→t x y H Q →
  wpAny (model X.prog X.w) X.A (inplaceOp op v u) (EP X pins σ Q) X.xe s
section
variable{X:Cx}{pos:Pos}
def gName(i:Nat):TG:=fun v σ H Q=>Q (σ.set i (some v)) H
theorem pg_name{i:Nat}{x:Str}(hN:X.N.Nodup)(hi:X.N[i]?=some x)(hx:Loc X.env.scope x)(hf:X.fn x=true∨X.env.scope.names.lookup x=some .local:=by first|exact .inl rfl|exact .inr rfl|assumption):PG X (.Name x pos) (gName i):=by
 intro pins s σ H v u Q I r h
 exact wpAny_assign_Name (store_ok I hN hi hx r (fun s' I'=>⟨_,H,I',h⟩) hf)
def gNil:TGs:=fun vs σ H Q=>vs=[]∧Q σ H
def gCons(t:TG)(u:TGs):TGs:=fun vs σ H Q=>∃v r,vs=v::r∧t v σ H fun σ' H'=>u r σ' H' Q
theorem pgs_nil:PGs X [] gNil:=by
 intro pins s σ H vs us Q I r h
 obtain⟨e,h⟩:=h
 subst e
 cases r
 exact assignInOrder_nil ⟨σ,H,I,h⟩
theorem pgs_cons{e:Expr}{es:List Expr}{t:TG}{u:TGs}(h1:PG X e t)(h2:PGs X es u)
  (hs:(assignEach (e::es) X.env).map (·.2)=assign e X.env::(assignEach es X.env).map (·.2):=by rfl):PGs X (e::es) (gCons t u):=by
 intro pins s σ H vs us Q I r h
 obtain⟨v,vr,e1,h⟩:=h
 subst e1
 cases r with
 |cons r rr =>
  rw [hs]
  refine assignInOrder_cons (thn (h1 pins s σ H _ _ _ I r h) fun _ s1 ⟨σ1,H1,I1,q1⟩=>?_)
  exact h2 pins s1 σ1 H1 _ _ Q I1 rr q1
def gTup(K:PySem.W.Frag)(n:Nat)(t:TGs):TG:=fun v σ H Q=>∃a xs,v=.ref a∧SqT K H a xs∧xs.length=n∧t xs σ H Q
theorem pg_tup{es:List Expr}{k:Nat}{t:TGs}{n:Nat}(hc:X.calm=true)(h:PGs X es t)
  (hn:(assignEach es X.env).length=n:=by rfl) (hst:(assignEach es X.env).findIdx? (·.1)=none:=by rfl):PG X (.Tuple es k pos) (gTup X.K n t):=by
 intro pins s σ H v u Q I r hw
 obtain⟨a,xs,e1,hq,hl,hw⟩:=hw
 subst e1
 cases r
 obtain⟨its,rv,ht,hz⟩:=I.tuple hq
 refine assign_Tuple_tuple (I.ok.hd hc) ht (by simp [hn,←hl,rv.length]) hst fun h' hx=>?_
 have I1:Inv X pins σ H { s with heap:=h' }:=I.kept (t':=s.toks) fun b o e=>hx b o (Nat.ne_of_lt (Heap.lt_size e)) e
 exact h pins _ σ H xs _ Q I1 (by simpa using rv) hw
def gSub(to ti:TE)(t:TSet):TG:=fun v σ H Q=>to σ H fun o H1=>ti σ H1 fun i H2=>t o i v H2 fun H3=>Q σ H3
theorem pg_sub{o i:Expr}{to ti:TE}{t:TSet}(ho:PE X o to)(hi:PE X i ti)(hs:PSet X t)
  (ha:∀v,assign (.Subscript o i pos) X.env v=(do
   let ov ←holding [v] (eval o X.env)
   let iv ←holding [v,ov] (eval i X.env)
   standAt pos
   holding [v,ov,iv] (setItem ov iv v)
   release [v,ov,iv] []):=by intro _;rfl):PG X (.Subscript o i pos) (gSub to ti t):=by
 intro pins s σ H v u Q I r h
 rw [ha]
 refine wpAny_bind (wpAny_holding (thn (ho pins s σ H _ I h) fun ov s1 ⟨x,H1,I1,r1,q1⟩=>?_))
 refine wpAny_bind (wpAny_holding (thn (hi pins s1 σ H1 _ I1 q1) fun iv s2 ⟨y,H2,I2,r2,q2⟩=>?_))
 refine wpAny_bind (wpAny_standAt (wpAny_bind (wpAny_holding (thn (hs pins s2 σ H2 x y v ov iv u _ I2 r1 r2 r q2) fun _ s3 ⟨H3,I3,q3⟩=>?_))))
 exact wpAny_release ⟨σ,H3,I3,q3⟩
def tAsg(te:TE)(g:TG):TS:=fun D σ H=>te σ H fun x H1=>g x σ H1 D.nx
theorem ps_asg{tg e:Expr}{te:TE}{g:TG}(he:PE X e te)(hg:PG X tg g)(hs:swapsWithSole [tg] e pos.line X.env=pure false:=by rfl)(hw:swappedStores [tg] e X.env=pure none:=by rfl)
  (h1:(assignEach [tg] X.env).map (·.2)=[assign tg X.env]:=by rfl):PS X (.Assign [tg] e pos) (tAsg te g):=by
 intro pins s σ H D I h
 refine wpAny_Assign_stores (thn (he pins s σ H _ I h) fun v s1 ⟨x,H1,I1,r1,q1⟩=>?_) hs hw
 rw [h1]
 exact thn (hg pins s1 σ H1 x v _ I1 r1 q1) fun _ s2 q=>q
theorem ps_set{i:Nat}{x:Str}{e:Expr}{te:TE}{pos':Pos}(hN:X.N.Nodup)(hi:X.N[i]?=some x)(hx:Loc X.env.scope x)(he:PE X e te)(hs:swapsWith e (some (.Name x pos')) pos.line X.env=pure false:=by rfl)(hf:X.fn x=true∨X.env.scope.names.lookup x=some .local:=by first|exact .inl rfl|exact .inr rfl|assumption) :
  PS X (.Assign [.Name x pos'] e pos) (tAsg te (gName i)):=by
 intro pins s σ H D I h
 refine wpAny_Assign_Name (thn (he pins s σ H _ I h) fun v s1 ⟨y,H1,I1,r1,q1⟩=>?_) hs
 exact store_ok I1 hN hi hx r1 (fun s2 I2=>⟨_,H1,I2,q1⟩) hf
def tAug(i:Nat)(te:TE)(ti:TIp):TS:=fun D σ H=>∃x,σ[i]?=some (some x)∧te σ H fun y H1=>ti x y H1 fun z H2=>D.nx (σ.set i (some z)) H2
theorem ps_aug{i:Nat}{x:Str}{e:Expr}{te:TE}{op:Operator}{ti:TIp}{pos':Pos}(hN:X.N.Nodup)(hi:X.N[i]?=some x)(hx:Loc X.env.scope x)(he:PE X e te)(ho:PIp X op ti)(hf:X.fn x=true∨X.env.scope.names.lookup x=some .local:=by first|exact .inl rfl|exact .inr rfl|assumption) :
  PS X (.AugAssign (.Name x pos') op e pos) (tAug i te ti):=by
 intro pins s σ H D I h
 obtain⟨v,e1,h⟩:=h
 obtain⟨m,hn,hl⟩:=I.loc
 have vis:Vis X.env.scope x:=by rcases hx with k|k;exact .inl k;exact .inr (.inl k)
 obtain⟨u,r,l⟩:=hl i x v hi e1 vis
 refine wpAny_AugAssign_Name ?_
 have go:wpAny (model X.prog X.w) X.A (eval e X.env) (fun w s₂=>wpAny (model X.prog X.w) X.A (inplaceOp op u w) (fun r s₃=>wpAny (model X.prog X.w) X.A (storeName X.env x r) (fun _=>SP X pins D .next) X.xe s₃) X.xe s₂) X.xe s:=by
  refine thn (he pins s σ H _ I h) fun w s1 ⟨y,H1,I1,r1,q1⟩=>?_
  refine thn (ho pins s1 σ H1 v y u w _ I1 r r1 q1) fun z s2 ⟨zv,H2,I2,r2,q2⟩=>?_
  exact store_ok I2 hN hi hx r2 (fun s3 I3=>⟨_,H2,I3,q2⟩) hf
 rcases l with ⟨hk,hm⟩|⟨hk,c,hc,hcell⟩
 ·exact wpAny_loadName_local I.ok.kind hk hn hm go
 ·rcases hk with hk|hk
  ·exact wpAny_loadName_cell I.ok.kind hk hc hcell go
  ·rcases hx with k|k
   ·have:X.env.scope.names.lookup x=some .free:=hk
    rw [k] at this;cases this
   ·have:X.env.scope.names.lookup x=some .free:=hk
    rw [k] at this;cases this
def ipI(f:Int→Int→Int):TIp:=fun x y H Q=>∃i j,x=.int i∧y=.int j∧Q (.int (f i j)) H
theorem ip_add:PIp X .Add (ipI fun i j=>i+j):=by
 intro pins s σ H x y v u Q I r1 r2 h
 obtain⟨i,j,e1,e2,q⟩:=h
 subst e1;subst e2
 obtain⟨t,rfl⟩:=r1
 obtain⟨t',rfl⟩:=r2
 exact iadd_int ⟨.int _,H,I.tok _,⟨_,rfl⟩,q⟩
end
section
variable{X:Cx}{pos:Pos}
def tWhile(c:TT)(tb:TS):TS:=fun D σ H=>∃W:Nat→St→Hp→Prop,(∃m,W m σ H)∧∀m σ H,W m σ H →
 c σ H fun b H1=>if b=true then ∃N:St→Hp→Prop,(∀σ' H',N σ' H'→∃m',m' < m∧W m' σ' H')∧tb { D with nx:=N,ct:=N,bk:=D.nx } σ H1 else D.nx σ H1
theorem ps_while{c:Expr}{body:List Stmt}{tc:TT}{tb:TS}(hp:PassesOwn (model X.prog X.w) X.A X.env X.xe)(hc:PT X c tc)(hb:PSs X body tb):PS X (.While c body [] pos) (tWhile tc tb):=by
 intro pins s σ H D I h
 obtain⟨W,⟨m0,w0⟩,turn⟩:=h
 refine wpAny_While (codeAny_whileLoop (fun n s'=>∃σ' H',Inv X pins σ' H' s'∧W n σ' H') ?_ m0 ⟨σ,H,I,w0⟩)
 rintro n s1 ⟨σ1,H1,I1,w1⟩
 refine wpAny_passesOwn hp (thn (hc pins s1 σ1 H1 _ I1 (turn n σ1 H1 w1)) fun b s2 ⟨H2,I2,q2⟩=>?_)
 cases b with
 |true =>
  obtain⟨N,hN,q2⟩:=q2
  rw [if_pos rfl]
  refine wpAny_passesOwn hp (thn (hb pins s2 σ1 H2 _ I2 q2) fun f s3 q3=>?_)
  cases f with
  |next =>
   obtain⟨σ3,H3,I3,n3⟩:=q3
   obtain⟨m',hm,w3⟩:=hN σ3 H3 n3
   exact⟨m',hm,σ3,H3,I3,w3⟩
  |cont =>
   obtain⟨σ3,H3,I3,n3⟩:=q3
   obtain⟨m',hm,w3⟩:=hN σ3 H3 n3
   exact⟨m',hm,σ3,H3,I3,w3⟩
  |brk=>exact q3
  |ret v=>exact q3
 |false =>
  rw [if_neg Bool.false_ne_true]
  exact wpAny_execs_nil ⟨σ1,H2,I2,q2⟩
end
structure It where
 go:Nat→Hp→Prop
 yld:Nat→Hp→V→Hp→Prop
 stop:Nat→Hp→Prop
def FpOk(X:Cx)(pins:List (Addr × Obj))(H:Hp)(b:Addr):Prop :=
 H b=none∧b≠X.env.locals∧b∉X.fs∧(b∈X.ex∨X.s₀.heap.objs.size≤b)∧(∀x c,X.env.cells.lookup x=some c→c≠b)∧∀p∈X.pn++pins,p.1≠b
theorem Inv.fpOk{X:Cx}{pins:List (Addr × Obj)}{σ:St}{H H':Hp}{s:Shared}{b:Addr}(I:Inv X pins σ H s)(hb:s.heap.objs.size≤b)(hn:H' b=none):FpOk X pins H' b:=by
 refine⟨hn,Nat.ne_of_gt (Nat.lt_of_lt_of_le I.lt hb),I.nofs hb,.inr (Nat.le_trans I.sz hb),fun x c e z=>?_,fun p hp z=>?_⟩
 ·obtain⟨v,q⟩:=I.cell x c e
  exact absurd (Nat.lt_of_lt_of_le q.lt (by rw [z];exact hb)) (Nat.lt_irrefl _)
 ·exact absurd (Nat.lt_of_lt_of_le (Heap.lt_size (I.pin p hp).1) (by rw [z];exact hb)) (Nat.lt_irrefl _)
structure Turn(P:Program)(w:World)(K:PySem.W.Frag)(tg:Expr)(J:It)(fp:List Addr)(it:Addr)(tn:Nat→Heap→Prop):Prop where
 mem:it∈fp
 obj:∀i h,tn i h→∀b∈fp,∃o,h.get? b=some o∧∀v,o.data≠.cell v
 keep:∀i h h',tn i h→(∀b∈fp,∀o,h.get? b=some o→h'.get? b=some o)→tn i h'
 item:∀(X:Cx),X.prog=P→X.w=w→X.K=K→X.calm=true→∀(i:Nat) (pins:List (Addr × Obj)) (s:Shared) (σ:St) (H:Hp) (E:Value→Shared→Prop),Inv X pins σ H s→(∀b∈fp,FpOk X pins H b)→tn i s.heap→J.go i H →
  wpAny (model P w) X.A (pyNext (.ref it)) (fun r s1=>∃u,r=some u ∧
   wpAny (model P w) X.A (letOwnedTupleGo tg (.ref it) u) (fun _ s2=>∃x H',Inv X pins σ H' s2∧RelV x u∧J.yld i H x H'∧tn (i+1) s2.heap∧∀b∈fp,H' b=none) E s1) E s
 done:∀(X:Cx),X.prog=P→X.w=w→X.K=K→X.calm=true→∀(i:Nat) (pins:List (Addr × Obj)) (s:Shared) (σ:St) (H:Hp) (E:Value→Shared→Prop),Inv X pins σ H s→(∀b∈fp,FpOk X pins H b)→tn i s.heap→J.stop i H →
  wpAny (model P w) X.A (pyNext (.ref it)) (fun r s1=>r=none∧Inv X pins σ H s1) E s
 self:∀(A:Around) (i:Nat) (s:Shared) (Q:Value→Shared→Prop) (E:Value→Shared→Prop),tn i s.heap→Q (.ref it) s→wpAny (model P w) A (pyIter (.ref it)) Q E s
abbrev TI:=St→Hp→(It→Hp→Prop)→Prop
def PIE(X:Cx)(pins:List (Addr × Obj))(σ:St)(tg:Expr)(R:It→Hp→Prop)(itv:Value)(s2:Shared):Prop :=
 ∃(it:Addr) (fp:List Addr) (tn:Nat→Heap→Prop) (J:It) (H':Hp),itv=.ref it∧Inv X pins σ H' s2∧Turn X.prog X.w X.K tg J fp it tn∧tn 0 s2.heap∧(∀b∈fp,FpOk X pins H' b)∧R J H'
def PI(X:Cx)(tg iter:Expr)(wi:TI):Prop :=
 ∀(pins:List (Addr × Obj)) (s:Shared) (σ:St) (H:Hp) (R:It→Hp→Prop),Inv X pins σ H s→wi σ H R →
  wpAny (model X.prog X.w) X.A (eval iter X.env) (fun v s1=>wpAny (model X.prog X.w) X.A (pyIter v) (PIE X pins σ tg R) X.xe s1) X.xe s
theorem go_of{M:Model}{A:Around}{E:Value→Shared→Prop}{s:Shared}{tg:Expr}{it:Addr}{u:Value}{o:Obj}{n:String}{vs:Array Value}{Q:Unit→Shared→Prop}(ho:s.heap.get? it=some o)(hc:o.cls=.type n)(hd:o.data=.fields vs)
    (hn:["enumerate","zip","dict_itemiterator","dict_reverseitemiterator","odict_iterator","itertools.zip_longest","itertools.pairwise"].contains n=false) (hQ:Q () s):wpAny M A (letOwnedTupleGo tg (.ref it) u) Q E s:=by
  unfold letOwnedTupleGo
  cases tg<;>first
    | exact wpAny_pure hQ
    | (cases u<;>first
        | exact wpAny_pure hQ
        | (refine wpAny_bind (wpAny_load ho ?_)
           rw [hc,hd]
           show wpAny M A (if (["enumerate","zip","dict_itemiterator","dict_reverseitemiterator","odict_iterator","itertools.zip_longest","itertools.pairwise"].contains n&&vs[0]?==some (rawInt _))=true then _ else _) Q E s
           rw [if_neg (by intro h;rw [hn,Bool.false_and] at h;cases h)]
           exact wpAny_pure hQ))
def Itl(K:PySem.W.Frag)(a:Addr):It :=
 ⟨fun i H=>∃xs x,SqL K H a xs∧xs[i]?=some x,fun i H x H'=>H'=H∧∀xs,SqL K H a xs→xs[i]?=some x,fun i H=>∃xs,SqL K H a xs∧xs.length≤i⟩
def Itt(K:PySem.W.Frag)(a:Addr):It :=
 ⟨fun i H=>∃xs x,SqT K H a xs∧xs[i]?=some x,fun i H x H'=>H'=H∧∀xs,SqT K H a xs→xs[i]?=some x,fun i H=>∃xs,SqT K H a xs∧xs.length≤i⟩
def Itr(lo:Int)(n:Nat):It:=⟨fun i _=>i < n,fun i H x H'=>H'=H∧x=.int (lo+i),fun i _=>n≤i⟩
theorem turn_list{P:Program}{w:World}{K:PySem.W.Frag}{tg:Expr}(a it:Addr):Turn P w K tg (Itl K a) [it] it (fun i h=>h.IsListIter it a i) where
 mem:=by simp
 obj:=fun i h st b hb=>by
  have e:b=it:=by simpa using hb
  subst e
  obtain⟨o,e,c,d⟩:=st
  exact⟨o,e,fun v z=>by rw [d] at z;cases z⟩
 keep:=fun i h h' st k=>st.at fun o e=>k it (by simp) o e
 item:=by
  intro X hP hw hK hc i pins s σ H E I hf st hg
  subst hP hw hK
  obtain⟨xs,x,hq,hx⟩:=hg
  obtain⟨its,rv,p,hz⟩:=I.list hq
  obtain⟨u,hu,ru⟩:=rv.get hx
  obtain⟨f0,f1,f2,f3,f4,f5⟩:=hf it (by simp)
  refine wpAny_pyNext_list_item st p.isList (x:=u) (by simpa using hu) fun h' st' sb=>?_
  have I1:Inv X pins σ H { s with heap:=h' }:=I.turned (t':=s.toks) (fun b o hb e=>(sb.2 b hb).trans e) f0 f1 f3 f4 f5
  obtain⟨o,e,c,d⟩:=id st'
  exact⟨u,rfl,go_of (s:={ s with heap:=h' }) e c d (by decide) ⟨x,H,I1,ru,⟨rfl,fun ys hy=>by rw [I.list_inj hy hq];exact hx⟩,st',fun b hb=>(hf b hb).1⟩⟩
 done:=by
  intro X hP hw hK hc i pins s σ H E I hf st hg
  subst hP hw hK
  obtain⟨xs,hq,hx⟩:=hg
  obtain⟨its,rv,p,hz⟩:=I.list hq
  obtain⟨f0,f1,f2,f3,f4,f5⟩:=hf it (by simp)
  have hl:=rv.length
  exact wpAny_pyNext_list_end (I.ok.hd hc) st p.isList (by simp;omega) fun h' eb=>⟨rfl,I.turned (t':=s.toks) (fun b o hb e=>eb b o hb e) f0 f1 f3 f4 f5⟩
 self:=fun _ _ _ _ _ st h=>wpAny_pyIter_listiter st h
theorem turn_tuple{P:Program}{w:World}{K:PySem.W.Frag}{tg:Expr}(a it:Addr):Turn P w K tg (Itt K a) [it] it (fun i h=>h.IsTupleIter it a i) where
 mem:=by simp
 obj:=fun i h st b hb=>by
  have e:b=it:=by simpa using hb
  subst e
  obtain⟨o,e,c,d⟩:=st
  exact⟨o,e,fun v z=>by rw [d] at z;cases z⟩
 keep:=fun i h h' st k=>st.at fun o e=>k it (by simp) o e
 item:=by
  intro X hP hw hK hc i pins s σ H E I hf st hg
  subst hP hw hK
  obtain⟨xs,x,hq,hx⟩:=hg
  obtain⟨its,rv,p,hz⟩:=I.tuple hq
  obtain⟨u,hu,ru⟩:=rv.get hx
  obtain⟨f0,f1,f2,f3,f4,f5⟩:=hf it (by simp)
  refine wpAny_pyNext_tuple_item st (show s.heap.IsTuple a its.toArray from p) (x:=u) (by simpa using hu) fun h' st' sb=>?_
  have I1:Inv X pins σ H { s with heap:=h' }:=I.turned (t':=s.toks) (fun b o hb e=>(sb.2 b hb).trans e) f0 f1 f3 f4 f5
  obtain⟨o,e,c,d⟩:=id st'
  exact⟨u,rfl,go_of (s:={ s with heap:=h' }) e c d (by decide) ⟨x,H,I1,ru,⟨rfl,fun ys hy=>by rw [I.tuple_inj hy hq];exact hx⟩,st',fun b hb=>(hf b hb).1⟩⟩
 done:=by
  intro X hP hw hK hc i pins s σ H E I hf st hg
  subst hP hw hK
  obtain⟨xs,hq,hx⟩:=hg
  obtain⟨its,rv,p,hz⟩:=I.tuple hq
  obtain⟨f0,f1,f2,f3,f4,f5⟩:=hf it (by simp)
  have hl:=rv.length
  exact wpAny_pyNext_tuple_end (I.ok.hd hc) st (show s.heap.IsTuple a its.toArray from p) (by simp;omega) fun h' eb=>⟨rfl,I.turned (t':=s.toks) (fun b o hb e=>eb b o hb e) f0 f1 f3 f4 f5⟩
 self:=fun _ _ _ _ _ st h=>wpAny_pyIter_tupleiter st h
theorem turn_range{P:Program}{w:World}{K:PySem.W.Frag}{tg:Expr}(it:Addr)(lo:Int)(n:Nat):Turn P w K tg (Itr lo n) [it] it (fun i h=>IsRangeIter h it (lo+(i:Nat)*1) ((n:Int) - (i:Nat)) 1) where
 mem:=by simp
 obj:=fun i h st b hb=>by
  have e:b=it:=by simpa using hb
  subst e
  exact⟨_,st,fun v z=>by
   have z':Data.fields _=Data.cell v:=z
   cases z'⟩
 keep:=fun i h h' st k=>k it (by simp) _ st
 item:=by
  intro X hP hw hK hc i pins s σ H E I hf st hg
  subst hP hw hK
  obtain⟨f0,f1,f2,f3,f4,f5⟩:=hf it (by simp)
  have W:=Walks.range (prog:=X.prog) (w:=X.w) (I.ok.hd hc) it lo 1 n
  refine W.item i s _ _ hg st fun v h' tk hv st' kk=>?_
  obtain⟨t,rfl⟩:=hv
  have I1:Inv X pins σ H { s with heap:=h',toks:=tk }:=I.turned (fun b o hb e=>kk b o (by simpa using hb) e) f0 f1 f3 f4 f5
  refine⟨_,rfl,go_of (s:={ s with heap:=h',toks:=tk }) (n:="range_iterator") st' rfl rfl (by decide) ⟨.int (lo+i),H,I1,⟨t,?_⟩,⟨rfl,rfl⟩,st',fun b hb=>(hf b hb).1⟩⟩
  rw [Int.mul_one]
 done:=by
  intro X hP hw hK hc i pins s σ H E I hf st hg
  subst hP hw hK
  obtain⟨f0,f1,f2,f3,f4,f5⟩:=hf it (by simp)
  exact wpAny_pyNext_range_end (I.ok.hd hc) st (by have:n≤i:=hg;omega) fun h' eb=>⟨rfl,I.turned (t':=s.toks) (fun b o hb e=>eb b o hb e) f0 f1 f3 f4 f5⟩
 self:=fun _ _ _ _ _ st h=>wpAny_pyIter_rangeiter st h
end L2
namespace L2
open PySem PySem.Spec PyProof.Rows
section
variable{X:Cx}{tg:Expr}
def iList(K:PySem.W.Frag)(tl:TE):TI:=fun σ H R=>tl σ H fun x H1=>∃a,x=.ref a∧(∃xs,SqL K H1 a xs)∧R (Itl K a) H1
def iTup(K:PySem.W.Frag)(tl:TE):TI:=fun σ H R=>tl σ H fun x H1=>∃a,x=.ref a∧(∃xs,SqT K H1 a xs)∧R (Itt K a) H1
theorem pi_list{l:Expr}{tl:TE}(hl:PE X l tl):PI X tg l (iList X.K tl):=by
 intro pins s σ H R I h
 refine thn (hl pins s σ H _ I h) fun v s1 ⟨x,H1,I1,r1,q1⟩=>?_
 obtain⟨a,e,⟨xs,hq⟩,q⟩:=q1
 subst e
 cases r1
 obtain⟨its,rv,p,hz⟩:=I1.list hq
 refine wpAny_pyIter_list p.isList ?_
 refine⟨s1.heap.objs.size,[s1.heap.objs.size],_,_,H1,rfl,I1.kept (t':=s1.toks) fun b o e=>Heap.get?_push_of_some _ e,turn_list a _,⟨_,Heap.get?_push_size _ rfl,rfl,rfl⟩,fun b hb=>?_,q⟩
 have e:b=s1.heap.objs.size:=by simpa using hb
 subst e
 exact I1.fpOk (Nat.le_refl _) (I1.hok.fresh (Nat.le_refl _))
theorem pi_tup{l:Expr}{tl:TE}(hl:PE X l tl):PI X tg l (iTup X.K tl):=by
 intro pins s σ H R I h
 refine thn (hl pins s σ H _ I h) fun v s1 ⟨x,H1,I1,r1,q1⟩=>?_
 obtain⟨a,e,⟨xs,hq⟩,q⟩:=q1
 subst e
 cases r1
 obtain⟨its,rv,p,hz⟩:=I1.tuple hq
 refine wpAny_pyIter_tuple (show s1.heap.IsTuple a its.toArray from p) ?_
 refine⟨s1.heap.objs.size,[s1.heap.objs.size],_,_,H1,rfl,I1.kept (t':=s1.toks) fun b o e=>Heap.get?_push_of_some _ e,turn_tuple a _,⟨_,Heap.get?_push_size _ rfl,rfl,rfl⟩,fun b hb=>?_,q⟩
 have e:b=s1.heap.objs.size:=by simpa using hb
 subst e
 exact I1.fpOk (Nat.le_refl _) (I1.hok.fresh (Nat.le_refl _))
theorem range_it{pins:List (Addr × Obj)}{σ:St}{H:Hp}{s:Shared}{R:It→Hp→Prop}{E:Value→Shared→Prop}{lo hi:Int}{t u v:Tok}{tk:Nat}(I:Inv X pins σ H s)(h1:-(2 ^ 62)≤lo)(h2:lo < 2 ^ 62)(h3:-(2 ^ 62)≤hi)(h4:hi < 2 ^ 62)
  (q:R (Itr lo (hi - lo).toNat) H):wpAny (model X.prog X.w) X.A (pyIter (.ref s.heap.objs.size)) (PIE X pins σ tg R) E { s with heap:=s.heap.push { cls:=.type "range",data:=.fields #[.int lo t,.int hi u,.int 1 v] },toks:=tk }:=by
 refine wpAny_pyIter_range (IsRange.new ..) (small_one h1 h2 h3 h4) ?_
 have I1:Inv X pins σ H { s with heap:=s.heap.push { cls:=.type "range",data:=.fields #[.int lo t,.int hi u,.int 1 v] },toks:=tk }:=I.kept fun b o e=>Heap.get?_push_of_some _ e
 refine⟨(s.heap.push { cls:=.type "range",data:=.fields #[.int lo t,.int hi u,.int 1 v] }).objs.size,[(s.heap.push { cls:=.type "range",data:=.fields #[.int lo t,.int hi u,.int 1 v] }).objs.size],_,_,H,rfl,
  I1.kept (t':=tk) fun b o e=>Heap.get?_push_of_some _ e,turn_range _ lo (hi - lo).toNat,?_,fun b hb=>?_,q⟩
 ·have e1:lo+((0:Nat):Int)*1=lo:=by simp
  have e2:(((hi - lo).toNat:Nat):Int) - ((0:Nat):Int)=Builtin.Range.rangeSize lo hi 1:=by rw [rangeSize_one];split<;>omega
  show IsRangeIter _ _ (lo+((0:Nat):Int)*1) ((((hi - lo).toNat:Nat):Int) - ((0:Nat):Int)) 1
  rw [e1,e2]
  exact Heap.get?_push_size _ rfl
 ·have e:b=(s.heap.push { cls:=.type "range",data:=.fields #[.int lo t,.int hi u,.int 1 v] }).objs.size:=by simpa using hb
  subst e
  exact I1.fpOk (Nat.le_refl _) (I1.hok.fresh (Nat.le_refl _))
def iRng1(ta:TA):TI:=fun σ H R=>ta σ H fun vs H1=>∃j:Int,vs=[.int j]∧-(2 ^ 62)≤j∧j < 2 ^ 62∧R (Itr 0 j.toNat) H1
theorem pi_range1{a:Expr}{ta:TA}{p pos:Pos} (hg:Gl X "range") (hm:X.mg "range"=none) (ha:PA X [a] ta) (hs:starEach [a] X.env=[(false,eval a X.env)]:=by rfl):PI X tg (.Call (.Name "range" p) [a] [] pos) (iRng1 ta):=by
 intro pins s σ H R I h
 refine Call_ (ld_blt I hg hm boot_range (PyProof.Rows.callWith_type1 (thn (ha pos pins s σ H _ I h) fun us s1 ⟨vs,H1,I1,r1,q1⟩=>?_) hs rfl))
 obtain⟨j,e,q1,q2,q⟩:=q1
 subst e
 cases r1 with
 |cons r rr =>
  cases rr
  obtain⟨t,rfl⟩:=r
  exact call_range_1 (range_it I1 (by omega) (by omega) q1 q2 (by simpa using q))
def tFor(wi:TI)(g:TG)(tb:TS):TS:=fun D σ H=>wi σ H fun J H1=>∃W:Nat→Nat→St→Hp→Prop,(∃m,W 0 m σ H1)∧∀i m σ H,W i m σ H →
 (J.stop i H∧D.nx σ H)∨(J.go i H∧∃N:St→Hp→Prop,(∀σ' H',N σ' H'→∃m',m' < m∧W (i+1) m' σ' H')∧∀x H',J.yld i H x H'→g x σ H' fun σ2 H2=>tb { D with nx:=N,ct:=N,bk:=D.nx } σ2 H2)
def pinsAt(fp:List Addr)(h:Heap):List (Addr × Obj):=fp.filterMap fun b=>(h.get? b).map fun o=>(b,o)
theorem mem_pinsAt{fp:List Addr}{h:Heap}{b:Addr}{o:Obj}(hb:b∈fp)(e:h.get? b=some o):(b,o)∈pinsAt fp h:=List.mem_filterMap.mpr ⟨b,hb,by rw [e];rfl⟩
theorem of_pinsAt{fp:List Addr}{h:Heap}{p:Addr × Obj}(hp:p∈pinsAt fp h):p.1∈fp∧h.get? p.1=some p.2:=by
 obtain⟨b,hb,e⟩:=List.mem_filterMap.mp hp
 cases q:h.get? b with
 |none=>rw [q] at e;cases e
 |some o =>
  rw [q] at e
  have e':(b,o)=p:=Option.some.inj e
  subst e'
  exact⟨hb,q⟩
theorem Inv.pinned{pins:List (Addr × Obj)}{σ:St}{H:Hp}{s:Shared}{fp:List Addr}(I:Inv X pins σ H s)(hf:∀b∈fp,FpOk X pins H b)(ho:∀b∈fp,∃o,s.heap.get? b=some o∧∀v,o.data≠.cell v):Inv X (pins++pinsAt fp s.heap) σ H s :=
 I.pins_of fun p hp=>(List.mem_append.mp hp).elim (fun z=>I.pin p (List.mem_append_right _ z)) fun z=>by
  obtain⟨hb,e⟩:=of_pinsAt z
  obtain⟨f0,f1,f2,_⟩:=hf p.1 hb
  obtain⟨o,e',d⟩:=ho p.1 hb
  rw [e] at e';cases e'
  exact⟨e,f0,f1,f2,d⟩
theorem Inv.unpinned{pins pl:List (Addr × Obj)}{σ:St}{H:Hp}{s:Shared}(I:Inv X (pins++pl) σ H s):Inv X pins σ H s:=I.pins_of fun p hp=>I.pin p (List.mem_append_right _ (List.mem_append_left _ hp))
theorem ps_for{iter:Expr}{body:List Stmt}{wi:TI}{g:TG}{tb:TS}{pos:Pos}(hp:PassesOwn (model X.prog X.w) X.A X.env X.xe)(hc:X.calm=true)(hi:PI X tg iter wi)(hg:PG X tg g)(hb:PSs X body tb)
  (hs:∀x,foldedSetIterable iter X.env x=pure x:=by intro _;rfl):PS X (.For tg iter body [] pos) (tFor wi g tb):=by
 intro pins s σ H D I h
 refine wpAny_For (thn (hi pins s σ H _ I h) fun v s1 h1=>thn h1 fun itv s2 h2=>?_) hs
 obtain⟨it,fp,tn,J,H2,e,I2,T,st2,f2,W,⟨m0,w0⟩,turn⟩:=h2
 subst e
 have stat:∀{H':Hp},(∀b∈fp,H' b=none)→∀b∈fp,FpOk X pins H' b:=fun hn b hb=>⟨hn b hb,(f2 b hb).2⟩
 refine codeAny_forLoop_any (fun n s'=>∃i σ' H',Inv X pins σ' H' s'∧tn i s'.heap∧(∀b∈fp,H' b=none)∧W i n σ' H') ?_ m0 ⟨0,σ,H2,I2,st2,fun b hb=>(f2 b hb).1,w0⟩
 rintro n s3 ⟨i,σ3,H3,I3,st3,fr3,w3⟩
 rcases turn i n σ3 H3 w3 with ⟨stop,qn⟩|⟨go,N,hN,step⟩
 ·refine wpAny_passesOwn hp (thn (T.done X rfl rfl rfl hc i pins s3 σ3 H3 X.xe I3 (stat fr3) st3 stop) fun r s4 ⟨hr,I4⟩=>?_)
  subst hr
  exact wpAny_execs_nil ⟨σ3,H3,I4,qn⟩
 ·refine wpAny_passesOwn hp (thn (T.item X rfl rfl rfl hc i pins s3 σ3 H3 X.xe I3 (stat fr3) st3 go) fun r s4 ⟨u,hr,h4⟩=>?_)
  subst hr
  refine wpAny_passesOwn hp (thn h4 fun _ s5 ⟨x,H5,I5,r5,y5,st5,fr5⟩=>?_)
  have I5':=I5.pinned (stat fr5) (T.obj _ _ st5)
  refine wpAny_passesOwn hp (thn (hg _ s5 σ3 H5 x u _ I5' r5 (step x H5 y5)) fun _ s6 ⟨σ6,H6,I6,q6⟩=>?_)
  refine wpAny_passesOwn hp (thn (hb _ s6 σ6 H6 _ I6 q6) fun f s7 q7=>?_)
  have again:∀{σ7:St} {H7:Hp},Inv X (pins++pinsAt fp s5.heap) σ7 H7 s7→N σ7 H7→∃m,m < n∧∃i σ' H',Inv X pins σ' H' s7∧tn i s7.heap∧(∀b∈fp,H' b=none)∧W i m σ' H':=fun {σ7 H7} I7 n7=>by
   obtain⟨m',hm,w7⟩:=hN σ7 H7 n7
   refine⟨m',hm,i+1,σ7,H7,I7.unpinned,T.keep _ _ _ st5 fun b hb o e=>(I7.pin (b,o) (List.mem_append_right _ (List.mem_append_right _ (mem_pinsAt hb e)))).1,fun b hb=>?_,w7⟩
   obtain⟨o,e,d⟩:=T.obj _ _ st5 b hb
   exact(I7.pin (b,o) (List.mem_append_right _ (List.mem_append_right _ (mem_pinsAt hb e)))).2.1
  cases f with
  |next=>obtain⟨σ7,H7,I7,n7⟩:=q7;exact again I7 n7
  |cont=>obtain⟨σ7,H7,I7,n7⟩:=q7;exact again I7 n7
  |brk=>obtain⟨σ7,H7,I7,q7⟩:=q7;exact⟨σ7,H7,I7.unpinned,q7⟩
  |ret v=>obtain⟨x7,σ7,H7,I7,r7,q7⟩:=q7;exact⟨x7,σ7,H7,I7.unpinned,r7,q7⟩
end
theorem for_list{K:PySem.W.Frag}{a:Addr}{xs:List V}{g:TG}{tb:TS}{D:Ends}{σ:St}{H:Hp}(Pv:Nat→St→Hp→Prop)(h0:Pv 0 σ H)(hl:∀i σ H,i≤xs.length→Pv i σ H→SqL K H a xs)
  (hs:∀i x σ H,xs[i]?=some x→Pv i σ H→g x σ H fun σ2 H2=>tb { D with nx:=Pv (i+1),ct:=Pv (i+1),bk:=D.nx } σ2 H2) (hd:∀σ H,Pv xs.length σ H→D.nx σ H) :
  ∃W:Nat→Nat→St→Hp→Prop,(∃m,W 0 m σ H)∧∀i m σ H,W i m σ H →
   ((Itl K a).stop i H∧D.nx σ H)∨((Itl K a).go i H∧∃N:St→Hp→Prop,(∀σ' H',N σ' H'→∃m',m' < m∧W (i+1) m' σ' H')∧∀x H',(Itl K a).yld i H x H'→g x σ H' fun σ2 H2=>tb { D with nx:=N,ct:=N,bk:=D.nx } σ2 H2):=by
 refine⟨fun i m σ H=>m=xs.length - i∧i≤xs.length∧Pv i σ H,⟨xs.length,by simp,Nat.zero_le _,h0⟩,?_⟩
 rintro i m σ H ⟨rfl,hi,p⟩
 have q:=hl i σ H hi p
 by_cases hlt:i < xs.length
 ·refine .inr ⟨⟨xs,xs[i],q,by simp [hlt]⟩,Pv (i+1),fun σ' H' p'=>⟨xs.length - (i+1),by omega,rfl,hlt,p'⟩,fun x H' y=>?_⟩
  obtain⟨e,y⟩:=y
  subst e
  exact hs i x σ _ (y xs q) p
 ·have e:i=xs.length:=by omega
  subst e
  exact .inl ⟨⟨xs,q,Nat.le_refl _⟩,hd σ H p⟩
theorem for_tup{K:PySem.W.Frag}{a:Addr}{xs:List V}{g:TG}{tb:TS}{D:Ends}{σ:St}{H:Hp}(Pv:Nat→St→Hp→Prop)(h0:Pv 0 σ H)(hl:∀i σ H,i≤xs.length→Pv i σ H→SqT K H a xs)
  (hs:∀i x σ H,xs[i]?=some x→Pv i σ H→g x σ H fun σ2 H2=>tb { D with nx:=Pv (i+1),ct:=Pv (i+1),bk:=D.nx } σ2 H2) (hd:∀σ H,Pv xs.length σ H→D.nx σ H) :
  ∃W:Nat→Nat→St→Hp→Prop,(∃m,W 0 m σ H)∧∀i m σ H,W i m σ H →
   ((Itt K a).stop i H∧D.nx σ H)∨((Itt K a).go i H∧∃N:St→Hp→Prop,(∀σ' H',N σ' H'→∃m',m' < m∧W (i+1) m' σ' H')∧∀x H',(Itt K a).yld i H x H'→g x σ H' fun σ2 H2=>tb { D with nx:=N,ct:=N,bk:=D.nx } σ2 H2):=by
 refine⟨fun i m σ H=>m=xs.length - i∧i≤xs.length∧Pv i σ H,⟨xs.length,by simp,Nat.zero_le _,h0⟩,?_⟩
 rintro i m σ H ⟨rfl,hi,p⟩
 have q:=hl i σ H hi p
 by_cases hlt:i < xs.length
 ·refine .inr ⟨⟨xs,xs[i],q,by simp [hlt]⟩,Pv (i+1),fun σ' H' p'=>⟨xs.length - (i+1),by omega,rfl,hlt,p'⟩,fun x H' y=>?_⟩
  obtain⟨e,y⟩:=y
  subst e
  exact hs i x σ _ (y xs q) p
 ·have e:i=xs.length:=by omega
  subst e
  exact .inl ⟨⟨xs,q,Nat.le_refl _⟩,hd σ H p⟩
theorem for_range{lo:Int}{n:Nat}{g:TG}{tb:TS}{D:Ends}{σ:St}{H:Hp}(Pv:Nat→St→Hp→Prop)(h0:Pv 0 σ H)
  (hs:∀i σ H,i < n→Pv i σ H→g (.int (lo+i)) σ H fun σ2 H2=>tb { D with nx:=Pv (i+1),ct:=Pv (i+1),bk:=D.nx } σ2 H2) (hd:∀σ H,Pv n σ H→D.nx σ H) :
  ∃W:Nat→Nat→St→Hp→Prop,(∃m,W 0 m σ H)∧∀i m σ H,W i m σ H →
   ((Itr lo n).stop i H∧D.nx σ H)∨((Itr lo n).go i H∧∃N:St→Hp→Prop,(∀σ' H',N σ' H'→∃m',m' < m∧W (i+1) m' σ' H')∧∀x H',(Itr lo n).yld i H x H'→g x σ H' fun σ2 H2=>tb { D with nx:=N,ct:=N,bk:=D.nx } σ2 H2):=by
 refine⟨fun i m σ H=>m=n - i∧i≤n∧Pv i σ H,⟨n,by simp,Nat.zero_le _,h0⟩,?_⟩
 rintro i m σ H ⟨rfl,hi,p⟩
 by_cases hlt:i < n
 ·refine .inr ⟨hlt,Pv (i+1),fun σ' H' p'=>⟨n - (i+1),by omega,rfl,hlt,p'⟩,fun x H' y=>?_⟩
  obtain⟨e,y⟩:=y
  subst e y
  exact hs i σ _ hlt p
 ·have e:i=n:=by omega
  subst e
  exact .inl ⟨Nat.le_refl _,hd σ H p⟩
theorem while_by{c:TT}{tb:TS}{D:Ends}{σ:St}{H:Hp}(Pv:St→Hp→Prop)(μ:St→Hp→Nat)(h0:Pv σ H)
  (hs:∀σ H,Pv σ H→c σ H fun b H1=>if b=true then tb { D with nx:=fun σ' H'=>Pv σ' H'∧μ σ' H' < μ σ H,ct:=fun σ' H'=>Pv σ' H'∧μ σ' H' < μ σ H,bk:=D.nx } σ H1 else D.nx σ H1)
  (mono:∀σ H Q Q',(∀b H1,Q b H1→Q' b H1)→c σ H Q→c σ H Q'):tWhile c tb D σ H:=by
 refine⟨fun m σ H=>m=μ σ H∧Pv σ H,⟨_,rfl,h0⟩,?_⟩
 rintro m σ H ⟨rfl,p⟩
 refine mono σ H _ _ (fun b H1 q=>?_) (hs σ H p)
 cases b with
 |true=>exact⟨_,fun σ' H' ⟨p',l⟩=>⟨_,l,rfl,p'⟩,q⟩
 |false=>exact q
end L2
namespace L2
open PySem PySem.Spec PyProof.Rows
abbrev R2:=V→V→Hp→VK→Prop
def OpR(X:Cx)(f:Value→Value→Sem Value)(r:R2):Prop :=
 ∀(pins:List (Addr × Obj)) (s:Shared) (σ:St) (H:Hp) (x y:V) (v u:Value) (Q:VK),Inv X pins σ H s→RelV x v→RelV y u→r x y H Q →
  wpAny (model X.prog X.w) X.A (f v u) (EP X pins σ Q) X.xe s
def CallR(X:Cx)(f:Value)(r:List V→Hp→VK→Prop):Prop :=
 ∀(pins:List (Addr × Obj)) (s:Shared) (σ:St) (H:Hp) (xs:List V) (us:List Value) (Q:VK),Inv X pins σ H s→Vals xs us→r xs H Q →
  wpAny (model X.prog X.w) X.A (call f us) (EP X pins σ Q) X.xe s
def tOp(r:R2)(ta tb:TE):TE:=fun σ H Q=>ta σ H fun x H1=>tb σ H1 fun y H2=>r x y H2 Q
def rI(C:Int→Int→Prop)(g:Int→Int→V):R2:=fun x y H Q=>∃i j,x=.int i∧y=.int j∧C i j∧Q (g i j) H
def rI0(g:Int→Int→V):R2:=fun x y H Q=>∃i j,x=.int i∧y=.int j∧Q (g i j) H
section
variable{X:Cx}{a b c:Expr}{ta tb tc:TE}{pos:Pos}
theorem binT(ha:PE X a ta)(hb:PE X b tb){pins:List (Addr × Obj)}{s:Shared}{σ:St}{H:Hp}{R:V→V→Hp→Prop}(I:Inv X pins σ H s)
  (h:ta σ H fun x H1=>tb σ H1 fun y H2=>R x y H2) {Q:Value→Shared→Prop} {f:Value→Value→Sem Value}
  (hf:∀v u s2 x y H2,Inv X pins σ H2 s2→RelV x v→RelV y u→R x y H2→wpAny (model X.prog X.w) X.A (f v u) Q X.xe s2) :
  wpAny (model X.prog X.w) X.A (eval a X.env) (fun v s₁=>wpAny (model X.prog X.w) X.A (eval b X.env) (fun u s₂=>wpAny (model X.prog X.w) X.A (f v u) Q X.xe s₂) X.xe s₁) X.xe s:=by
 refine thn (ha pins s σ H _ I h) fun v s1 ⟨x,H1,I1,r1,q1⟩=>?_
 refine thn (hb pins s1 σ H1 _ I1 q1) fun u s2 ⟨y,H2,I2,r2,q2⟩=>?_
 exact hf v u s2 x y H2 I2 r1 r2 q2
theorem pe_op{op:Operator}{r:R2}(ho:OpR X (binaryOp op) r)(ha:PE X a ta)(hb:PE X b tb):PE X (.BinOp a op b pos) (tOp r ta tb):=by
 intro pins s σ H Q I h
 exact wpAny_BinOp (binT ha hb I h fun v u s2 x y H2 I2 rx ry q=>ho pins s2 σ H2 x y v u Q I2 rx ry q)
theorem opI{f:Value→Value→Sem Value}{C:Int→Int→Prop}{g:Int→Int→Int}
  (rule:∀(i j:Int) (t u:Tok) (s:Shared) (Q:Value→Shared→Prop) (E:Value→Shared→Prop),C i j→Q (.int (g i j) s.toks) { s with toks:=s.toks+1 }→wpAny (model X.prog X.w) X.A (f (.int i t) (.int j u)) Q E s) :
  OpR X f (rI C fun i j=>.int (g i j)):=by
 intro pins s σ H x y v u Q I rx ry h
 obtain⟨i,j,rfl,rfl,hc,q⟩:=h
 obtain⟨t,rfl⟩:=rx
 obtain⟨t',rfl⟩:=ry
 exact rule i j t t' s _ _ hc ⟨.int (g i j),H,I.tok _,⟨_,rfl⟩,q⟩
theorem opI0{f:Value→Value→Sem Value}{g:Int→Int→Int}
  (rule:∀(i j:Int) (t u:Tok) (s:Shared) (Q:Value→Shared→Prop) (E:Value→Shared→Prop),Q (.int (g i j) s.toks) { s with toks:=s.toks+1 }→wpAny (model X.prog X.w) X.A (f (.int i t) (.int j u)) Q E s) :
  OpR X f (rI0 fun i j=>.int (g i j)):=by
 intro pins s σ H x y v u Q I rx ry h
 obtain⟨i,j,rfl,rfl,q⟩:=h
 obtain⟨t,rfl⟩:=rx
 obtain⟨t',rfl⟩:=ry
 exact rule i j t t' s _ _ ⟨.int (g i j),H,I.tok _,⟨_,rfl⟩,q⟩
theorem opB0{f:Value→Value→Sem Value}{g:Int→Int→Bool}
  (rule:∀(i j:Int) (t u:Tok) (s:Shared) (Q:Value→Shared→Prop) (E:Value→Shared→Prop),Q (.bool (g i j)) s→wpAny (model X.prog X.w) X.A (f (.int i t) (.int j u)) Q E s) :
  OpR X f (rI0 fun i j=>.bl (g i j)):=by
 intro pins s σ H x y v u Q I rx ry h
 obtain⟨i,j,rfl,rfl,q⟩:=h
 obtain⟨t,rfl⟩:=rx
 obtain⟨t',rfl⟩:=ry
 exact rule i j t t' s _ _ ⟨.bl (g i j),H,I,rfl,q⟩
def CDiv(i j:Int):Prop:=0 < j∧j < 1073741824
def CPow(i j:Int):Prop:=0≤j∧j≤1000000∧i.natAbs < 2 ^ 64
def CMul(i j:Int):Prop:=(-(2 ^ 64) < i∧i < 2 ^ 64)∨(-(2 ^ 64) < j∧j < 2 ^ 64)
theorem CMul.ok{i j:Int}(h:CMul i j):IntMulOk i j:=by
 rcases h with ⟨h1,h2⟩|⟨h1,h2⟩
 ·exact .of_left (intBits_le_64 h1 h2)
 ·exact .of_right (intBits_le_64 h1 h2)
theorem op_add:OpR X (binaryOp .Add) (rI0 fun i j=>.int (i+j)):=opI0 fun _ _ _ _ _ _ _ q=>add_int q
theorem op_mul:OpR X (binaryOp .Mult) (rI CMul fun i j=>.int (i*j)):=opI fun _ _ _ _ _ _ _ hc q=>mul_int q hc.ok
theorem op_fdiv:OpR X (binaryOp .FloorDiv) (rI CDiv fun i j=>.int (i / j)):=opI fun i j _ _ _ _ _ hc q=>by
 have h1:(0:Int) < j:=hc.1
 have h2:j < 1073741824:=hc.2
 exact floordiv_int (by omega) (by rw [Int.fdiv_eq_ediv_of_nonneg i (by omega)];exact q) (.inl (PyProof.noPylong_small (by omega)))
theorem op_mod:OpR X (binaryOp .Mod) (rI (fun _ j=>0 < j) fun i j=>.int (i%j)):=opI fun i j _ _ _ _ _ hc q=>by
 have h1:(0:Int) < j:=hc
 exact mod_int' (by omega) (by rw [Int.fmod_eq_emod_of_nonneg i (by omega)];exact q)
theorem op_pow:OpR X (binaryOp .Pow) (rI CPow fun i j=>.int (i ^ j.toNat)):=opI fun _ _ _ _ _ _ _ hc q=>pow_int_small hc.1 hc.2.1 hc.2.2 q
end
def scal:V→V→Bool
 |.non,.non=>true|.non,.int _=>true|.int _,.non=>true|.non,.bl _=>true|.bl _,.non=>true|.non,.str _=>true|.str _,.non=>true
 |.int _,.int _=>true|.bl _,.bl _=>true|.str _,.str _=>true|.byt _,.byt _=>true
 |.int _,.str _=>true|.str _,.int _=>true|.bl _,.str _=>true|.str _,.bl _=>true
 |_,_=>false
def rEq:R2:=fun x y H Q=>scal x y=true∧Q (.bl (decide (x=y))) H
def rNe:R2:=fun x y H Q=>scal x y=true∧Q (.bl (!decide (x=y))) H
theorem dec_int{i j:Int}:decide (V.int i=V.int j)=(i==j):=by
 rw [Bool.eq_iff_iff]
 simp
theorem dec_bl{i j:Bool}:decide (V.bl i=V.bl j)=(i==j):=by
 rw [Bool.eq_iff_iff]
 simp
theorem dec_str{i j:Str}:decide (V.str i=V.str j)=(i==j):=by
 rw [Bool.eq_iff_iff]
 simp
theorem dec_byt{i j:Array UInt8}:decide (V.byt i=V.byt j)=(i.toList==j.toList):=by
 rw [Bool.eq_iff_iff]
 cases i
 cases j
 simp
section
variable{X:Cx}{a b c:Expr}{ta tb tc:TE}{pos:Pos}
theorem fin_bl{pins:List (Addr × Obj)}{σ:St}{H:Hp}{s:Shared}{Q:VK}{k k':Bool}(I:Inv X pins σ H s)(q:Q (.bl k) H)(e:k=k'):EP X pins σ Q (.bool k') s:=by
 subst e
 exact⟨.bl k,H,I,rfl,q⟩
theorem op_eq:OpR X (compareOp .Eq) rEq:=by
 intro pins s σ H x y v u Q I rx ry h
 obtain⟨hs,q⟩:=h
 cases x with
 |non =>
  cases rx
  cases y with
  |non=>cases ry;exact PySem.EqNone.eq_none_none (fin_bl I q (by simp))
  |bl j=>cases ry;exact PySem.EqNone.eq_none_bool (fin_bl I q (by simp))
  |int j=>obtain⟨t',rfl⟩:=ry;exact PySem.EqNone.eq_none_int (fin_bl I q (by simp))
  |str j=>obtain⟨t',rfl⟩:=ry;exact PySem.EqNone.eq_none_str (fin_bl I q (by simp))
  |_=>exact absurd (show false=true from hs) Bool.false_ne_true
 |bl i =>
  cases rx
  cases y with
  |non=>cases ry;exact PySem.EqNone.eq_bool_none (fin_bl I q (by simp))
  |bl j=>cases ry;exact eq_bool (fin_bl I q dec_bl)
  |str j=>obtain⟨t',rfl⟩:=ry;exact PySem.EqMixed.eq_bool_str (fin_bl I q (by simp))
  |_=>exact absurd (show false=true from hs) Bool.false_ne_true
 |int i =>
  obtain⟨t,rfl⟩:=rx
  cases y with
  |non=>cases ry;exact PySem.EqNone.eq_int_none (fin_bl I q (by simp))
  |int j=>obtain⟨t',rfl⟩:=ry;exact eq_int (fin_bl I q dec_int)
  |str j=>obtain⟨t',rfl⟩:=ry;exact PySem.EqMixed.eq_int_str (fin_bl I q (by simp))
  |_=>exact absurd (show false=true from hs) Bool.false_ne_true
 |str i =>
  obtain⟨t,rfl⟩:=rx
  cases y with
  |non=>cases ry;exact PySem.EqNone.eq_str_none (fin_bl I q (by simp))
  |bl j=>cases ry;exact PySem.EqMixed.eq_str_bool (fin_bl I q (by simp))
  |int j=>obtain⟨t',rfl⟩:=ry;exact PySem.EqMixed.eq_str_int (fin_bl I q (by simp))
  |str j=>obtain⟨t',rfl⟩:=ry;exact eq_str (fin_bl I q dec_str)
  |_=>exact absurd (show false=true from hs) Bool.false_ne_true
 |byt i =>
  obtain⟨t,rfl⟩:=rx
  cases y with
  |byt j=>obtain⟨t',rfl⟩:=ry;exact PySem.W.eq_bytes (fin_bl I q dec_byt)
  |_=>exact absurd (show false=true from hs) Bool.false_ne_true
 |_=>cases y<;>exact absurd (show false=true from hs) Bool.false_ne_true
theorem op_ne:OpR X (compareOp .NotEq) rNe:=by
 intro pins s σ H x y v u Q I rx ry h
 obtain⟨hs,q⟩:=h
 cases x with
 |non =>
  cases rx
  cases y with
  |non=>cases ry;exact PySem.EqNone.ne_none_none (fin_bl I q (by simp))
  |bl j=>cases ry;exact PySem.EqNone.ne_none_bool (fin_bl I q (by simp))
  |int j=>obtain⟨t',rfl⟩:=ry;exact PySem.EqNone.ne_none_int (fin_bl I q (by simp))
  |str j=>obtain⟨t',rfl⟩:=ry;exact PySem.EqNone.ne_none_str (fin_bl I q (by simp))
  |_=>exact absurd (show false=true from hs) Bool.false_ne_true
 |bl i =>
  cases rx
  cases y with
  |non=>cases ry;exact PySem.EqNone.ne_bool_none (fin_bl I q (by simp))
  |bl j=>cases ry;exact ne_bool (fin_bl I q (congrArg not dec_bl))
  |str j=>obtain⟨t',rfl⟩:=ry;exact PySem.EqMixed.ne_bool_str (fin_bl I q (by simp))
  |_=>exact absurd (show false=true from hs) Bool.false_ne_true
 |int i =>
  obtain⟨t,rfl⟩:=rx
  cases y with
  |non=>cases ry;exact PySem.EqNone.ne_int_none (fin_bl I q (by simp))
  |int j=>obtain⟨t',rfl⟩:=ry;exact ne_int (fin_bl I q (congrArg not dec_int))
  |str j=>obtain⟨t',rfl⟩:=ry;exact PySem.EqMixed.ne_int_str (fin_bl I q (by simp))
  |_=>exact absurd (show false=true from hs) Bool.false_ne_true
 |str i =>
  obtain⟨t,rfl⟩:=rx
  cases y with
  |non=>cases ry;exact PySem.EqNone.ne_str_none (fin_bl I q (by simp))
  |bl j=>cases ry;exact PySem.EqMixed.ne_str_bool (fin_bl I q (by simp))
  |int j=>obtain⟨t',rfl⟩:=ry;exact PySem.EqMixed.ne_str_int (fin_bl I q (by simp))
  |str j=>obtain⟨t',rfl⟩:=ry;exact ne_str (fin_bl I q (congrArg not dec_str))
  |_=>exact absurd (show false=true from hs) Bool.false_ne_true
 |byt i =>
  obtain⟨t,rfl⟩:=rx
  cases y with
  |byt j=>obtain⟨t',rfl⟩:=ry;exact PySem.W.ne_bytes (fin_bl I q (congrArg not dec_byt))
  |_=>exact absurd (show false=true from hs) Bool.false_ne_true
 |_=>cases y<;>exact absurd (show false=true from hs) Bool.false_ne_true
theorem op_lt:OpR X (compareOp .Lt) (rI0 fun i j=>.bl (decide (i < j))):=opB0 fun _ _ _ _ _ _ _ q=>lt_int q
theorem op_gt:OpR X (compareOp .Gt) (rI0 fun i j=>.bl (decide (j < i))):=opB0 fun _ _ _ _ _ _ _ q=>gt_int q
theorem op_isN:OpR X (compareOp .Is) (fun x y H Q=>y=.non∧Q (.bl (decide (x=.non))) H):=by
 intro pins s σ H x y v u Q I rx ry h
 obtain⟨rfl,q⟩:=h
 cases ry
 refine is_none_gen (fin_bl I q ?_)
 cases x<;>first
  |(cases rx;rfl)
  |(obtain⟨t,rfl⟩:=rx;rfl)
theorem nomark(b:Expr){op:CmpOp}(h:op≠.In:=by decide)(h2:op≠.NotIn:=by decide):behindInMarks op b=false:=by
 have e1:(op==CmpOp.In)=false:=by cases op<;>first|rfl|exact absurd rfl h
 have e2:(op==CmpOp.NotIn)=false:=by cases op<;>first|rfl|exact absurd rfl h2
 cases b<;>simp [behindInMarks,e1,e2]
theorem pe_cmpR{op:CmpOp}{r:R2}(ho:OpR X (compareOp op) r)(ha:PE X a ta)(hb:PE X b tb)(hm:behindInMarks op b=false):PE X (.Compare a [op] [b] pos) (tOp r ta tb):=by
 intro pins s σ H Q I h
 exact wpAny_Compare1 (binT ha hb I h fun v u s2 x y H2 I2 rx ry q=>ho pins s2 σ H2 x y v u Q I2 rx ry q) hm
def tTest(t:TE):TT:=fun σ H Q=>t σ H fun x H'=>∃k,x=.bl k∧Q k H'
theorem pt_cmpR{op:CmpOp}{r:R2}(ho:OpR X (compareOp op) r)(ha:PE X a ta)(hb:PE X b tb)(hm:behindInMarks op b=false):PT X (.Compare a [op] [b] pos) (tTest (tOp r ta tb)):=by
 intro pins s σ H Q I h
 refine wpAny_isTrue_Compare1 (thn (ha pins s σ H _ I h) fun v s1 ⟨x,H1,I1,r1,q1⟩=>thn (hb pins s1 σ H1 _ I1 q1) fun u s2 ⟨y,H2,I2,r2,q2⟩ =>
  thn (ho pins s2 σ H2 x y v u _ I2 r1 r2 q2) fun c s3 ⟨z,H3,I3,r3,k,e,q3⟩=>?_) hm
 subst e
 cases r3
 exact wpAny_truthy_bool ⟨H3,I3,q3⟩
theorem line63:(sizeLine:Nat) < 2 ^ 63:=by rw [sizeLine_eq];decide
theorem op_add_str:OpR X (binaryOp .Add) (fun x y H Q=>∃i j,x=.str i∧y=.str j∧i.length+j.length≤sizeLine∧Q (.str (i++j)) H):=by
 intro pins s σ H x y v u Q I rx ry h
 obtain⟨i,j,rfl,rfl,hz,q⟩:=h
 obtain⟨t,rfl⟩:=rx
 obtain⟨t',rfl⟩:=ry
 exact add_str (fun t' tk=>⟨.str (i++j),H,I.tok _,⟨_,rfl⟩,q⟩) hz
theorem vals1{x:V}{us:List Value}(r:Vals [x] us):∃u,us=[u]∧RelV x u:=by
 cases r with
 |cons r1 r2=>cases r2;exact⟨_,rfl,r1⟩
theorem vals2{x y:V}{us:List Value}(r:Vals [x,y] us):∃u w',us=[u,w']∧RelV x u∧RelV y w':=by
 cases r with
 |cons r1 r2 =>
  cases r2 with
  |cons r3 r4=>cases r4;exact⟨_,_,rfl,r1,r3⟩
theorem call_min2(hc:X.calm=true):CallR X (.builtin "min") (fun xs H Q=>∃i j,xs=[.int i,.int j]∧Q (.int (if j < i then j else i)) H):=by
 intro pins s σ H xs us Q I r h
 obtain⟨i,j,rfl,q⟩:=h
 obtain⟨u,w',rfl,⟨t,rfl⟩,⟨t',rfl⟩⟩:=vals2 r
 refine min_two_ints (I.ok.hd hc) fun h' tk k=>⟨_,H,I.kept k,?_,q⟩
 by_cases hj:j < i
 ·rw [if_pos hj,if_pos hj];exact⟨_,rfl⟩
 ·rw [if_neg hj,if_neg hj];exact⟨_,rfl⟩
theorem call_int1:CallR X (.type "int") (fun xs H Q=>(∃i,xs=[.int i]∧Q (.int i) H)∨∃k,xs=[.bl k]∧Q (.int (if k then 1 else 0)) H):=by
 intro pins s σ H xs us Q I r h
 rcases h with ⟨i,rfl,q⟩|⟨k,rfl,q⟩
 ·obtain⟨u,rfl,t,rfl⟩:=vals1 r
  exact call_int_int ⟨.int i,H,I,⟨_,rfl⟩,q⟩
 ·obtain⟨u,rfl,r1⟩:=vals1 r
  cases r1
  exact call_int_bool ⟨.int (if k then 1 else 0),H,I.tok _,⟨_,rfl⟩,q⟩
end
end L2
namespace L2
open PySem PySem.Spec PyProof.Rows
structure ObjM(h:Heap)(x dx C:Addr)(mA:Str→Option Value):Prop where
 obj:h.get? x=some (PySem.W.instObj C dx)
 ns:h.Ns1 dx mA
 ne:dx≠x
theorem lookIn_ns{h:Heap}{dx:Addr}{mA:Str→Option Value}(n:h.Ns1 dx mA):∃od,h.get? dx=some od∧∀name,PySem.W.lookIn name od=some (mA name):=by
 obtain⟨o,es,ep,ho,hd,hk,_,hm⟩:=n
 refine⟨o,ho,fun name=>?_⟩
 have e:=hm name
 unfold nsFind findBy at e
 rw [←Array.find?_toList] at e
 unfold PySem.W.lookIn
 rw [hd]
 dsimp only
 split
 ·rename_i y q
  rw [q] at e
  exact congrArg some e
 ·rename_i q
  rw [q] at e
  have a:es.toList.any (·.refKey)=false:=by
   rw [List.any_eq_false]
   intro y hy
   obtain⟨z,t,hkey⟩:=hk y (Array.mem_toList_iff.mp hy)
   simp [DictEntry.refKey,hkey]
  have a':¬es.toList.any (·.refKey)=true:=by rw [a];exact Bool.false_ne_true
  rw [if_neg a']
  exact congrArg some e
theorem ObjM.look{h:Heap}{x dx C:Addr}{mA:Str→Option Value}(I:ObjM h x dx C mA):∃od,PySem.W.InstAt h x (PySem.W.instObj C dx) C (some od)∧∀name,PySem.W.lookIn name od=some (mA name) :=
 let ⟨od,ho,hl⟩:=lookIn_ns I.ns
 ⟨od,⟨I.obj,rfl,rfl,ho⟩,hl⟩
section
variable{prog:Program}{w:World}{A:Around}{E:Value→Shared→Prop}{s:Shared}{K:PySem.W.Frag}{x dx C f:Addr}{mA:Str→Option Value}{name:Str}{v:Value}
theorem get_map{expr:Bool}{Q:Value→Shared→Prop}(X:K.In s.heap)(I:ObjM s.heap x dx C mA)(hg:PySem.W.plainGet K C name=true)(hh:PySem.W.hasDictIn K C=true)
  (ha:PySem.W.findIn K (.ref C) name=some none) (hv:mA name=some v) (hv':PySem.W.handedIn v=true) (h:Q v { s with toks:=s.toks+1 }) :
  wpAny (model prog w) A (getAttr (.ref x) name expr) Q E s:=by
 obtain⟨od,J,hl⟩:=I.look
 exact PySem.W.get_value X J (PySem.W.plainGet_of hg).1 (PySem.W.findObj_own hh ha rfl (by rw [hl,hv])) hv' h
theorem set_map{ns:List Str}{Q:Unit→Shared→Prop}(X:K.In s.heap)(I:ObjM s.heap x dx C mA)
  (hs:PySem.W.findIn K (.ref C) "__setattr__"=some (some (.builtin "object.__setattr__"))) (hp:PySem.W.plainOver K C=true) (ht:PySem.W.takerIn K C name=some none) (hh:PySem.W.hasDictIn K C=true)
  (hw:PySem.Within mA ns) (hsz:ns.length≤sizeLine)
  (h:∀h',ObjM h' x dx C (fun y=>if y=name then some v else mA y)→Heap.SameBut dx s.heap h'→Q () { s with heap:=h',toks:=s.toks+2 }) :
  wpAny (model prog w) A (setAttr (.ref x) name v) Q E s:=by
 obtain⟨od,J,hl⟩:=I.look
 refine PySem.W.set_plain X J hs (PySem.W.osa_open (s:={ s with toks:=s.toks+1 }) (r:=none) X J hp ht fun b=>?_)
 obtain⟨cd,hc,hd'⟩:=PySem.W.any_some hh
 have hx:s.heap.get? x=some ⟨.ref C,some dx,.plain,#[]⟩:=I.obj
 refine wpAny_bind (wpAny_pure (wpAny_bind (wpAny_bind (wpAny_loadPart hx (wpAny_bind (PySem.W.Looks.here (s:={ s with toks:=s.toks+1 }) (PySem.W.looks_clsIn X hc) ?_))))))
 rw [hd']
 refine wpAny_pure (a:=some dx) (wpAny_bind (wpAny_pure (wpAny_bind ?_)))
 refine wpAny_nsSet1 (s:={ s with toks:=s.toks+1 }) I.ns fun h' hn2 hs2=>?_
 obtain⟨oD,esD,epD,hoD,hdD,hcD⟩:=hn2.count (PySem.Within.cons name v hw)
 refine wpAny_bind (wpAny_lookBehind hoD (by rw [hdD];exact pastItsLine_dict (Nat.le_trans hcD (by rw [List.length_cons];omega))) ?_)
 exact wpAny_pure (h _ ⟨(hs2.2 _ (Ne.symm I.ne)).trans I.obj,hn2,I.ne⟩ hs2)
theorem make_map{R:Result→Shared→Prop}{vs:List Value}{kw:List (Str × Value)}(X:K.In s.heap)(hm:PySem.W.makesIn K C=true)
  (hi:PySem.W.findIn K (.ref C) "__init__"=some (some (.ref f))) (hf:PySem.W.typeIn K (.ref f)=some (.type "function"))
  (h:codeAny (model prog w) (A.under (.builtin "type.__call__" ⟨.ref C::vs,kw⟩)) (.call (.ref f) ⟨.ref (s.heap.objs.size+1)::vs,kw⟩) (PySem.W.InitBack (s.heap.objs.size+1) R)
   { s with heap:=(s.heap.push PySem.W.emptyDict).push (PySem.W.instObj C s.heap.objs.size) }) :
  codeAny (model prog w) A (.call (.ref C) ⟨vs,kw⟩) R s:=by
 obtain⟨hh,g,d,t,os⟩:=s
 exact PySem.W.make_core (PySem.W.makes_of X hm) (PySem.W.looks_findIn X hi) (fun self=>PySem.W.bind_fn X self hf) (.inl rfl) h
end
def putF(f:Str)(v:V):List (Str × V)→List (Str × V)
 |[]=>[(f,v)]
 |(g,x)::r=>if g=f then (g,v)::r else (g,x)::putF f v r
theorem lookup_putF(f g:Str)(v:V):∀fs:List (Str × V),(putF f v fs).lookup g=if g=f then some v else fs.lookup g
 |[]=>by
  show List.lookup g [(f,v)]=_
  by_cases h:g=f
  ·have hb:(g==f)=true:=beq_iff_eq.mpr h
   simp only [List.lookup,hb,if_pos h]
  ·have hb:(g==f)=false:=beq_eq_false_iff_ne.mpr h
   simp only [List.lookup,hb,if_neg h]
 |(k,x)::r=>by
  have ih:=lookup_putF f g v r
  rw [show putF f v ((k,x)::r)=(if k=f then (k,v)::r else (k,x)::putF f v r) from rfl]
  by_cases hk:k=f
  ·rw [if_pos hk]
   by_cases h:g=k
   ·have hb:(g==k)=true:=beq_iff_eq.mpr h
    simp only [List.lookup,hb,if_pos (h.trans hk)]
   ·have hb:(g==k)=false:=beq_eq_false_iff_ne.mpr h
    simp only [List.lookup,hb,if_neg (fun e:g=f=>h (e.trans hk.symm))]
  ·rw [if_neg hk]
   by_cases h:g=k
   ·have hb:(g==k)=true:=beq_iff_eq.mpr h
    simp only [List.lookup,hb,if_neg (fun e:g=f=>hk (h.symm.trans e))]
   ·have hb:(g==k)=false:=beq_eq_false_iff_ne.mpr h
    simp only [List.lookup,hb]
    exact ih
theorem keys_putF(f:Str)(v:V):∀fs:List (Str × V),f∈(putF f v fs).map (·.1)∧∀g,g∈fs.map (·.1)→g∈(putF f v fs).map (·.1)
 |[]=>⟨by simp [putF],fun g h=>by simp at h⟩
 |(k,x)::r=>by
  obtain⟨i1,i2⟩:=keys_putF f v r
  rw [show putF f v ((k,x)::r)=(if k=f then (k,v)::r else (k,x)::putF f v r) from rfl]
  by_cases hk:k=f
  ·rw [if_pos hk]
   subst hk
   exact⟨by simp,fun g h=>by simpa using h⟩
  ·rw [if_neg hk]
   refine⟨?_,fun g h=>?_⟩
   ·rw [List.map_cons]
    exact List.mem_cons_of_mem _ i1
   ·rw [List.map_cons] at h ⊢
    rcases List.mem_cons.mp h with e|e
    ·exact List.mem_cons.mpr (.inl e)
    ·exact List.mem_cons_of_mem _ (i2 g e)
theorem length_putF(f:Str)(v:V):∀fs:List (Str × V),(putF f v fs).length≤fs.length+1
 |[]=>by simp [putF]
 |(k,x)::r=>by
  have ih:=length_putF f v r
  rw [show putF f v ((k,x)::r)=(if k=f then (k,v)::r else (k,x)::putF f v r) from rfl]
  by_cases hk:k=f
  ·rw [if_pos hk,List.length_cons,List.length_cons];omega
  ·rw [if_neg hk,List.length_cons,List.length_cons];omega
theorem RelO.some_of{v:V}{o:Option Value}(r:RelO (some v) o):∃u,o=some u∧RelV v u:=by
 cases o with
 |none=>exact(show False from r).elim
 |some u=>exact⟨u,rfl,r⟩
theorem handed_of{v:V}{u:Value}(r:RelV v u):PySem.W.handedIn u=true:=by
 cases v with
 |non=>cases (show u=Value.none from r);rfl
 |bl b=>cases (show u=Value.bool b from r);rfl
 |int i=>obtain⟨t,e⟩:=(show ∃t,u=Value.int i t from r);cases e;rfl
 |str x=>obtain⟨t,e⟩:=(show ∃t,u=Value.str x t from r);cases e;rfl
 |byt b=>obtain⟨t,e⟩:=(show ∃t,u=Value.bytes b t from r);cases e;rfl
 |flt b=>obtain⟨t,e⟩:=(show ∃t,u=Value.float b t from r);cases e;rfl
 |ref a=>cases (show u=Value.ref a from r);rfl
 |ty n=>cases (show u=Value.type n from r);rfl
section
variable{P:Program}{w:World}{H H':Hp}{h h':Heap}{a C dx:Addr}{fs fs':List (Str × V)}
theorem ins_get(hok:HOk P w H h)(e:H a=some (.ins C dx fs)):∃mA,ObjM h a dx C mA∧(∀f,RelO (fs.lookup f) (mA f))∧PySem.Within mA (fs.map (·.1))∧fs.length≤1000∧H dx=some (.own a):=by
 obtain⟨d,z,ne,ob,mA,n,r,q⟩:=(show ObjOk P w H h a (.ins C dx fs) from hok a _ e)
 exact⟨mA,⟨ob,n,ne⟩,r,q,z,d⟩
end
structure Cls(K:PySem.W.Frag)(C:Addr):Prop where
 pg:PySem.W.plainGet K C Str.empty=true
 hd:PySem.W.hasDictIn K C=true
 po:PySem.W.plainOver K C=true
 sa:PySem.W.findIn K (.ref C) "__setattr__"=some (some (.builtin "object.__setattr__"))
theorem Cls.get{K:PySem.W.Frag}{C:Addr}(c:Cls K C)(f:Str):PySem.W.plainGet K C f=true:=c.pg
def NoAttr(K:PySem.W.Frag)(C:Addr)(f:Str):Prop:=PySem.W.findIn K (.ref C) f=some none
theorem NoAttr.taker{K:PySem.W.Frag}{C:Addr}{f:Str}(n:NoAttr K C f):PySem.W.takerIn K C f=some none:=by
 unfold PySem.W.takerIn
 rw [show PySem.W.findIn K (.ref C) f=some none from n]
 rfl
structure Con(K:PySem.W.Frag)(C:Addr)(f:Str)(v:V)(u:Value):Prop where
 at_:PySem.W.findIn K (.ref C) f=some (some u)
 rel:RelV v u
 get:PySem.W.specialIn K u "__get__"=some none
 cp:PySem.W.copiedNames.contains f=false
structure Meth(K:PySem.W.Frag)(C:Addr)(m:Str)(f:Addr):Prop where
 at_:PySem.W.findIn K (.ref C) m=some (some (.ref f))
 fn:PySem.W.isFn K (.ref f)=true
 kp:PySem.W.keepIn K (.ref f)=true
section
variable{X:Cx}{pins:List (Addr × Obj)}{σ:St}{H:Hp}{s:Shared}{a C dx:Addr}{fs:List (Str × V)}{f:Str}{v:V}{A:Around}{E:Value→Shared→Prop}
theorem getattr_ok{b:Bool}{Q:Value→Shared→Prop}(I:Inv X pins σ H s)(e:H a=some (.ins C dx fs))(c:Cls X.K C)(n:NoAttr X.K C f)(l:fs.lookup f=some v)
  (h:∀u s',Inv X pins σ H s'→RelV v u→Q u s'):wpAny (model X.prog X.w) A (getAttr (.ref a) f b) Q E s:=by
 obtain⟨mA,O,r,_,_,_⟩:=ins_get I.hok e
 obtain⟨u,hu,ru⟩:=RelO.some_of (v:=v) (o:=mA f) (by rw [←l];exact r f)
 exact get_map I.kIn O (c.get f) c.hd n hu (handed_of ru) (h u _ (I.tok _) ru)
theorem setattr_ok{y:V}{u:Value}{Q:Unit→Shared→Prop}(I:Inv X pins σ H s)(e:H a=some (.ins C dx fs))(c:Cls X.K C)(n:NoAttr X.K C f)(hl:fs.length < 1000)(ry:RelV y u)
  (h:∀s',Inv X pins σ (upd H a (.ins C dx (putF f y fs))) s'→Q () s'):wpAny (model X.prog X.w) A (setAttr (.ref a) f u) Q E s:=by
 obtain⟨mA,O,r,wi,_,ho⟩:=ins_get I.hok e
 have hz:(fs.map (·.1)).length≤sizeLine:=by rw [List.length_map,sizeLine_eq];omega
 refine set_map I.kIn O c.sa c.po n.taker c.hd wi hz fun h' O' sb=>h _ ?_
 have hd:∃o,h'.get? dx=some o:=let ⟨o,_,_,e',_⟩:=O'.ns;⟨o,e'⟩
 refine I.write (x:=a) (e:=dx) (by rw [e];exact True.intro) (.inr ho) (fun b q hb z=>(sb.2 b hb).trans z) hd ?_
 refine⟨by rw [upd_ne O.ne];exact ho,?_,O.ne,O'.obj,_,O'.ns,fun g=>?_,fun g hg=>?_⟩
 ·have:=length_putF f y fs;omega
 ·show RelO ((putF f y fs).lookup g) (if g=f then some u else mA g)
  rw [lookup_putF]
  by_cases q:g=f
  ·rw [if_pos q,if_pos q];exact ry
  ·rw [if_neg q,if_neg q];exact r g
 ·by_cases q:g=f
  ·rw [q];exact(keys_putF f y fs).1
  ·refine(keys_putF f y fs).2 g (wi g fun z=>hg ?_)
   show(if g=f then some u else mA g)=none
   rw [if_neg q];exact z
theorem Inv.made(I:Inv X pins σ H s):Inv X pins σ (upd (upd H s.heap.objs.size (.own (s.heap.objs.size+1))) (s.heap.objs.size+1) (.ins C s.heap.objs.size []))
  { s with heap:=(s.heap.push PySem.W.emptyDict).push (PySem.W.instObj C s.heap.objs.size) }:=by
 have e1:(s.heap.push PySem.W.emptyDict).get? s.heap.objs.size=some PySem.W.emptyDict:=Heap.get?_push_size s.heap rfl
 have e2:((s.heap.push PySem.W.emptyDict).push (PySem.W.instObj C s.heap.objs.size)).get? (s.heap.objs.size+1)=some (PySem.W.instObj C s.heap.objs.size):=by
  have:=Heap.get?_push_size (s.heap.push PySem.W.emptyDict) (o:=PySem.W.instObj C s.heap.objs.size) rfl
  rwa [Heap.size_push] at this
 have e3:(s.heap.push PySem.W.emptyDict).Ns s.heap.objs.size (fun _=>none):=⟨PySem.W.emptyDict,#[],_,e1,rfl,(fun e he=>absurd he (by simp)),fun _=>rfl⟩
 have I1:=I.laid (a:=s.heap.objs.size) (o:=.own (s.heap.objs.size+1)) (h':=s.heap.push PySem.W.emptyDict) (t':=s.toks) (fun b u q=>Heap.get?_push_of_some _ q) (Nat.le_refl _) ⟨_,e1⟩
 refine I1.laid (a:=s.heap.objs.size+1) (o:=.ins C s.heap.objs.size []) (t':=s.toks) (fun b u q=>Heap.get?_push_of_some _ q) (Nat.le_of_eq (Heap.size_push _ _)) ?_
 have ne:s.heap.objs.size≠s.heap.objs.size+1:=Nat.ne_of_lt (Nat.lt_succ_self _)
 refine⟨by rw [upd_ne ne,upd_same],Nat.zero_le _,ne,e2,fun _=>none,(Heap.Ns1.of_empty e3).at fun o q=>Heap.get?_push_of_some _ q,fun _=>True.intro,fun y hy=>absurd rfl hy⟩
theorem attr_of{prog:Program}{w:World}{env:Env}{e:Expr}{f:Str}{pos:Pos}{s:Shared}{Q:Value→Shared→Prop}(hb:attributeBase e f env (eval e env)=eval e env)
  (h:wpAny (model prog w) A (eval e env) (fun o s₁=>wpAny (model prog w) A (getAttr o f true) Q E s₁) E s):wpAny (model prog w) A (eval (.Attribute e f pos) env) Q E s :=
 Attribute_any_ h (by rw [arm_eval_Attribute,hb])
end
def tFld(K:PySem.W.Frag)(ta:TE)(f:Str):TE:=fun σ H Q=>ta σ H fun x H1=>∃a C dx fs v,x=.ref a∧H1 a=some (.ins C dx fs)∧Cls K C∧NoAttr K C f∧fs.lookup f=some v∧Q v H1
def sFld(K:PySem.W.Frag)(ta tv:TE)(f:Str):TS:=fun D σ H=>tv σ H fun y H1=>ta σ H1 fun x H2=>∃a C dx fs,x=.ref a∧H2 a=some (.ins C dx fs)∧Cls K C∧NoAttr K C f∧fs.length < 1000 ∧
 D.nx σ (upd H2 a (.ins C dx (putF f y fs)))
section
variable{X:Cx}{o e value:Expr}{f:Str}{pos pos' tpos:Pos}{ta tv:TE}
theorem pe_fld(he:PE X e ta)(hb:attributeBase e f X.env (eval e X.env)=eval e X.env):PE X (.Attribute e f pos) (tFld X.K ta f):=by
 intro pins s σ H Q I h
 refine attr_of hb (thn (he pins s σ H _ I h) fun u s1 ⟨x,H1,I1,rx,a,C,dx,fs,v,ex,ea,c,n,l,q⟩=>?_)
 subst ex
 obtain rfl:u=Value.ref a:=rx
 exact getattr_ok I1 ea c n l fun u' s2 I2 ru=>⟨v,H1,I2,ru,q⟩
theorem ps_fld(ha:PE X o ta)(hv:PE X value tv)(hs:swapsWith value (some (.Attribute o f pos')) pos.line X.env=pure false):PS X (.Assign [.Attribute o f pos'] value pos) (sFld X.K ta tv f):=by
 intro pins s σ H D I h
 refine plainObj_wpAny_Assign_Attribute (thn (hv pins s σ H _ I h) fun u s1 ⟨y,H1,I1,ry,q⟩=>thn (ha pins s1 σ H1 _ I1 q) fun ov s2 ⟨x,H2,I2,rx,a,C,dx,fs,ex,ea,c,n,l,q2⟩=>?_) hs
 subst ex
 obtain rfl:ov=Value.ref a:=rx
 exact setattr_ok I2 ea c n l ry fun s3 I3=>⟨σ,_,I3,q2⟩
end
section
variable{X:Cx}{pins:List (Addr × Obj)}{σ:St}{H:Hp}{s:Shared}{A:Around}{E:Value→Shared→Prop}{Q:Value→Shared→Prop}{c:Value}{b:Bool}
inductive TyOf (K:PySem.W.Frag) (H:Hp):V→Value→Prop where
 |non:TyOf K H .non (.type "NoneType")
 |bl (x:Bool):TyOf K H (.bl x) (.type "bool")
 |int (i:Int):TyOf K H (.int i) (.type "int")
 |str (x:Str):TyOf K H (.str x) (.type "str")
 |flt (x:UInt64):TyOf K H (.flt x) (.type "float")
 |lst {a:Addr} {xs:List V} (e:H a=some (.lst xs)):TyOf K H (.ref a) (.type "list")
 |frz {a:Addr} {o:Obj} {xs:List V} (e:H a=some (.frz o (.lst xs))):TyOf K H (.ref a) (.type "list")
 |tup {a:Addr} {xs:List V} (e:H a=some (.tup xs)):TyOf K H (.ref a) (.type "tuple")
 |dK {a:Addr} {kvs:List (Key × V)} (e:H a=some (.dK kvs)):TyOf K H (.ref a) (.type "dict")
 |dT {a:Addr} {kvs:List (List Key × V)} (e:H a=some (.dT kvs)):TyOf K H (.ref a) (.type "dict")
 |ins {a C dx:Addr} {fs:List (Str × V)} (e:H a=some (.ins C dx fs)) (cl:Cls K C) (ha:PySem.W.findIn K (.ref C) "__class__"=some (some (.builtin "object.__class__")))
   (hn:PySem.W.specialIn K (.builtin "object.__class__") "__get__"=some (some (.builtin "getset_descriptor.__get__"))) (htk:PySem.W.takesIn K (.builtin "object.__class__")=some true)
   (hm:PySem.W.mroIn K C (.type "object")=some true):TyOf K H (.ref a) (.ref C)
theorem isinst_ok{x:V}{u t:Value}(I:Inv X pins σ H s)(rx:RelV x u)(ty:TyOf X.K H x t)(e:PySem.W.kitOne X.K t c=some b)(h:∀tk,Q (.bool b) { s with toks:=tk }) :
  wpAny (model X.prog X.w) A (call (.builtin "isinstance") [u,c]) Q E s:=by
 cases ty with
 |non=>cases (show u=Value.none from rx);exact PySem.W.kia_one PySem.W.kitx_none I.kIn True.intro e (fun z=>nomatch z) h
 |bl y=>cases (show u=Value.bool y from rx);exact PySem.W.kia_one PySem.W.kitx_bool I.kIn True.intro e (fun z=>nomatch z) h
 |int i=>obtain⟨t,q⟩:=(show ∃t,u=Value.int i t from rx);cases q;exact PySem.W.kia_one PySem.W.kitx_int I.kIn True.intro e (fun z=>nomatch z) h
 |str y=>obtain⟨t,q⟩:=(show ∃t,u=Value.str y t from rx);cases q;exact PySem.W.kia_one PySem.W.kitx_str I.kIn True.intro e (fun z=>nomatch z) h
 |flt y=>obtain⟨t,q⟩:=(show ∃t,u=Value.float y t from rx);cases q;exact PySem.W.kia_one PySem.W.kitx_float I.kIn True.intro e (fun z=>nomatch z) h
 |@lst a xs ea =>
  cases (show u=Value.ref a from rx)
  obtain⟨_,_,n,_,h1⟩:=(show ObjOk X.prog X.w H s.heap a (.lst xs) from I.hok a _ ea)
  exact PySem.W.kia_one PySem.W.kitx_list I.kIn ⟨_,h1,rfl⟩ e (fun z=>nomatch z) h
 |@frz a ob xs ea =>
  cases (show u=Value.ref a from rx)
  obtain⟨_,_,_,n,_,h1⟩:=(show ObjOk X.prog X.w H s.heap a (.frz ob (.lst xs)) from I.hok a _ ea)
  exact PySem.W.kia_one PySem.W.kitx_list I.kIn ⟨_,h1,rfl⟩ e (fun z=>nomatch z) h
 |@tup a xs ea =>
  cases (show u=Value.ref a from rx)
  obtain⟨_,_,_,p⟩:=(show ObjOk X.prog X.w H s.heap a (.tup xs) from I.hok a _ ea)
  obtain⟨o,h1,h2,_⟩:=p
  exact PySem.W.kia_one PySem.W.kitx_tuple I.kIn ⟨o,h1,h2⟩ e (fun z=>nomatch z) h
 |@dK a kvs ea =>
  cases (show u=Value.ref a from rx)
  obtain⟨_,_,vs,_,p⟩:=(show ObjOk X.prog X.w H s.heap a (.dK kvs) from I.hok a _ ea)
  obtain⟨o,es,ep,h1,h2,_⟩:=p
  exact PySem.W.kia_one PySem.W.kitx_dict I.kIn ⟨o,h1,h2.1⟩ e (fun z=>nomatch z) h
 |@dT a kvs ea =>
  cases (show u=Value.ref a from rx)
  obtain⟨_,_,xs,_,o,es,ep,h1,h2,_⟩:=(show ObjOk X.prog X.w H s.heap a (.dT kvs) from I.hok a _ ea)
  exact PySem.W.kia_one PySem.W.kitx_dict I.kIn ⟨o,h1,h2.1⟩ e (fun z=>nomatch z) h
 |@ins a C dx fs ea cl ha hn htk hm =>
  cases (show u=Value.ref a from rx)
  obtain⟨mA,O,_⟩:=ins_get I.hok ea
  obtain⟨od,J,_⟩:=O.look
  exact PySem.W.kia_one (PySem.W.kitx_own (cl.get _) cl.hd ha hn htk hm) I.kIn J e (fun z=>nomatch z) h
end
end L2
namespace L2
open PySem PySem.Spec PyProof.Rows
structure Room(k:Nat)(A:Around):Prop where
 hd:A.handled=none
 dp:A.depth+3*k+5 < recursionLimit
 un:A.units+16*k+200 < cLine
 gd:A.guards=some []
theorem Room.mono{j k:Nat}{A:Around}(r:Room k A)(h:j≤k):Room j A:=⟨r.hd,by have:=r.dp;omega,by have:=r.un;omega,r.gd⟩
theorem Room.deeper{k:Nat}{A:Around}(r:Room (k+1) A)(env:Env):Room k (A.deeper env) :=
 ⟨r.hd,by have:=r.dp;show A.depth+1+3*k+5 < _;omega,by have:=r.un;show A.units+3+16*k+200 < _;omega,r.gd⟩
theorem make_depth{A:Around}{C:Addr}{us:List Value}{kw:List (Str × Value)}:(A.under (.builtin "type.__call__" ⟨.ref C::us,kw⟩)).depth=A.depth+1:=by
 first|rfl|simp [Around.under,Code.weight,Code.isCreation,Code.isGuard,Code.isCaller,Code.frames,Code.isFrame,guardIds]
theorem make_units{A:Around}{C:Addr}{us:List Value}{kw:List (Str × Value)}:(A.under (.builtin "type.__call__" ⟨.ref C::us,kw⟩)).units=A.units+1:=by
 first|rfl|simp [Around.under,Code.cUnits,Code.frames,Code.isFrame]
theorem make_guards{A:Around}{C:Addr}{us:List Value}{kw:List (Str × Value)}:(A.under (.builtin "type.__call__" ⟨.ref C::us,kw⟩)).guards=A.guards:=by
 first|rfl|simp [Around.under,Code.guards,Code.isGuard,guardIds,pushGuards]
theorem Room.make{k:Nat}{A:Around}(r:Room (k+1) A)(C:Addr)(us:List Value)(kw:List (Str × Value)):Room k (A.under (.builtin "type.__call__" ⟨.ref C::us,kw⟩)) :=
 ⟨r.hd,by have:=r.dp;rw [make_depth];omega,by have:=r.un;rw [make_units];omega,make_guards.trans r.gd⟩
theorem Room.depth{k:Nat}{A:Around}(r:Room k A):A.depth < recursionLimit:=by have:=r.dp;omega
theorem Room.units{k:Nat}{A:Around}(r:Room k A):A.units+64 < cLine:=by have:=r.un;omega
def tNil:TA:=fun _ H Q=>Q [] H
def tCons(ta:TE)(tr:TA):TA:=fun σ H Q=>ta σ H fun x H1=>tr σ H1 fun xs H2=>Q (x::xs) H2
section
variable{X:Cx}{e:Expr}{es:List Expr}{te:TE}{t:TA}{pos:Pos}
theorem pa_nil:PA X [] tNil:=fun _ _ _ _ H Q I h=>Calls.spliced_nil ⟨[],H,I,.nil,h⟩
theorem pa_cons(ha:PE X e te)(hr:PA X es t)(hs:starEach (e::es) X.env=(false,eval e X.env)::starEach es X.env:=by rfl):PA X (e::es) (tCons te t):=by
 intro pos pins s σ H Q I h
 rw [hs]
 show wpAny _ _ (spliced ((false,eval e X.env)::backTo pos (starEach es X.env))) _ _ s
 refine Calls.spliced_cons (thn (ha pins s σ H _ I h) fun u s1 ⟨x,H1,I1,r1,q1⟩=>?_)
 exact thn (hr pos pins s1 σ H1 _ I1 q1) fun us s2 ⟨xs,H2,I2,r2,q2⟩=>⟨x::xs,H2,I2,.cons r1 r2,q2⟩
def tTup(t:TA):TE:=fun σ H Q=>t σ H fun xs H1=>xs.length≤sizeLine∧∀p,H1 p=none→Q (.ref p) (upd H1 p (.tup xs))
def tLst(t:TA):TE:=fun σ H Q=>t σ H fun xs H1=>xs.length≤sizeLine∧∀p,H1 p=none→Q (.ref p) (upd H1 p (.lst xs))
theorem pe_tup{x1}(h:PA X es t):PE X (.Tuple es x1 pos) (tTup t):=by
 intro pins s σ H Q I hq
 refine wpAny_Tuple_spliced (thn (h pos pins s σ H _ I hq) fun us s1 ⟨xs,H1,I1,r,z,q⟩=>⟨by rw [←r.length];exact z,?_⟩)
 have hf:H1 s1.heap.objs.size=none:=I1.hok.fresh (Nat.le_refl _)
 refine⟨.ref s1.heap.objs.size,upd H1 s1.heap.objs.size (.tup xs),I1.laid (t':=s1.toks) (fun b u e=>Heap.get?_push_of_some _ e) (Nat.le_refl _) ?_,rfl,q _ hf⟩
 exact⟨z,us,r,⟨_,Heap.get?_push_size _ rfl,rfl,_,rfl⟩⟩
theorem pe_lst(h:PA X es t):PE X (.List es pos) (tLst t):=by
 intro pins s σ H Q I hq
 refine wpAny_List_spliced (thn (h pos pins s σ H _ I hq) fun us s1 ⟨xs,H1,I1,r,z,q⟩=>⟨by rw [←r.length];exact z,?_⟩)
 have hf:H1 s1.heap.objs.size=none:=I1.hok.fresh (Nat.le_refl _)
 refine⟨.ref s1.heap.objs.size,upd H1 s1.heap.objs.size (.lst xs),I1.laid (t':=s1.toks) (fun b u e=>Heap.get?_push_of_some _ e) (Nat.le_refl _) ?_,rfl,q _ hf⟩
 exact⟨z,us,0,r,Heap.get?_push_size _ rfl⟩
end
abbrev Sp:=List V→Hp→VK→XK→Prop
abbrev CXT:=List Env→Hp→Shared→XK→Value→Shared→Prop
structure Env0(P:Program)(w:World)(K:PySem.W.Frag)(mg:Str→Option Value)(base:Heap)(A:Around)(outer:List Env)(s:Shared)(H:Hp):Prop where
 frames:A.frames=some outer
 mod:Mod K mg base
 bs:∀b o,base.get? b=some o→s.heap.get? b=some o∧H b=none
 bsz:base.objs.size≤s.heap.objs.size
 funs:s.heap.FunFrames base outer
 frf:∀b∈frs outer,H b=none
 hok:HOk P w H s.heap
 bare:AllBare s.gens
def CE(outer:List Env)(P:Program)(w:World)(H:Hp)(s:Shared)(Q:VK)(u:Value)(s':Shared):Prop :=
 ∃v H',s'.os=s.os∧AllBare s'.gens∧Un (frs outer) [] H H' s.heap s'.heap∧HOk P w H' s'.heap∧RelV v u∧Q v H'
def CR(CX:CXT)(outer:List Env)(P:Program)(w:World)(H:Hp)(s:Shared)(Q:VK)(E:XK)(r:Result)(s':Shared):Prop :=
 match r with
 |.ok (.ret u)=>CE outer P w H s Q u s'
 |.ok _=>False
 |.error e=>CX outer H s E e s'
structure FnOk(P:Program)(w:World)(K:PySem.W.Frag)(mg:Str→Option Value)(base:Heap)(CX:CXT)(k:Nat)(f:Addr)(fd:FuncData)(ps:List Str)(sp:Sp):Prop where
 len:∀vs H Q E,sp vs H Q E→vs.length=ps.length
 run:∀(A:Around) (outer:List Env) (s:Shared) (H:Hp) (args:Args) (us:List Value) (vs:List V) (Q:VK) (E:XK),Room k A→Env0 P w K mg base A outer s H→BindsTo s fd args (ps.zip us)→Vals vs us→sp vs H Q E →
  codeAny (model P w) A (.call (.ref f) args) (CR CX outer P w H s Q E) s
theorem Env0.make{P:Program}{w:World}{K:PySem.W.Frag}{mg:Str→Option Value}{base:Heap}{A:Around}{outer:List Env}{s:Shared}{H:Hp}(e:Env0 P w K mg base A outer s H)(C:Addr)(us:List Value)(kw:List (Str × Value)) :
  Env0 P w K mg base (A.under (.builtin "type.__call__" ⟨.ref C::us,kw⟩)) outer s H:=⟨by first|exact e.frames|(simpa [Around.under,Code.envs,Code.isFrame,pushEnvs] using e.frames),e.mod,e.bs,e.bsz,e.funs,e.frf,e.hok,e.bare⟩
section
variable{X:Cx}{pins:List (Addr × Obj)}{σ:St}{H:Hp}{s s':Shared}
theorem Inv.env0(I:Inv X pins σ H s):Env0 X.prog X.w X.K X.mg X.base X.A X.stack s H :=
 ⟨I.ok.frames,I.ok.mod,I.bs,Nat.le_trans I.ok.bsz I.sz,I.stack,I.stkFree,I.hok,I.bare⟩
theorem Inv.after{Q:VK}{u:Value}(I:Inv X pins σ H s)(h:CE X.stack X.prog X.w H s Q u s'):EP X pins σ Q u s':=by
 obtain⟨v,H',os,bare,un,hok,r,q⟩:=h
 obtain⟨hh,g,d,t,os'⟩:=s'
 obtain rfl:os'=s.os:=os
 exact⟨v,H',I.call (h':=hh) (g':=g) (d':=d) (t':=t) (ch:=[]) un hok bare (fun b z=>absurd z (by simp)),r,q⟩
end
def tCall(sp:Sp)(dvs:List V)(E:XK)(t:TA):TE:=fun σ H Q=>t σ H fun vs H1=>sp (vs++dvs) H1 Q E
def tMake(C:Addr)(sp:Sp)(dvs:List V)(E:XK)(t:TA):TE:=fun σ H Q=>t σ H fun vs H1=>∀x dx,H1 x=none→H1 dx=none→dx≠x →
 sp (.ref x::(vs++dvs)) (upd (upd H1 dx (.own x)) x (.ins C dx [])) (fun v H2=>v=.non∧Q (.ref x) H2) E
def Binds(K:PySem.W.Frag)(fd:FuncData)(ps:List Str)(ds:List Value):Prop :=
 ∀(s:Shared) (us:List Value),K.In s.heap→(us++ds).length=ps.length→BindsTo s fd ⟨us,[]⟩ (ps.zip (us++ds))
theorem Binds.all{K:PySem.W.Frag}{fd:FuncData}{ps:List Str}(h:∀us:List Value,us.length=ps.length→bindArgs fd ⟨us,[]⟩=pure (ps.zip us)):Binds K fd ps []:=fun s us _ hl=>by
 rw [List.append_nil] at hl ⊢
 exact .of_eq (h us hl)
def Passes(CX:CXT)(X:Cx)(E:XK):Prop:=∀(pins:List (Addr × Obj)) (σ:St) (H:Hp) (s:Shared) (e:Value) (s':Shared),Inv X pins σ H s→CX X.stack H s E e s'→X.xe e s'
section
variable{X:Cx}{CX:CXT}{k:Nat}{f C:Addr}{fd:FuncData}{ps:List Str}{sp:Sp}{dvs:List V}{ds:List Value}{E:XK}{x m:Str}{p pos apos:Pos}{e o:Expr}{es:List Expr}{ta:TE}{t:TA}
theorem run_fn{pins:List (Addr × Obj)}{σ:St}{H:Hp}{s:Shared}{Q:VK}{us:List Value}{vs:List V}(F:FnOk X.prog X.w X.K X.mg X.base CX k f fd ps sp)(hr:Room k X.A)(hb:Binds X.K fd ps ds)(hd:Vals dvs ds)(hx:Passes CX X E)
  (I:Inv X pins σ H s) (r:Vals vs us) (h:sp (vs++dvs) H Q E):wpAny (model X.prog X.w) X.A (call (.ref f) us) (EP X pins σ Q) X.xe s:=by
 have r2:Vals (vs++dvs) (us++ds):=r.append hd
 have hl:(us++ds).length=ps.length:=by rw [←r2.length];exact F.len _ _ _ _ h
 refine wpAny_call (codeAny_mono (F.run X.A X.stack s H ⟨us,[]⟩ (us++ds) (vs++dvs) Q E hr I.env0 (hb s us I.kIn hl) r2 h) fun r s' hq=>?_)
 cases r with
 |error e=>exact hx pins σ H s e s' I hq
 |ok fl =>
  cases fl with
  |ret u=>exact I.after hq
  |next=>exact False.elim hq
  |brk=>exact False.elim hq
  |cont=>exact False.elim hq
theorem pe_call(F:FnOk X.prog X.w X.K X.mg X.base CX k f fd ps sp)(hr:Room k X.A)(hg:Gl X x)(hm:X.mg x=some (.ref f))(hk:PySem.W.keepIn X.K (.ref f)=true)(hb:Binds X.K fd ps ds)(hd:Vals dvs ds)(hx:Passes CX X E)
  (ha:PA X (e::es) t) (hdb:(x==("__debug__":Str))=false:=by decide) (he:starEach (e::es) X.env=(false,eval e X.env)::starEach es X.env:=by rfl) (hpl:(backTo pos (starEach es X.env)).any (·.1)=false:=by rfl) :
  PE X (.Call (.Name x p) (e::es) [] pos) (tCall sp dvs E t):=by
 intro pins s σ H Q I h
 refine wpAny_Call_Name_kw (ld_glob I hg hm ?_ hdb)
 refine PySem.W.callWith_K (h₀:=X.base) I.ok.mod.kin hk (thn (ha pos pins s σ H _ I h) fun us s1 ⟨vs,H1,I1,r,q⟩=>⟨I1.kIn,?_⟩) he hpl
 exact run_fn F hr hb hd hx I1 r q
structure Mk(K:PySem.W.Frag)(C f:Addr):Prop where
 makes:PySem.W.makesIn K C=true
 init:PySem.W.findIn K (.ref C) "__init__"=some (some (.ref f))
 fn:PySem.W.isFn K (.ref f)=true
 kp:PySem.W.keepIn K (.ref C)=true
theorem run_make{pins:List (Addr × Obj)}{σ:St}{H:Hp}{s:Shared}{Q:VK}{us:List Value}{vs:List V}(M:Mk X.K C f)(F:FnOk X.prog X.w X.K X.mg X.base CX k f fd ps sp)(hr:Room (k+1) X.A)(hb:Binds X.K fd ps ds)(hd:Vals dvs ds)
  (hx:Passes CX X E) (I:Inv X pins σ H s) (r:Vals vs us)
  (h:∀x dx,H x=none→H dx=none→dx≠x→sp (.ref x::(vs++dvs)) (upd (upd H dx (.own x)) x (.ins C dx [])) (fun v H2=>v=.non∧Q (.ref x) H2) E) :
  wpAny (model X.prog X.w) X.A (call (.ref C) us) (EP X pins σ Q) X.xe s:=by
 have hq:=h (s.heap.objs.size+1) s.heap.objs.size (I.hok.fresh (Nat.le_succ _)) (I.hok.fresh (Nat.le_refl _)) (Nat.ne_of_lt (Nat.lt_succ_self _))
 have I2:=Inv.made (C:=C) I
 have r2:Vals (V.ref (s.heap.objs.size+1)::(vs++dvs)) (Value.ref (s.heap.objs.size+1)::(us++ds)):=.cons rfl (r.append hd)
 have hl:(Value.ref (s.heap.objs.size+1)::us++ds).length=ps.length:=by
  have e:=r2.length
  rw [F.len _ _ _ _ hq] at e
  exact e.symm
 refine wpAny_call (make_map (f:=f) I.kIn M.makes M.init (beq_iff_eq.mp M.fn) (codeAny_mono (F.run _ X.stack _ _ ⟨Value.ref (s.heap.objs.size+1)::us,[]⟩ (Value.ref (s.heap.objs.size+1)::(us++ds)) _ _ E (hr.make C us [])
  (I2.env0.make C us []) (hb _ (Value.ref (s.heap.objs.size+1)::us) I2.kIn hl) r2 hq) fun r s' hq'=>?_))
 cases r with
 |error e=>exact hx pins σ _ _ e s' I2 hq'
 |ok fl =>
  cases fl with
  |ret u =>
   obtain⟨v,H',I3,rv,ev,q3⟩:=I2.after hq'
   subst ev
   exact⟨rv,⟨V.ref (s.heap.objs.size+1),H',I3,rfl,q3⟩⟩
  |next=>exact False.elim hq'
  |brk=>exact False.elim hq'
  |cont=>exact False.elim hq'
theorem pe_make(M:Mk X.K C f)(F:FnOk X.prog X.w X.K X.mg X.base CX k f fd ps sp)(hr:Room (k+1) X.A)(hg:Gl X x)(hm:X.mg x=some (.ref C))(hb:Binds X.K fd ps ds)(hd:Vals dvs ds)(hx:Passes CX X E)
  (ha:PA X (e::es) t) (hdb:(x==("__debug__":Str))=false:=by decide) (he:starEach (e::es) X.env=(false,eval e X.env)::starEach es X.env:=by rfl) (hpl:(backTo pos (starEach es X.env)).any (·.1)=false:=by rfl) :
  PE X (.Call (.Name x p) (e::es) [] pos) (tMake C sp dvs E t):=by
 intro pins s σ H Q I h
 refine wpAny_Call_Name_kw (ld_glob I hg hm ?_ hdb)
 refine PySem.W.callWith_K (h₀:=X.base) I.ok.mod.kin M.kp (thn (ha pos pins s σ H _ I h) fun us s1 ⟨vs,H1,I1,r,q⟩=>⟨I1.kIn,?_⟩) he hpl
 exact run_make M F hr hb hd hx I1 r q
end
section
variable{X:Cx}{CX:CXT}{k:Nat}{f C:Addr}{fd:FuncData}{ps ks:List Str}{sp:Sp}{E:XK}{x m:Str}{p pos apos kpos:Pos}{e o:Expr}{es:List Expr}{kws:List Keyword}{te ta:TE}{t tk:TA}{nm:Option Str}
structure KBinds(K:PySem.W.Frag)(fd:FuncData)(ps ks:List Str)(g:List Value→List Value→List Value)(gV:List V→List V→List V):Prop where
 to:∀(s:Shared) (us ws:List Value),K.In s.heap→(g us ws).length=ps.length→BindsTo s fd ⟨us,ks.zip ws⟩ (ps.zip (g us ws))
 rel:∀{vs:List V} {us:List Value} {zs:List V} {ws:List Value},Vals vs us→Vals zs ws→Vals (gV vs zs) (g us ws)
variable{g:List Value→List Value→List Value}{gV:List V→List V→List V}
end
structure FnScope(N P:List Str)(sc:Scope):Prop where
 kind:sc.kind=.function
 co:sc.isCoroutine=false
 gen:sc.isGenerator=false
 nd:N.Nodup
 pre:N.take P.length=P
 par:∀x∈P,sc.names.lookup x=some .local∨sc.names.lookup x=some .cell
 nofree:∀y∈sc.names,y.2≠.free
theorem bindL_out{kindOf:Str→Option NameKind}{x:Str}:∀{binds:List (Str × Value)} {m:Str→Option Value},(∀v,(x,v)∉binds)→bindL kindOf binds m x=m x
 |[],_,_=>rfl
 |(n,v)::r,m,h=>by
  unfold bindL
  rw [bindL_out fun w hw=>h w (List.mem_cons_of_mem _ hw)]
  split
  ·have:x≠n:=by rintro rfl;exact h v List.mem_cons_self
   simp [this]
  ·rfl
theorem bindC_out{kindOf:Str→Option NameKind}{x:Str}:∀{binds:List (Str × Value)} {m:Str→Option Value},(∀v,(x,v)∉binds)→bindC kindOf binds m x=m x
 |[],_,_=>rfl
 |(n,v)::r,m,h=>by
  unfold bindC
  rw [bindC_out fun w hw=>h w (List.mem_cons_of_mem _ hw)]
  split
  ·rfl
  ·have:x≠n:=by rintro rfl;exact h v List.mem_cons_self
   simp [this]
theorem bindL_get{kindOf:Str→Option NameKind}{x:Str}{v:Value}:∀{P:List Str} {vs:List Value} {i:Nat} {m:Str→Option Value},P.Nodup→P[i]?=some x→vs[i]?=some v→kindOf x=some .local →
  bindL kindOf (P.zip vs) m x=some v
 |[],_,_,_,_,h,_,_=>by simp at h
 |_::_,[],_,_,_,_,h,_=>by simp at h
 |p::P,w::vs,0,m,nd,h1,h2,hk=>by
  simp at h1 h2;subst h1;subst h2
  show bindL kindOf ((p,w)::P.zip vs) m p=_
  unfold bindL
  rw [bindL_out fun v hv=>(List.nodup_cons.mp nd).1 (List.of_mem_zip hv).1,if_pos hk]
  simp
 |p::P,w::vs,i+1,m,nd,h1,h2,hk=>by
  show bindL kindOf ((p,w)::P.zip vs) m x=_
  unfold bindL
  exact bindL_get (i:=i) (List.nodup_cons.mp nd).2 (by simpa using h1) (by simpa using h2) hk
theorem bindC_get{kindOf:Str→Option NameKind}{x:Str}{v:Value}:∀{P:List Str} {vs:List Value} {i:Nat} {m:Str→Option Value},P.Nodup→P[i]?=some x→vs[i]?=some v→kindOf x≠some .local →
  bindC kindOf (P.zip vs) m x=some v
 |[],_,_,_,_,h,_,_=>by simp at h
 |_::_,[],_,_,_,_,h,_=>by simp at h
 |p::P,w::vs,0,m,nd,h1,h2,hk=>by
  simp at h1 h2;subst h1;subst h2
  show bindC kindOf ((p,w)::P.zip vs) m p=_
  unfold bindC
  rw [bindC_out fun v hv=>(List.nodup_cons.mp nd).1 (List.of_mem_zip hv).1,if_neg hk]
  simp
 |p::P,w::vs,i+1,m,nd,h1,h2,hk=>by
  show bindC kindOf ((p,w)::P.zip vs) m x=_
  unfold bindC
  exact bindC_get (i:=i) (List.nodup_cons.mp nd).2 (by simpa using h1) (by simpa using h2) hk
def start(N:List Str)(vs:List V):St:=vs.map some++List.replicate (N.length - vs.length) none
def cxOf(CX:CXT)(P:Program)(w:World)(K:PySem.W.Frag)(mg:Str→Option Value)(base:Heap)(N:List Str)(qual:Str)(scope:Scope)(f:Addr)(cd:Value)(A:Around)(outer:List Env)(s:Shared)(H:Hp)(E:XK):Cx where
 prog:=P
 w:=w
 K:=K
 mg:=mg
 base:=base
 A:=A.deeper (envOfC qual scope s.heap.objs.size f cd)
 N:=N
 s₀:=s
 H₀:=H
 env:=envOfC qual scope s.heap.objs.size f cd
 outer:=outer
 stack:=envOfC qual scope s.heap.objs.size f cd::outer
 ex:=[]
 calm:=true
 fn:=fun _=>true
 pn:=[]
 xe:=fun e s'=>wpAny (model P w) (A.deeper (envOfC qual scope s.heap.objs.size f cd)) (leaving (envOfC qual scope s.heap.objs.size f cd) e) (fun _ s''=>CX outer H s E e s'') (fun e' s''=>CX outer H s E e' s'') s'
theorem cell_has{sc:Scope}{n:Nat}{x:Str}(h:sc.names.lookup x=some .cell):∃c,(cellsFrom n sc.names []).lookup x=some c:=by
 have q:=PySem.W.cellsFrom_some sc.names n [] (.inl h)
 exact Option.isSome_iff_exists.mp q
theorem inv_start{CX:CXT}{P:Program}{w:World}{K:PySem.W.Frag}{mg:Str→Option Value}{base:Heap}{N ps:List Str}{qual:Str}{scope:Scope}{f:Addr}{cd:Value}{A:Around}{outer:List Env}{s s1:Shared}{H:Hp}{E:XK}{us:List Value}{vs:List V}
  (S:FnScope N ps scope) (hd:A.handled=none) (e0:Env0 P w K mg base A outer s H) (hl:vs.length=ps.length) (r:Vals vs us)
  (x:InCallC s s.heap.objs.size (bindL (envOfC qual scope s.heap.objs.size f cd).kindOf (ps.zip us) fun _=>none) (cellsFrom (s.heap.objs.size+1) scope.names []) (bindC (envOfC qual scope s.heap.objs.size f cd).kindOf (ps.zip us) fun _=>none) s1) :
  Inv (cxOf CX P w K mg base N qual scope f cd A outer s H E) [] (start N vs) H s1:=by
 have hpl:ps.length≤N.length:=by have:=congrArg List.length S.pre;rw [List.length_take] at this;omega
 obtain⟨h1,tk,rfl,hk⟩:=x.done
 have noA:∀b:Addr,b∉(cxOf CX P w K mg base N qual scope f cd A outer s H E).ex:=fun b z=>absurd (show b∈([]:List Addr) from z) (by simp)
 refine⟨⟨e0.mod,S.kind,rfl,rfl,Nat.le_refl _,fun y z c h1 h2=>?_,fun y hy=>?_,fun y c _ h=>?_,fun _=>hd,Around.frames_deeper e0.frames,.inr ⟨rfl,rfl⟩,fun b z=>absurd z (noA b),e0.bs,e0.bsz,fun b _ _=>noA b,fun b z=>absurd z (noA b),e0.funs,e0.frf⟩,
  rfl,e0.bare,Un.kept hk,⟨_,x.toInCall.ns,fun i y v h1 h2 h3=>?_⟩,fun y c h=>⟨_,x.cell y c h⟩,e0.hok.fresh (Nat.le_refl _),fun y c h=>?_,fun p hp=>absurd (show p∈([]:List (Addr × Obj)) from hp) (by simp),e0.hok.kept hk,?_⟩
 ·exact name_of_addr x.apart (PySem.mem_of_lookup h1) (PySem.mem_of_lookup h2)
 ·have hy:scope.names.lookup y=some .cell∨scope.names.lookup y=some .free:=hy
  rcases hy with hy|hy
  ·exact cell_has hy
  ·exact absurd rfl (S.nofree _ (PySem.mem_of_lookup hy))
 ·exact Nat.le_of_lt (x.above y c (PySem.mem_of_lookup h))
 ·have hi:i < vs.length:=by
   unfold start at h2
   by_cases hi:i < vs.length
   ·exact hi
   ·rw [List.getElem?_append_right (by simpa using hi)] at h2
    rw [List.getElem?_replicate] at h2
    split at h2<;>cases h2
  have ha:vs[i]?=some v:=by
   unfold start at h2
   rw [List.getElem?_append_left (by simpa using hi),List.getElem?_map] at h2
   cases e:vs[i]? with
   |none=>rw [e] at h2;cases h2
   |some a=>rw [e] at h2;cases h2;rfl
  obtain⟨u,hu,rv⟩:=r.get ha
  have hp:ps[i]?=some y:=by
   rw [←S.pre,List.getElem?_take_of_lt (by omega)];exact h1
  have ndP:ps.Nodup:=by rw [←S.pre];exact S.nd.sublist (List.take_sublist _ _)
  refine⟨u,rv,?_⟩
  rcases S.par y (List.mem_of_getElem? hp) with k|k
  ·exact .inl ⟨k,bindL_get ndP hp hu k⟩
  ·obtain⟨c,e⟩:=cell_has (n:=s.heap.objs.size+1) k
   refine .inr ⟨.inl k,c,e,?_⟩
   have q:=x.cell y c e
   rw [bindC_get ndP hp hu (by show scope.names.lookup y≠_;rw [k];decide)] at q
   exact q
 ·exact e0.hok.fresh (Nat.le_of_lt (x.above y c (PySem.mem_of_lookup h)))
 ·unfold start
  show _=N.length
  rw [List.length_append,List.length_map,List.length_replicate]
  omega
theorem fn_of{CX:CXT}{P:Program}{w:World}{K:PySem.W.Frag}{mg:Str→Option Value}{base:Heap}{k:Nat}{f:Addr}{name qual:Str}{params:Arguments}{body:List Stmt}{scope:Scope}{dV kV doc pm cdv ct oc:Value}{an od:Option Addr}
  {osl:Array (Option Value)} {N ps:List Str} {sp:Sp} (lk:K.lookup f=some ⟨oc,od,.func (PySem.W.fnOf name qual params body scope dV kV doc pm an cdv ct),osl⟩) (hcd:PySem.W.codeIn K cdv qual=true) (S:FnScope N ps scope)
  (len:∀vs H Q E,sp vs H Q E→vs.length=ps.length)
  (hbody:∀(A:Around) (outer:List Env) (s:Shared) (H:Hp) (vs:List V) (Q:VK) (E:XK),Room k (A.deeper (envOfC qual scope s.heap.objs.size f cdv))→sp vs H Q E →
   ∃t,PSs (cxOf CX P w K mg base N qual scope f cdv A outer s H E) body t∧t { nx:=fun _ H'=>Q .non H',rt:=Q } (start N vs) H) :
  FnOk P w K mg base CX (k+1) f (PySem.W.fnOf name qual params body scope dV kV doc pm an cdv ct) ps sp:=by
 refine⟨len,fun A outer s H args us vs Q E hr e0 hb r hsp=>?_⟩
 have hl:=len _ _ _ _ hsp
 have KX:K.In s.heap:=e0.mod.kin.keeps fun b o e=>(e0.bs b o e).1
 have lim:s.heap.NoLimit:=e0.mod.nolimit.keeps fun b o e=>(e0.bs b o e).1
 have hkind:∀y∈ps.zip us,scope.names.lookup y.1=some .local∨(scope.names.lookup y.1=some .cell∧((cellsFrom (s.heap.objs.size+1) scope.names []).lookup y.1).isSome=true):=fun⟨n,v⟩ hy=>by
  rcases S.par n (List.of_mem_zip hy).1 with q|q
  ·exact .inl q
  ·exact .inr ⟨q,PySem.W.cellsFrom_some _ _ _ (.inl q)⟩
 refine codeAny_call_function hr.depth (KX _ _ lk) rfl S.co S.gen rfl (PySem.W.codeRec_of KX hcd) (hb _ _ _ _ ?_)
 refine wpAny_newFunctionEnv_cells S.kind hkind fun env he s1 x=>?_
 subst he
 refine⟨lim.keeps x.toInCall.keep,codeAny_func ?_⟩
 obtain⟨t,ht,hq⟩:=hbody A outer s H vs Q E (hr.deeper _) hsp
 have I:Inv (cxOf CX P w K mg base N qual scope f cdv A outer s H E) [] (start N vs) H s1:=inv_start S hr.hd e0 hl r x
 refine wpAny_mono (ht [] s1 (start N vs) H _ I hq) (fun fl s' hs=>?_) fun e s' hs=>hs
 have fin:∀{σ':St} {H':Hp} {v:V} {u:Value},Inv (cxOf CX P w K mg base N qual scope f cdv A outer s H E) [] σ' H' s'→RelV v u→Q v H'→CE outer P w H s Q u s' :=
  fun {σ' H' v u} J rv q=>⟨v,H',J.os,J.bare,J.base,J.hok,rv,q⟩
 cases fl with
 |ret u =>
  obtain⟨v,σ',H',J,rv,q⟩:=hs
  exact fin J rv q
 |next =>
  obtain⟨σ',H',J,q⟩:=hs
  exact fin (v:=V.non) (u:=Value.none) J rfl q
 |brk =>
  obtain⟨_,_,_,q⟩:=hs
  exact False.elim q
 |cont =>
  obtain⟨_,_,_,q⟩:=hs
  exact False.elim q
end L2
namespace L2
open PySem PySem.Spec PyProof.Rows
section
variable{X:Cx}{x:Str}{p pos:Pos}{e:Expr}{es:List Expr}{t:TA}{id T:String}{r:List V→Hp→VK→Prop}
def tCB(r:List V→Hp→VK→Prop)(t:TA):TE:=fun σ H Q=>t σ H fun vs H1=>r vs H1 Q
theorem pe_callB(hc:CallR X (.builtin id) r)(hg:Gl X x)(hm:X.mg x=none)(hv:bootBuiltins x=some (.builtin id))(ha:PA X (e::es) t) (hn:x≠"__name__":=by decide) (hdb:(x==("__debug__":Str))=false:=by decide)
  (he:starEach (e::es) X.env=(false,eval e X.env)::starEach es X.env:=by rfl) (hpl:(backTo pos (starEach es X.env)).any (·.1)=false:=by rfl):PE X (.Call (.Name x p) (e::es) [] pos) (tCB r t):=by
 intro pins s σ H Q I h
 refine wpAny_Call_Name_kw (ld_blt I hg hm hv ?_ hn hdb)
 exact PyProof.Rows.callWith_builtin1 (thn (ha pos pins s σ H _ I h) fun us s1 ⟨vs,H1,I1,r1,q1⟩=>hc pins s1 σ H1 vs us Q I1 r1 q1) he hpl
theorem pe_callTy(hc:CallR X (.type T) r)(hg:Gl X x)(hm:X.mg x=none)(hv:bootBuiltins x=some (.type T))(ha:PA X (e::es) t) (hn:x≠"__name__":=by decide) (hdb:(x==("__debug__":Str))=false:=by decide)
  (he:starEach (e::es) X.env=(false,eval e X.env)::starEach es X.env:=by rfl) (hpl:(backTo pos (starEach es X.env)).any (·.1)=false:=by rfl):PE X (.Call (.Name x p) (e::es) [] pos) (tCB r t):=by
 intro pins s σ H Q I h
 refine wpAny_Call_Name_kw (ld_blt I hg hm hv ?_ hn hdb)
 exact PyProof.Rows.callWith_type1 (thn (ha pos pins s σ H _ I h) fun us s1 ⟨vs,H1,I1,r1,q1⟩=>hc pins s1 σ H1 vs us Q I1 r1 q1) he hpl
end
end L2
namespace HT
open PySem PyProof.Rows
section
open PySem.SeqAt
open PySem.AutoSeq1 (wpAny_loadPart')
open PySem.MeetsSeq PySem.MeetsSeq2 PySem.MeetsSeq3
end
section
variable{prog:Program}{w:World}{A:Around}{E:Value→Shared→Prop}{s:Shared}
theorem cat_tup{t b:Addr}{vs ws:List Value}{Q:Value→Shared→Prop}(ht:IsTup s.heap t vs.toArray)(hb:IsTup s.heap b ws.toArray)(hv:vs≠[])
  (h1:ws=[]→Q (.ref t) s) (h2:ws≠[]→Q (.ref s.heap.objs.size) { s with heap:=s.heap.push { cls:=.type "tuple",data:=.seq (vs++ws).toArray } })
  (hsz:vs.length+ws.length≤sizeLine):wpAny (model prog w) A (binaryOp .Add (.ref t) (.ref b)) Q E s:=by
 obtain⟨⟨cls,dd,data,sl⟩,ho,hc,n,hd⟩:=id ht
 obtain⟨⟨cls2,dd2,data2,sl2⟩,ho2,hc2,n2,hd2⟩:=id hb
 simp only at hc hd hc2 hd2
 subst hc hd hc2 hd2
 have e:vs.toArray++ws.toArray=(vs++ws).toArray:=by simp
 by_cases hw:ws=[]
 ·exact concat_meets ⟨_,ho,rfl⟩ ⟨_,ho2,rfl⟩ noFill_tuple_add seq_tuple_add PySem.F.slot_tuple_add PySem.F.entry_tuple_add (PySem.F.args_tuple_add_2 _ _)
   (tuple_addW1 t b vs.toArray ws.toArray n n2 dd dd2 sl sl2 (by simpa using hv) (by simp [hw])) ⟨ho,ho2,h1 hw⟩
 ·refine concat_meets ⟨_,ho,rfl⟩ ⟨_,ho2,rfl⟩ noFill_tuple_add seq_tuple_add PySem.F.slot_tuple_add PySem.F.entry_tuple_add (PySem.F.args_tuple_add_2 _ _)
   (tuple_addW2 t b vs.toArray ws.toArray n n2 dd dd2 sl sl2 (by simpa using hv) (by simpa using hw) (by rw [List.size_toArray,List.size_toArray];exact hsz)) ⟨ho,ho2,?_⟩
  rw [e]
  exact h2 hw
def sIx(n d:Nat):Option Int→Nat
 |none=>d
 |some v=>if v < 0 then (v+(n:Int)).toNat else min v.toNat n
end
end HT
namespace L2
open PySem PySem.Spec PyProof.Rows
abbrev TO:=St→Hp→(Option Int→Hp→Prop)→Prop
def PO(X:Cx)(e:Option Expr)(t:TO):Prop :=
 ∀(pins:List (Addr × Obj)) (s:Shared) (σ:St) (H:Hp) (Q:Option Int→Hp→Prop),Inv X pins σ H s→t σ H Q →
  wpAny (model X.prog X.w) X.A (evalPart e X.env) (fun u s'=>∃o H',Inv X pins σ H' s'∧IsPart u o∧Q o H') X.xe s
def tNoPart:TO:=fun _ H Q=>Q none H
def tPart(t:TE):TO:=fun σ H Q=>t σ H fun x H1=>∃i,x=.int i∧Q (some i) H1
section
variable{X:Cx}{e:Expr}{te:TE}{lo hi:Option Expr}{tl th:TO}{pos p2:Pos}
theorem po_none:PO X none tNoPart:=by
 intro pins s σ H Q I h
 rw [evalPart_none]
 exact wpAny_pure ⟨none,H,I,.none,h⟩
theorem po_some(h:PE X e te):PO X (some e) (tPart te):=by
 intro pins s σ H Q I hw
 rw [evalPart_some]
 refine thn (h pins s σ H _ I hw) fun u s1 ⟨x,H1,I1,r1,q1⟩=>?_
 obtain⟨i,rfl,q⟩:=q1
 obtain⟨t,rfl⟩:=r1
 exact⟨some i,H1,I1,.int i t,q⟩
def SlR(X:Cx)(r:V→Option Int→Option Int→Hp→VK→Prop):Prop :=
 ∀(pins:List (Addr × Obj)) (s:Shared) (σ:St) (H:Hp) (x:V) (v vl vu:Value) (lo hi:Option Int) (sl:Addr) (Q:VK),Inv X pins σ H s→RelV x v→s.heap.IsSliceOf sl vl vu .none→IsPart vl lo→IsPart vu hi→r x lo hi H Q →
  ∃T id,typeLookup (.type T) "__getitem__"=pure (some (.builtin id))∧s.TypeIs v T∧wpAny (model X.prog X.w) X.A (getItem v (.ref sl)) (EP X pins σ Q) X.xe s
def tSl(r:V→Option Int→Option Int→Hp→VK→Prop)(te:TE)(tl th:TO):TE:=fun σ H Q=>te σ H fun x H1=>tl σ H1 fun l H2=>th σ H2 fun u H3=>r x l u H3 Q
theorem pe_slice{r:V→Option Int→Option Int→Hp→VK→Prop}(hr:SlR X r)(he:PE X e te)(hl:PO X lo tl)(hu:PO X hi th):PE X (.Subscript e (.Slice lo hi none p2) pos) (tSl r te tl th):=by
 intro pins s σ H Q I h
 refine Subscript_ (thn (he pins s σ H _ I h) fun v s1 ⟨x,H1,I1,r1,q1⟩=>?_)
 refine wpAny_Slice (thn (hl pins s1 σ H1 _ I1 q1) fun vl s2 ⟨l,H2,I2,pl,q2⟩=>thn (hu pins s2 σ H2 _ I2 q2) fun vu s3 ⟨u,H3,I3,pu,q3⟩=>?_)
 rw [evalPart_none]
 refine wpAny_pure ?_
 have I4:Inv X pins σ H3 { s3 with heap:=s3.heap.push { cls:=.type "slice",data:=.fields #[vl,vu,.none] } }:=I3.kept (t':=s3.toks) fun b ob q=>Heap.get?_push_of_some _ q
 obtain⟨T,id,hT,ht,hg⟩:=hr pins { s3 with heap:=s3.heap.push { cls:=.type "slice",data:=.fields #[vl,vu,.none] } } σ H3 x v vl vu l u s3.heap.objs.size Q I4 r1 (Heap.IsSliceOf.new ..) pl pu q3
 show wpAny (model X.prog X.w) X.A (subscriptTail e (.Slice lo hi none p2) v (.ref s3.heap.objs.size)) (EP X pins σ Q) X.xe { s3 with heap:=s3.heap.push { cls:=.type "slice",data:=.fields #[vl,vu,.none] } }
 exact tail_any (ops:=[.ref s3.heap.objs.size,v]) ht hT hg (by with_unfolding_all rfl)
def cutV(xs:List V)(lo hi:Option Int):List V:=(xs.drop (HT.sIx xs.length 0 lo)).take (HT.sIx xs.length xs.length hi - HT.sIx xs.length 0 lo)
theorem cutV_length(xs:List V)(lo hi:Option Int):(cutV xs lo hi).length≤xs.length:=by
 unfold cutV
 rw [List.length_take,List.length_drop]
 omega
def rCatT(K:PySem.W.Frag):R2:=fun x y H Q=>∃a b xs ys,x=.ref a∧y=.ref b∧SqT K H a xs∧SqT K H b ys∧xs≠[]∧xs.length+ys.length≤sizeLine ∧
 (ys=[]→Q (.ref a) H)∧(ys≠[]→∀p,H p=none→Q (.ref p) (upd H p (.tup (xs++ys))))
theorem Vals.nil_iff{xs:List V}{us:List Value}(r:Vals xs us):us=[]↔xs=[]:=by
 cases r with
 |nil=>simp
 |cons _ _=>simp
theorem op_catT:OpR X (binaryOp .Add) (rCatT X.K):=by
 intro pins s σ H x y v u Q I rx ry h
 obtain⟨a,b,xs,ys,rfl,rfl,ha,hb,hx,hz,q1,q2⟩:=h
 cases rx
 cases ry
 obtain⟨its,r1,p1,_⟩:=I.tuple ha
 obtain⟨its2,r2,p2,_⟩:=I.tuple hb
 refine HT.cat_tup p1 p2 (fun z=>hx (r1.nil_iff.mp z)) (fun z=>⟨.ref a,H,I,rfl,q1 (r2.nil_iff.mp z)⟩) (fun z=>?_) (by rw [←r1.length,←r2.length];exact hz)
 refine⟨.ref s.heap.objs.size,_,I.laid (t':=s.toks) (o:=.tup (xs++ys)) (fun b ob q=>Heap.get?_push_of_some _ q) (Nat.le_refl _) ?_,rfl,q2 (fun w=>z (r2.nil_iff.mpr w)) _ (I.hok.fresh (Nat.le_refl _))⟩
 exact⟨by rw [List.length_append];exact hz,_,r1.append r2,IsTup.new _ _⟩
end
end L2
namespace L2
open PySem PySem.Spec PyProof.Rows
def ixN(n:Nat)(i:Int):Option Nat:=if 0≤i then (if i < n then some i.toNat else none) else if -(n:Int)≤i then some (i+n).toNat else none
def atI{α:Type}(xs:List α)(i:Int):Option α:=(ixN xs.length i).bind fun j=>xs[j]?
theorem ixN_seq{n:Nat}{i:Int}{j:Nat}(h:ixN n i=some j):seqIndex? i n=some j∧j < n∧-(n:Int)≤i∧i < n:=by
 unfold ixN at h
 by_cases h0:0≤i
 ·rw [if_pos h0] at h
  by_cases h1:i < n
  ·rw [if_pos h1] at h
   have e:i.toNat=j:=Option.some.inj h
   exact⟨by rw [seqIndex_of h0 h1,e],by omega,by omega,h1⟩
  ·rw [if_neg h1] at h;cases h
 ·rw [if_neg h0] at h
  by_cases h1:-(n:Int)≤i
  ·rw [if_pos h1] at h
   have e:(i+n).toNat=j:=Option.some.inj h
   exact⟨by rw [seqIndex_neg (by omega) h1,e],by omega,h1,by omega⟩
  ·rw [if_neg h1] at h;cases h
theorem atI_get{α:Type}{xs:List α}{i:Int}{v:α}(h:atI xs i=some v):∃j,seqIndex? i xs.length=some j∧xs[j]?=some v∧j < xs.length∧-(xs.length:Int)≤i∧i < xs.length:=by
 unfold atI at h
 cases e:ixN xs.length i with
 |none=>rw [e] at h;cases h
 |some j =>
  rw [e] at h
  obtain⟨h1,h2,h3,h4⟩:=ixN_seq e
  exact⟨j,h1,h,h2,h3,h4⟩
theorem atI_nat{α:Type}{xs:List α}{j:Nat}{v:α}(h:xs[j]?=some v):atI xs (j:Int)=some v:=by
 have hj:j < xs.length:=(List.getElem?_eq_some_iff.mp h).1
 have e:ixN xs.length (j:Int)=some j:=by
  unfold ixN
  rw [if_pos (by omega),if_pos (by omega)];simp
 unfold atI;rw [e];exact h
def PlainIx(b:Expr):Prop:=∀o i,subscripted b false o i=operate [o,i] (getItem o i)
def IxR(X:Cx)(r:R2):Prop :=
 ∀(value slice:Expr) (pins:List (Addr × Obj)) (s:Shared) (σ:St) (H:Hp) (x y:V) (v u:Value) (Q:VK),Inv X pins σ H s→RelV x v→RelV y u→r x y H Q →
  subscripted slice false v u=operate [v,u] (getItem v u)→wpAny (model X.prog X.w) X.A (subscriptTail value slice v u) (EP X pins σ Q) X.xe s
def MtR(X:Cx)(id:String)(r:V→List V→Hp→VK→Prop):Prop :=
 ∀(pins:List (Addr × Obj)) (s:Shared) (σ:St) (H:Hp) (x:V) (xs:List V) (v:Value) (us:List Value) (Q:VK),Inv X pins σ H s→RelV x v→Vals xs us→r x xs H Q →
  wpAny (model X.prog X.w) X.A (call (.builtin id) (v::us)) (EP X pins σ Q) X.xe s
section
variable{X:Cx}{a b:Expr}{ta tb:TE}{pos:Pos}
theorem pe_ix{r:R2}(hr:IxR X r)(ha:PE X a ta)(hb:PE X b tb)(hs:PlainIx b):PE X (.Subscript a b pos) (tOp r ta tb):=by
 intro pins s σ H Q I h
 exact Subscript_ (binT ha hb I h fun v u s2 x y H2 I2 rx ry q=>hr a b pins s2 σ H2 x y v u Q I2 rx ry q (hs _ _))
def rIxL(K:PySem.W.Frag):R2:=fun x y H Q=>∃p xs i v,x=.ref p∧y=.int i∧SqL K H p xs∧atI xs i=some v∧Q v H
def rIxT(K:PySem.W.Frag):R2:=fun x y H Q=>∃p xs i v,x=.ref p∧y=.int i∧SqT K H p xs∧atI xs i=some v∧Q v H
def rIxS:R2:=fun x y H Q=>∃z i c,x=.str z∧y=.int i∧z.length≤sizeLine∧atI z.cps.toList i=some c∧Q (.str ⟨#[c]⟩) H
theorem ix_list:IxR X (rIxL X.K):=by
 intro value slice pins s σ H x y v u Q I rx ry h hs
 obtain⟨p,xs,i,z,rfl,rfl,hq,he,q⟩:=h
 cases rx
 obtain⟨t,rfl⟩:=ry
 obtain⟨its,r,pl,hz⟩:=I.list hq
 obtain⟨j,h1,h2,h3,h4,h5⟩:=atI_get he
 obtain⟨w,ew,rw'⟩:=r.get h2
 have hl:=r.length
 have hn:=line63
 have fin:EP X pins σ Q w s:=⟨z,H,I,rw',q⟩
 by_cases h0:0≤i
 ·have hj:i.toNat=j:=by
   rw [seqIndex_of h0 h5] at h1
   exact Option.some.inj h1
  exact item_listR pl.isList h0 (by omega) (by rw [hj];simpa using ew) fin hs
 ·have hj:(i+(its.toArray.size:Int)).toNat=j:=by
   rw [seqIndex_neg (by omega) h4] at h1
   rw [List.size_toArray,←hl]
   exact Option.some.inj h1
  exact subscriptTail_builtinR (x:=w) pl.isList.typeIs slot_list_getitem.lookup
   (wpAny_getItem_list_neg (Q:=fun r s'=>r=w∧EP X pins σ Q r s') pl.isList (by omega) (by rw [List.size_toArray]<;>omega) (by omega) (by rw [hj];simpa using ew) ⟨rfl,fin⟩) hs
theorem ix_tup:IxR X (rIxT X.K):=by
 intro value slice pins s σ H x y v u Q I rx ry h hs
 obtain⟨p,xs,i,z,rfl,rfl,hq,he,q⟩:=h
 cases rx
 obtain⟨t,rfl⟩:=ry
 obtain⟨its,r,pl,hz⟩:=I.tuple hq
 obtain⟨j,h1,h2,h3,h4,h5⟩:=atI_get he
 obtain⟨w,ew,rw'⟩:=r.get h2
 have hl:=r.length
 have hn:=line63
 have fin:EP X pins σ Q w s:=⟨z,H,I,rw',q⟩
 exact subscriptTail_builtinR (x:=w) pl.typeIs slot_tuple_getitem.lookup
  (getItem_tuple (j:=j) (Q:=fun r s'=>r=w∧EP X pins σ Q r s') pl (by omega) (by omega) (by rw [List.size_toArray,←hl];exact h1) (by simpa using ew) ⟨rfl,fin⟩) hs
theorem ix_str:IxR X rIxS:=by
 intro value slice pins s σ H x y v u Q I rx ry h hs
 obtain⟨z,i,c,rfl,rfl,hz,he,q⟩:=h
 obtain⟨t,rfl⟩:=rx
 obtain⟨t',rfl⟩:=ry
 obtain⟨j,h1,h2,h3,h4,h5⟩:=atI_get he
 have hl:z.cps.toList.length=z.length:=by simp [Str.length]
 rw [hl] at h1 h4 h5
 have hn:=line63
 exact tail_any (typeIs_str s z t) slot_str_getitem.lookup (getItem_str (c:=c) (by
  have e1:decide (i < -(2 ^ 63:Int))=false:=decide_eq_false (by omega)
  have e2:decide (i≥2 ^ 63)=false:=decide_eq_false (by omega)
  rw [e1,e2,Bool.or_false]) (by rw [h1];simpa using h2) ⟨.str ⟨#[c]⟩,H,I.tok _,⟨_,rfl⟩,q⟩) hs
theorem slice_bounds(lo hi:Option Int)(n:Nat):(sliceBounds lo hi none n).1=((HT.sIx n 0 lo:Nat):Int)∧(sliceBounds lo hi none n).2.1=((HT.sIx n n hi:Nat):Int)∧(sliceBounds lo hi none n).2.2=1:=by
 refine⟨?_,?_,rfl⟩
 ·cases lo with
  |none=>simp [sliceBounds,HT.sIx]
  |some i =>
   simp only [sliceBounds,HT.sIx,Option.getD_none,show(1:Int) > 0 by decide,if_true]
   by_cases h:i < 0
   ·simp only [h,if_true]<;>omega
   ·simp only [h,if_false]<;>omega
 ·cases hi with
  |none=>simp [sliceBounds,HT.sIx]
  |some i =>
   simp only [sliceBounds,HT.sIx,Option.getD_none,show(1:Int) > 0 by decide,if_true]
   by_cases h:i < 0
   ·simp only [h,if_true]<;>omega
   ·simp only [h,if_false]<;>omega
theorem slicePick_cut(its:List Value)(lo hi:Option Int):slicePick its.toArray lo hi none=((its.drop (HT.sIx its.length 0 lo)).take (HT.sIx its.length its.length hi - HT.sIx its.length 0 lo)).toArray:=by
 obtain⟨h1,h2,h3⟩:=slice_bounds lo hi its.toArray.size
 unfold slicePick
 rw [h1,h2,h3]
 simp only [sliceRange_one,pick_run,List.size_toArray]<;>rfl
def rSlL(K:PySem.W.Frag):V→Option Int→Option Int→Hp→VK→Prop:=fun x lo hi H Q=>∃a xs,x=.ref a∧SqL K H a xs∧∀p,H p=none→Q (.ref p) (upd H p (.lst (cutV xs lo hi)))
theorem sl_list:SlR X (rSlL X.K):=by
 intro pins s σ H x v vl vu lo hi sl Q I rx hs pl pu h
 obtain⟨a,xs,rfl,hx,q⟩:=h
 cases rx
 obtain⟨its,r,ht,hz⟩:=I.list hx
 have hlen:=r.length
 refine⟨"list",_,slot_list_getitem.lookup,ht.isList.typeIs,?_⟩
 refine wpAny_getItem_list_slice ht.isList hs pl pu .none (by simp) ?_ (by rw [List.size_toArray]<;>omega)
 rw [slicePick_cut,←hlen]
 refine⟨.ref s.heap.objs.size,_,I.laid (t':=s.toks) (o:=.lst (cutV xs lo hi)) (fun b ob q=>Heap.get?_push_of_some _ q) (Nat.le_refl _) ?_,rfl,q _ (I.hok.fresh (Nat.le_refl _))⟩
 exact⟨Nat.le_trans (cutV_length xs lo hi) hz,_,0,(r.drop (HT.sIx xs.length 0 lo)).take (HT.sIx xs.length xs.length hi - HT.sIx xs.length 0 lo),Heap.get?_push_size _ rfl⟩
def flatV:V→Bool
 |.non=>true
 |.bl _=>true
 |.int _=>true
 |.str _=>true
 |_=>false
def eqV:V→V→Bool
 |.non,.non=>true
 |.bl a,.bl b=>a==b
 |.bl a,.int b=>(if a then 1 else 0)==b
 |.int a,.bl b=>a==(if b then 1 else 0)
 |.int a,.int b=>a==b
 |.str a,.str b=>a==b
 |_,_=>false
theorem eqAt_V{A:Around}{s:Shared}{y x:V}{u v:Value}(ry:RelV y u)(rx:RelV x v)(fy:flatV y=true)(fx:flatV x=true):SeqAt.EqAt A s u v (eqV y x):=by
 cases y with
 |non =>
  cases ry
  cases x with
  |non=>cases rx;exact SeqAt.EqAt.same _
  |bl b=>cases rx;exact SeqAt.EqAt.none_bool b
  |int b=>obtain⟨t,rfl⟩:=rx;exact SeqAt.EqAt.none_int b t
  |str b=>obtain⟨t,rfl⟩:=rx;exact SeqAt.EqAt.none_str b t
  |_=>exact absurd (show false=true from fx) Bool.false_ne_true
 |bl a =>
  cases ry
  cases x with
  |non=>cases rx;exact SeqAt.EqAt.bool_none a
  |bl b=>cases rx;exact SeqAt.EqAt.bool_bool a b
  |int b=>obtain⟨t,rfl⟩:=rx;exact SeqAt.EqAt.bool_int a b t
  |str b=>obtain⟨t,rfl⟩:=rx;exact SeqAt.EqAt.bool_str a b t
  |_=>exact absurd (show false=true from fx) Bool.false_ne_true
 |int a =>
  obtain⟨t',rfl⟩:=ry
  cases x with
  |non=>cases rx;exact SeqAt.EqAt.int_none a t'
  |bl b=>cases rx;exact SeqAt.EqAt.int_bool a t' b
  |int b=>obtain⟨t,rfl⟩:=rx;exact SeqAt.EqAt.int_int a t' b t
  |str b=>obtain⟨t,rfl⟩:=rx;exact SeqAt.EqAt.int_str a t' b t
  |_=>exact absurd (show false=true from fx) Bool.false_ne_true
 |str a =>
  obtain⟨t',rfl⟩:=ry
  cases x with
  |non=>cases rx;exact SeqAt.EqAt.str_none a t'
  |bl b=>cases rx;exact SeqAt.EqAt.str_bool a t' b
  |int b=>obtain⟨t,rfl⟩:=rx;exact SeqAt.EqAt.str_int a t' b t
  |str b=>obtain⟨t,rfl⟩:=rx;exact SeqAt.EqAt.str_str a t' b t
  |_=>exact absurd (show false=true from fx) Bool.false_ne_true
 |_=>exact absurd (show false=true from fy) Bool.false_ne_true
def eqU(x:V)(u:Value):Bool:=match u with
 |.none=>eqV .non x
 |.bool b=>eqV (.bl b) x
 |.int i _=>eqV (.int i) x
 |.str z _=>eqV (.str z) x
 |_=>false
theorem eqU_of{x y:V}{u:Value}(r:RelV y u)(f:flatV y=true):eqU x u=eqV y x:=by
 cases y with
 |non=>cases r;rfl
 |bl b=>cases r;rfl
 |int i=>obtain⟨t,rfl⟩:=r;rfl
 |str z=>obtain⟨t,rfl⟩:=r;rfl
 |_=>exact absurd (show false=true from f) Bool.false_ne_true
theorem any_eqU{x:V}:∀{xs:List V} {us:List Value},Vals xs us→xs.all flatV=true→us.any (eqU x)=xs.any fun y=>eqV y x
 |_,_,.nil,_=>rfl
 |y::xs,u::us,.cons r t,f=>by
  rw [List.all_cons,Bool.and_eq_true] at f
  rw [List.any_cons,List.any_cons,eqU_of r f.1,any_eqU t f.2]
theorem mem_eqAt{A:Around}{s:Shared}{x:V}{v:Value}(rx:RelV x v)(fx:flatV x=true):∀{xs:List V} {us:List Value},Vals xs us→xs.all flatV=true→∀u∈us,SeqAt.EqAt A s u v (eqU x u)
 |_,_,.nil,_=>fun u hu=>by cases hu
 |y::xs,u::us,.cons r t,f=>fun u' hu=>by
  rw [List.all_cons,Bool.and_eq_true] at f
  rcases List.mem_cons.mp hu with rfl|hu
  ·rw [eqU_of r f.1];exact eqAt_V r rx f.1 fx
  ·exact mem_eqAt rx fx t f.2 u' hu
def inV(x:V)(xs:List V):Bool:=xs.any fun y=>eqV y x
def rIn(K:PySem.W.Frag)(neg:Bool):R2:=fun x y H Q=>∃p xs,y=.ref p∧(SqL K H p xs∨SqT K H p xs)∧flatV x=true∧xs.all flatV=true∧Q (.bl (if neg then !inV x xs else inV x xs)) H
theorem op_in_seq:OpR X (compareOp .In) (rIn X.K false):=by
 intro pins s σ H x y v u Q I rx ry h
 obtain⟨p,xs,rfl,hq,fx,fs,q⟩:=h
 cases ry
 rcases hq with hq|hq
 ·obtain⟨its,r,pl,hz⟩:=I.list hq
  refine SeqAt.in_listAt (eqU x) pl.isList (fun w hw=>mem_eqAt rx fx r fs w (by simpa using hw)) ⟨.bl _,H,I,rfl,?_⟩
  rw [show its.toArray.any (eqU x)=its.any (eqU x) by simp,any_eqU r fs]
  exact q
 ·obtain⟨its,r,pl,hz⟩:=I.tuple hq
  refine SeqAt.in_tupleAt (eqU x) pl (fun w hw=>mem_eqAt rx fx r fs w (by simpa using hw)) ⟨.bl _,H,I,rfl,?_⟩
  rw [show its.toArray.any (eqU x)=its.any (eqU x) by simp,any_eqU r fs]
  exact q
theorem op_notIn_seq:OpR X (compareOp .NotIn) (rIn X.K true):=by
 intro pins s σ H x y v u Q I rx ry h
 obtain⟨p,xs,rfl,hq,fx,fs,q⟩:=h
 cases ry
 rcases hq with hq|hq
 ·obtain⟨its,r,pl,hz⟩:=I.list hq
  refine SeqAt.notIn_listAt (eqU x) pl.isList (fun w hw=>mem_eqAt rx fx r fs w (by simpa using hw)) ⟨.bl _,H,I,rfl,?_⟩
  rw [show its.toArray.any (eqU x)=its.any (eqU x) by simp,any_eqU r fs]
  exact q
 ·obtain⟨its,r,pl,hz⟩:=I.tuple hq
  refine SeqAt.notIn_tupleAt (eqU x) pl (fun w hw=>mem_eqAt rx fx r fs w (by simpa using hw)) ⟨.bl _,H,I,rfl,?_⟩
  rw [show its.toArray.any (eqU x)=its.any (eqU x) by simp,any_eqU r fs]
  exact q
theorem call_len_seq:CallR X (.builtin "len") (fun xs H Q=>∃p ys,xs=[.ref p]∧(SqL X.K H p ys∨SqT X.K H p ys)∧Q (.int ys.length) H):=by
 intro pins s σ H xs us Q I r h
 obtain⟨p,ys,rfl,hq,q⟩:=h
 obtain⟨u,rfl,rx⟩:=vals1 r
 cases rx
 have hn:=line63
 rcases hq with hq|hq
 ·obtain⟨its,r',pl,hz⟩:=I.list hq
  have hlen:=r'.length
  exact Calls.call_len_list pl.isList (by simp only [List.size_toArray]<;>omega) ⟨.int ys.length,H,I.tok _,⟨s.toks+1,by rw [List.size_toArray,hlen]⟩,q⟩
 ·obtain⟨its,r',pl,hz⟩:=I.tuple hq
  have hlen:=r'.length
  exact len_tuple pl (by simp only [List.size_toArray]<;>omega) ⟨.int ys.length,H,I.tok _,⟨s.toks+1,by rw [List.size_toArray,hlen]⟩,q⟩
theorem call_tuple_of:CallR X (.type "tuple") (fun xs H Q=>∃p ys,xs=[.ref p]∧((SqL X.K H p ys∧∀l,H l=none→Q (.ref l) (upd H l (.tup ys)))∨(SqT X.K H p ys∧Q (.ref p) H))):=by
 intro pins s σ H xs us Q I r h
 obtain⟨p,ys,rfl,h⟩:=h
 obtain⟨u,rfl,rx⟩:=vals1 r
 cases rx
 rcases h with ⟨hq,q⟩|⟨hq,q⟩
 ·obtain⟨its,r',pl,hz⟩:=I.list hq
  have hlen:=r'.length
  refine call_tuple_list pl.isList (fun h' kp=>?_) (by simp only [List.size_toArray]<;>omega)
  have I1:Inv X pins σ H { s with heap:=h' }:=I.kept (t':=s.toks) kp
  have I2:Inv X pins σ (upd H h'.objs.size (.tup ys)) { s with heap:=h'.push { cls:=.type "tuple",data:=.seq its.toArray } } :=
   I1.laid (t':=s.toks) (fun b o e=>Heap.get?_push_of_some _ e) (Nat.le_refl _) (show ObjOk X.prog X.w _ _ _ (.tup ys) from⟨hz,its,r',IsTup.new _ _⟩)
  exact⟨.ref h'.objs.size,_,I2,rfl,q _ (I1.hok.fresh (Nat.le_refl _))⟩
 ·obtain⟨its,r',pl,hz⟩:=I.tuple hq
  exact call_tuple_same pl ⟨.ref p,H,I,rfl,q⟩
def tyV(K:PySem.W.Frag)(T:String)(x:V)(H:Hp):Prop:=match x with
 |.str _=>T="str"
 |.int _=>T="int"
 |.ref p=>(T="list"∧∃xs,SqL K H p xs)∨(T="tuple"∧∃o,K.lookup p=some o∧o.cls=.type "tuple"∧o.dict=none) ∨
   (T="dict"∧((∃kvs,H p=some (.dK kvs))∨∃kvs,H p=some (.dT kvs)))∨(T="set"∧∃S n,H p=some (.set S n))
 |_=>False
theorem tyV_is{pins:List (Addr × Obj)}{σ:St}{H:Hp}{s:Shared}{T:String}{x:V}{v:Value}(I:Inv X pins σ H s)(r:RelV x v)(ty:tyV X.K T x H) :
  s.TypeIs v T∧∀a,v=.ref a→∃ob,s.heap.get? a=some ob∧ob.dict=none:=by
 cases x with
 |str z =>
  obtain⟨t,rfl⟩:=r
  cases (show T="str" from ty)
  exact⟨typeIs_str s z t,fun _ e=>nomatch e⟩
 |int i =>
  obtain⟨t,rfl⟩:=r
  cases (show T="int" from ty)
  exact⟨typeIs_int s i t,fun _ e=>nomatch e⟩
 |ref p =>
  cases r
  rcases ty with ⟨rfl,xs,hq⟩|⟨rfl,o,hk,hc,hd⟩|⟨rfl,hk⟩|⟨rfl,S,n,hk⟩
  ·obtain⟨its,_,pl,_⟩:=I.list hq
   refine⟨pl.isList.typeIs,fun a e=>?_⟩
   cases e
   obtain⟨o,n,e,c,hd,_⟩:=pl
   exact⟨o,e,hd⟩
  ·refine⟨⟨o,I.kIn p o hk,hc⟩,fun a e=>?_⟩
   cases e
   exact⟨o,I.kIn _ o hk,hd⟩
  ·have z:∃o,s.heap.get? p=some o∧o.ExactDict:=by
    rcases hk with ⟨kvs,hk⟩|⟨kvs,hk⟩
    ·obtain⟨_,_,_,_,o,_,_,e,ex,_⟩:=I.hok p _ hk
     exact⟨o,e,ex⟩
    ·obtain⟨_,_,_,_,o,_,_,e,ex,_⟩:=I.hok p _ hk
     exact⟨o,e,ex⟩
   obtain⟨o,e,ex⟩:=z
   refine⟨⟨o,e,ex.1⟩,fun a e2=>?_⟩
   cases e2
   exact⟨o,e,ex.2.1⟩
  ·obtain⟨o,_,_,_,e,ex,_⟩:=I.hok p _ hk
   refine⟨⟨o,e,ex.1⟩,fun a e2=>?_⟩
   cases e2
   exact⟨o,e,ex.2.1⟩
 |_=>exact False.elim ty
def tBM0(K:PySem.W.Frag)(T:String)(r:V→List V→Hp→VK→Prop)(to:TE):TE:=fun σ H Q=>to σ H fun x H1=>tyV K T x H1∧r x [] H1 Q
def tBM(K:PySem.W.Frag)(T:String)(r:V→List V→Hp→VK→Prop)(to:TE)(t:TA):TE:=fun σ H Q=>to σ H fun x H1=>tyV K T x H1∧t σ H1 fun xs H2=>r x xs H2 Q
variable{o e:Expr}{es:List Expr}{to:TE}{t:TA}{name:Str}{apos cpos:Pos}{T id:String}{r:V→List V→Hp→VK→Prop}
theorem pe_bm0(pa:PlainAttrs T)(slot:Slot T name id) (hty:typeOf (.builtin id)=pure (.type "method_descriptor")) (hm:MtR X id r) (ho:PE X o to)
  (hbase:attributeBase o name X.env (eval o X.env)=eval o X.env:=by rfl) (hline:(apos.endLine==cpos.line)=true:=by rfl):PE X (.Call (.Attribute o name apos) [] [] cpos) (tBM0 X.K T r to):=by
 intro pins s σ H Q I h
 refine wpAny_Call_method0_late hbase hline (thn (ho pins s σ H _ I h) fun v s1 ⟨x,H1,I1,r1,ty,q1⟩=>?_)
 obtain⟨h1,h2⟩:=tyV_is I1 r1 ty
 exact⟨T,id,pa,slot,hty,h1,h2,Calls.callWith_builtin rfl (PySem.evalArgs_none (hm pins s1 σ H1 x [] v [] Q I1 r1 .nil q1))⟩
theorem pe_bm(pa:PlainAttrs T)(slot:Slot T name id) (hty:typeOf (.builtin id)=pure (.type "method_descriptor")) (hm:MtR X id r) (ho:PE X o to) (ha:PA X (e::es) t)
  (hbase:attributeBase o name X.env (eval o X.env)=eval o X.env:=by rfl)
  (hfew:((backTo cpos (starEach (e::es) X.env)).all (fun x=>!x.1)&&(backToKw cpos (keywordEach [] X.env)).all (fun x=>x.1.isSome)
   && decide ((e::es).length+([]:List Keyword).length+(if ([]:List Keyword).isEmpty then 0 else 1) < 30))=true:=by rfl)
  (hline:(apos.endLine==cpos.line)=true:=by rfl) (hs:starEach (e::es) X.env=(false,eval e X.env)::starEach es X.env:=by rfl) (hplain:(backTo cpos (starEach es X.env)).any (·.1)=false:=by rfl) :
  PE X (.Call (.Attribute o name apos) (e::es) [] cpos) (tBM X.K T r to t):=by
 intro pins s σ H Q I h
 refine wpAny_Call_method_late hbase hfew hline rfl (thn (ho pins s σ H _ I h) fun v s1 ⟨x,H1,I1,r1,ty,q1⟩=>?_)
 obtain⟨h1,h2⟩:=tyV_is I1 r1 ty
 refine⟨T,id,pa,slot,hty,h1,h2,?_⟩
 have hA:=ha cpos pins s1 σ H1 _ I1 q1
 rw [hs] at hA ⊢
 refine Calls.callWith_builtin (by show(false||(backTo cpos (starEach es X.env)).any (·.1))=false;rw [hplain]<;>rfl) (Calls.evalArgs_plain ?_)
 exact thn hA fun us s2 ⟨vs,H2,I2,r2,q2⟩=>hm pins s2 σ H2 x vs v us Q I2 r1 r2 q2
/- xs.append(e),list.index on a module's tuple .. are MtR facts of 06m -/
end
end L2
namespace L2
open PySem PySem.Spec PyProof.Rows
def MtM(X:Cx)(id:String)(r:V→List V→Hp→VK→Prop):Prop :=
 ∀(pins:List (Addr × Obj)) (s:Shared) (σ:St) (H:Hp) (x:V) (xs:List V) (v:Value) (us:List Value) (Q:VK),Inv X pins σ H s→RelV x v→Vals xs us→r x xs H Q →
  wpAny (model X.prog X.w) X.A (call (.builtin id) (v::us)) (EP X pins σ Q) X.xe s
theorem Vals.one:∀{x:V} {us:List Value},Vals [x] us→∃u,us=[u]∧RelV x u
 |_,_,.cons r .nil=>⟨_,rfl,r⟩
theorem Vals.two:∀{x y:V} {us:List Value},Vals [x,y] us→∃u v,us=[u,v]∧RelV x u∧RelV y v
 |_,_,_,.cons r (.cons q .nil)=>⟨_,_,rfl,r,q⟩
theorem Vals.zero:∀{us:List Value},Vals [] us→us=[]
 |_,.nil=>rfl
theorem Vals.dropLast{xs:List V}{us:List Value}(h:Vals xs us):Vals xs.dropLast us.dropLast:=by
 induction h with
 |nil=>exact .nil
 |cons r t ih =>
  cases t with
  |nil=>exact .nil
  |cons q t'=>exact .cons r ih
theorem Vals.rep{xs:List V}{us:List Value}(h:Vals xs us):∀k:Nat,Vals (List.replicate k xs).flatten (List.replicate k us).flatten
 |0=>.nil
 |k+1=>by
  rw [List.replicate_succ,List.replicate_succ,List.flatten_cons,List.flatten_cons]
  exact Vals.append h (Vals.rep h k)
theorem erase_last{α:Type}(l:List α):l.eraseIdx (l.length - 1)=l.dropLast:=by
 induction l with
 |nil=>rfl
 |cons a r ih =>
  cases r with
  |nil=>rfl
  |cons b r =>
   have e:(a::b::r).length - 1=((b::r).length - 1)+1:=by
    have h1:(a::b::r).length=r.length+2:=rfl
    have h2:(b::r).length=r.length+1:=rfl
    omega
   rw [e,List.eraseIdx_cons_succ,ih]
   all_goals rfl
theorem foldl_rep(its:List Value):∀(k:Nat) (acc:List Value),
  List.foldl (fun x1 x2=>x1++x2) acc.toArray (List.replicate k its.toArray)=(acc++(List.replicate k its).flatten).toArray
 |0,acc=>by simp
 |k+1,acc=>by
  have e:acc.toArray++its.toArray=(acc++its).toArray:=by simp
  have e2:(acc++its)++(List.replicate k its).flatten=acc++(List.replicate (k+1) its).flatten:=by
   rw [List.replicate_succ,List.flatten_cons,List.append_assoc]
  rw [←e2,←foldl_rep its k (acc++its),←e,List.replicate_succ,List.foldl_cons]
section
variable{X:Cx}{pins:List (Addr × Obj)}{σ:St}{H:Hp}{s:Shared}{l b:Addr}{xs ys zs:List V}
theorem Inv.lset{its its':List Value}{n:Nat}{f:Array Value→Array Value}{t':Nat}(I:Inv X pins σ H s)(hH:H l=some (.lst xs))
  (e:s.heap.get? l=some { cls:=.type "list",data:=.seq its.toArray n }) (hf:f its.toArray=its'.toArray) (hv:Vals ys its') (hz:ys.length≤sizeLine) :
  Inv X pins σ (upd H l (.lst ys)) { s with heap:=s.heap.update l (Obj.mapSeq f),toks:=t' }:=by
 have q:=PySem.IsL.update e f
 rw [hf] at q
 refine I.write (x:=l) (e:=l) (by rw [hH];exact trivial) (.inl rfl) (fun b' u hb hu=>(Heap.get?_update_other s.heap (Obj.mapSeq f) (Ne.symm hb)).trans hu) ⟨_,q⟩ ?_
 exact⟨hz,its',_,hv,q⟩
theorem Inv.lnew{its:List Value}{t':Nat}(I:Inv X pins σ H s)(hv:Vals ys its)(hz:ys.length≤sizeLine) :
  Inv X pins σ (upd H s.heap.objs.size (.lst ys)) { s with heap:=s.heap.push { cls:=.type "list",data:=.seq its.toArray },toks:=t' } :=
 I.laid (fun _ _ q=>Heap.get?_push_of_some _ q) (Nat.le_refl _) ⟨hz,its,0,hv,Heap.get?_push_size _ rfl⟩
theorem Inv.fresh(I:Inv X pins σ H s):H s.heap.objs.size=none:=I.hok.fresh (Nat.le_refl _)
theorem Inv.lstM(I:Inv X pins σ H s)(hH:H l=some (.lst xs)):xs.length≤sizeLine∧∃(its:List Value) (n:Nat),Vals xs its∧xs.length=its.length∧s.heap.get? l=some { cls:=.type "list",data:=.seq its.toArray n }:=by
 obtain⟨z,its,n,r,e⟩:=I.hok l _ hH
 exact⟨z,its,n,r,r.length,e⟩
theorem notLongL{n:Nat}(h:n≤sizeLine):Builtin.List.listTooLong n=false:=by
 unfold Builtin.List.listTooLong
 exact decide_eq_false (by omega)
end
section
variable{X:Cx}
def rAppend:V→List V→Hp→VK→Prop:=fun x vs H Q=>∃l xs y,x=.ref l∧vs=[y]∧H l=some (.lst xs)∧xs.length < sizeLine∧Q .non (upd H l (.lst (xs++[y])))
theorem mt_append:MtM X "list.append" rAppend:=by
 intro pins s σ H x vs v us Q I rx rv h
 obtain⟨l,xs,y,rfl,rfl,hH,hz,q⟩:=h
 cases rx
 obtain⟨u,rfl,ru⟩:=rv.one
 obtain⟨z,its,n,r,hl,e⟩:=I.lstM hH
 refine call_meets F.slot_list_append ⟨_,e,rfl⟩ F.entry_list_append (F.args_list_append_2 _ _) (PySem.list_append l its.toArray n u (by rw [List.size_toArray];omega)) ⟨e,?_⟩
 refine⟨.non,_,I.lset (its':=its++[u]) hH e (by simp) (r.append (.cons ru .nil)) ?_,rfl,q⟩
 rw [List.length_append,List.length_singleton]
 omega
def rExtend:V→List V→Hp→VK→Prop:=fun x vs H Q=>∃l b xs zs,x=.ref l∧vs=[.ref b]∧H l=some (.lst xs)∧H b=some (.lst zs)∧xs.length+zs.length≤sizeLine∧Q .non (upd H l (.lst (xs++zs)))
theorem mt_extend:MtM X "list.extend" rExtend:=by
 intro pins s σ H x vs v us Q I rx rv h
 obtain⟨l,b,xs,zs,rfl,rfl,hH,hB,hz,q⟩:=h
 cases rx
 obtain⟨u,rfl,ru⟩:=rv.one
 cases ru
 obtain⟨z,its,n,r,hl,e⟩:=I.lstM hH
 obtain⟨z2,its2,n2,r2,hl2,e2⟩:=I.lstM hB
 have hsz:its.toArray.size+its2.toArray.size≤sizeLine:=by rw [List.size_toArray,List.size_toArray];omega
 have hlong:¬(!its.toArray.isEmpty&&Builtin.List.listTooLong (its.toArray.size+its2.toArray.size))=true:=by
  rw [notLongL hsz,Bool.and_false]
  exact Bool.false_ne_true
 refine call_meets F.slot_list_extend ⟨_,e,rfl⟩ F.entry_list_extend (F.args_list_extend_2 _ _)
  (AutoSeq1.list_extend_list_list_0 l its.toArray n b its2.toArray n2 hlong (by rw [List.size_toArray];omega) (by omega)) ⟨e,e2,?_⟩
 refine⟨.non,_,I.lset (its':=its++its2) hH e (by simp) (r.append r2) ?_,rfl,q⟩
 rw [List.length_append]
 omega
def rPop:V→List V→Hp→VK→Prop:=fun x vs H Q=>∃l xs y,x=.ref l∧vs=[]∧H l=some (.lst xs)∧xs[xs.length - 1]?=some y∧Q y (upd H l (.lst xs.dropLast))
theorem mt_pop:MtM X "list.pop" rPop:=by
 intro pins s σ H x vs v us Q I rx rv h
 obtain⟨l,xs,y,rfl,rfl,hH,hy,q⟩:=h
 cases rx
 have hus:=rv.zero
 subst hus
 obtain⟨z,its,n,r,hl,e⟩:=I.lstM hH
 obtain⟨u,hu,ru⟩:=r.get hy
 have hy':its.toArray[its.toArray.size - 1]?=some u:=by
  show its.toArray[its.length - 1]?=some u
  rw [←Array.getElem?_toList,←hl]
  exact hu
 refine call_meets F.slot_list_pop ⟨_,e,rfl⟩ F.entry_list_pop (F.args_list_pop_1 _) (MeetsSeq.list_pop_last l its.toArray n u hy' (by rw [List.size_toArray];omega)) ⟨e,?_⟩
 refine⟨y,_,I.lset (its':=its.dropLast) hH e ?_ r.dropLast ?_,ru,q⟩
 ·show its.toArray.eraseIdxIfInBounds (its.toArray.size - 1)=its.dropLast.toArray
  rw [List.size_toArray,List.eraseIdxIfInBounds_toArray,erase_last]
 ·rw [List.length_dropLast]
  omega
def rCat:R2:=fun x y H Q=>∃l b xs zs,x=.ref l∧y=.ref b∧H l=some (.lst xs)∧H b=some (.lst zs)∧xs.length+zs.length≤sizeLine∧∀p,H p=none→Q (.ref p) (upd H p (.lst (xs++zs)))
theorem op_cat:OpR X (binaryOp .Add) rCat:=by
 intro pins s σ H x y v u Q I rx ry h
 obtain⟨l,b,xs,zs,rfl,rfl,hH,hB,hz,q⟩:=h
 cases rx
 cases ry
 obtain⟨z,its,n,r,hl,e⟩:=I.lstM hH
 obtain⟨z2,its2,n2,r2,hl2,e2⟩:=I.lstM hB
 refine PySem.P.add_list e e2 ?_ (by rw [List.size_toArray,List.size_toArray];omega)
 have ea:its.toArray++its2.toArray=(its++its2).toArray:=by simp
 rw [ea]
 exact⟨.ref _,_,I.lnew (t':=s.toks) (r.append r2) (by rw [List.length_append];omega),rfl,q _ I.fresh⟩
theorem len_rep{α:Type}(xs:List α)(k:Nat):(List.replicate k xs).flatten.length=k*xs.length:=by
 induction k with
 |zero=>simp
 |succ k ih=>rw [List.replicate_succ,List.flatten_cons,List.length_append,ih,Nat.succ_mul,Nat.add_comm]
end
section
variable{prog:Program}{w:World}{A:Around}{E:Value→Shared→Prop}{s:Shared}
end
section
variable{X:Cx}
end
end L2
namespace L2
open PySem PySem.Spec PyProof.Rows
section
variable{κ:Type}[DecidableEq κ]
def valV(kvs:List (κ × V))(k:κ):Option V:=(kvs.find? fun kv=>decide (kv.1=k)).map (·.2)
def putK(kvs:List (κ × V))(k:κ)(v:V):List (κ × V) :=
 if (kvs.any fun kv=>decide (kv.1=k))=true then kvs.map (fun kv=>if kv.1=k then (kv.1,v) else kv) else kvs++[(k,v)]
theorem valV_pos{p:κ × V}{r:List (κ × V)}{k:κ}(e:p.1=k):valV (p::r) k=some p.2:=by simp [valV,List.find?_cons,e]
theorem valV_neg{p:κ × V}{r:List (κ × V)}{k:κ}(e:¬p.1=k):valV (p::r) k=valV r k:=by simp [valV,List.find?_cons,e]
theorem valV_any(k:κ):∀kvs:List (κ × V),(kvs.any fun kv=>decide (kv.1=k))=(valV kvs k).isSome
 |[]=>rfl
 |p::r=>by
  rw [List.any_cons]
  by_cases e:p.1=k
  ·simp only [valV_pos e,decide_eq_true e,Bool.true_or,Option.isSome_some]
  ·rw [valV_neg e,decide_eq_false e,Bool.false_or];exact valV_any k r
theorem valV_map(k j:κ)(y:V):∀kvs:List (κ × V),valV (kvs.map fun kv=>if kv.1=k then (kv.1,y) else kv) j=(valV kvs j).map fun x=>if j=k then y else x
 |[]=>rfl
 |p::r=>by
  have ih:=valV_map k j y r
  rw [List.map_cons]
  by_cases h:p.1=k
  ·rw [if_pos h]
   by_cases e:p.1=j
   ·rw [valV_pos (p:=(p.1,y)) e,valV_pos e,Option.map_some,if_pos (e.symm.trans h)]
   ·rw [valV_neg (p:=(p.1,y)) e,valV_neg e,ih]
  ·rw [if_neg h]
   by_cases e:p.1=j
   ·rw [valV_pos (p:=p) e,valV_pos e,Option.map_some,if_neg (fun z=>h (e.trans z))]
   ·rw [valV_neg (p:=p) e,valV_neg e,ih]
theorem valV_snoc(k j:κ)(y:V):∀kvs:List (κ × V),valV kvs k=none→valV (kvs++[(k,y)]) j=if j=k then some y else valV kvs j
 |[],_=>by
  by_cases e:k=j
  ·rw [if_pos e.symm];exact valV_pos (p:=(k,y)) e
  ·rw [if_neg (fun z=>e z.symm)];exact valV_neg (p:=(k,y)) e
 |p::r,hn=>by
  rw [List.cons_append]
  have hk:¬p.1=k:=fun z=>by rw [valV_pos z] at hn;cases hn
  rw [valV_neg hk] at hn
  have ih:=valV_snoc k j y r hn
  by_cases e:p.1=j
  ·rw [valV_pos e,valV_pos e,if_neg (fun z=>hk (e.trans z))]
  ·rw [valV_neg e,valV_neg e,ih]
theorem valV_put(kvs:List (κ × V))(k j:κ)(y:V):valV (putK kvs k y) j=if j=k then some y else valV kvs j:=by
 unfold putK
 by_cases a:(kvs.any fun kv=>decide (kv.1=k))=true
 ·rw [if_pos a,valV_map]
  rw [valV_any] at a
  by_cases e:j=k
  ·obtain⟨x,hx⟩:=Option.isSome_iff_exists.mp a
   rw [if_pos e,e,hx,Option.map_some,if_pos rfl]
  ·rw [if_neg e]
   cases valV kvs j with
   |none=>rfl
   |some x=>rw [Option.map_some,if_neg e]
 ·rw [if_neg a]
  refine valV_snoc k j y kvs ?_
  rw [valV_any] at a
  cases q:valV kvs k with
  |none=>rfl
  |some x=>rw [q] at a;exact(a rfl).elim
theorem length_putK(kvs:List (κ × V))(k:κ)(v:V):(putK kvs k v).length≤kvs.length+1:=by
 unfold putK
 split
 ·rw [List.length_map];omega
 ·rw [List.length_append,List.length_cons,List.length_nil];omega
theorem putK_new{kvs:List (κ × V)}{k:κ}(v:V)(h:valV kvs k=none):putK kvs k v=kvs++[(k,v)]:=by
 unfold putK
 rw [valV_any,h]
 exact if_neg (by decide)
theorem RelO.isSome_eq{o:Option V}{u:Option Value}(r:RelO o u):o.isSome=u.isSome:=by
 cases o with
 |none=>cases u with
  |none=>rfl
  |some _=>exact(show False from r).elim
 |some _=>cases u with
  |none=>exact(show False from r).elim
  |some _=>rfl
theorem RelO.getD{o:Option V}{u:Option Value}{d:V}{d':Value}(r:RelO o u)(rd:RelV d d'):RelV (o.getD d) (u.getD d'):=by
 cases o with
 |none=>cases u with
  |none=>exact rd
  |some _=>exact(show False from r).elim
 |some _=>cases u with
  |none=>exact(show False from r).elim
  |some _=>exact r
theorem KV.val{kvs:List (κ × V)}{vs:List (κ × Value)}(r:KV kvs vs)(k:κ):RelO (valV kvs k) (valueAt vs k):=by
 unfold KV at r
 induction r with
 |nil=>exact True.intro
 |@cons p q ps qs h t ih =>
  obtain⟨h1,h2⟩:=h
  by_cases e:p.1=k
  ·have e':q.1=k:=h1.symm.trans e
   have b:valueAt (q::qs) k=some q.2:=by simp [valueAt,List.find?_cons,e']
   rw [valV_pos e,b];exact h2
  ·have e':¬q.1=k:=fun z=>e (h1.trans z)
   have b:valueAt (q::qs) k=valueAt qs k:=by simp [valueAt,List.find?_cons,e']
   rw [valV_neg e,b];exact ih
theorem KV.any{kvs:List (κ × V)}{vs:List (κ × Value)}(r:KV kvs vs)(k:κ):(kvs.any fun kv=>decide (kv.1=k))=vs.any fun kv=>decide (kv.1=k):=by
 unfold KV at r
 induction r with
 |nil=>rfl
 |cons h t ih=>rw [List.any_cons,List.any_cons,ih,h.1]
theorem KV.repl{kvs:List (κ × V)}{vs:List (κ × Value)}(r:KV kvs vs)(k:κ){y:V}{u:Value}(ry:RelV y u) :
  KV (kvs.map fun kv=>if kv.1=k then (kv.1,y) else kv) (vs.map fun kv=>if kv.1=k then (kv.1,u) else kv):=by
 unfold KV at r ⊢
 induction r with
 |nil=>exact .nil
 |@cons p q ps qs h t ih =>
  rw [List.map_cons,List.map_cons]
  refine .cons ?_ ih
  obtain⟨h1,h2⟩:=h
  by_cases e:p.1=k
  ·rw [if_pos e,if_pos (h1.symm.trans e)];exact⟨h1,ry⟩
  ·rw [if_neg e,if_neg (fun z=>e (h1.trans z))];exact⟨h1,h2⟩
theorem KV.put{kvs:List (κ × V)}{vs:List (κ × Value)}(r:KV kvs vs)(k:κ){y:V}{u:Value}(ry:RelV y u):KV (putK kvs k y) (stored vs k u):=by
 unfold putK stored
 rw [r.any k]
 by_cases e:(vs.any fun kv=>decide (kv.1=k))=true
 ·rw [if_pos e,if_pos e];exact r.repl k ry
 ·rw [if_neg e,if_neg e];exact Paired.snoc r ⟨rfl,ry⟩
theorem KV.length{kvs:List (κ × V)}{vs:List (κ × Value)}(r:KV kvs vs):kvs.length=vs.length:=Paired.length r
end
theorem kV_is{P:Program}{w:World}{k:Key}{u:Value}(r:RelV (kV k) u):(mixKind P w).is k u=true:=by
 cases k with
 |inl i=>obtain⟨t,e⟩:=(show ∃t,u=Value.int i t from r);subst e;exact mixKind_int P w i t
 |inr x=>obtain⟨t,e⟩:=(show ∃t,u=Value.str x t from r);subst e;exact mixKind_str P w x t
theorem items_are{P:Program}{w:World}:∀{ks:List Key} {us:List Value},Vals (ks.map kV) us→ItemsAre (mixKind P w) ks us
 |[],_,r=>by rw [List.map_nil] at r;cases r;exact .nil
 |k::ks,_,r=>by
  rw [List.map_cons] at r
  cases r with
  |cons h t=>exact .cons (kV_is h) (items_are t)
abbrev KT(H:Hp):List (List Key × V)→List (List Key × Addr × Value)→Prop:=Paired fun p q=>p.1=q.1∧H q.2.1=some (.tup (p.1.map kV))∧RelV p.2 q.2.2
theorem KT.val{H:Hp}{kvs:List (List Key × V)}{xs:List (List Key × Addr × Value)}(r:KT H kvs xs)(k:List Key):RelO (valV kvs k) ((atKey xs k).map (·.2)):=by
 induction r with
 |nil=>exact True.intro
 |@cons p q ps qs h t ih =>
  obtain⟨h1,_,h2⟩:=h
  by_cases e:p.1=k
  ·have e':q.1=k:=h1.symm.trans e
   have b:atKey (q::qs) k=some q.2:=by simp [atKey,List.find?_cons,e']
   rw [valV_pos e,b];exact h2
  ·have e':¬q.1=k:=fun z=>e (h1.trans z)
   have b:atKey (q::qs) k=atKey qs k:=by simp [atKey,List.find?_cons,e']
   rw [valV_neg e,b];exact ih
theorem KT.repl{H:Hp}{kvs:List (List Key × V)}{xs:List (List Key × Addr × Value)}(r:KT H kvs xs)(k:List Key){y:V}{u:Value}(ry:RelV y u) :
  KT H (kvs.map fun kv=>if kv.1=k then (kv.1,y) else kv) (xs.map (putAt k u)):=by
 induction r with
 |nil=>exact .nil
 |@cons p q ps qs h t ih =>
  rw [List.map_cons,List.map_cons]
  refine .cons ?_ ih
  obtain⟨h1,h2,h3⟩:=h
  unfold putAt
  by_cases e:p.1=k
  ·rw [if_pos e,if_pos (h1.symm.trans e)];exact⟨h1,h2,ry⟩
  ·rw [if_neg e,if_neg (fun z=>e (h1.trans z))];exact⟨h1,h2,h3⟩
theorem KT.put{H:Hp}{kvs:List (List Key × V)}{xs:List (List Key × Addr × Value)}(r:KT H kvs xs)(k:List Key){b:Addr}{y:V}{u:Value}(hb:H b=some (.tup (k.map kV)))(ry:RelV y u) :
  KT H (putK kvs k y) (storedH xs k b u):=by
 have e:(kvs.any fun kv=>decide (kv.1=k))=(atKey xs k).isSome:=by
  rw [valV_any,(r.val k).isSome_eq,Option.isSome_map]
 unfold putK storedH
 rw [e]
 by_cases q:(atKey xs k).isSome=true
 ·rw [if_pos q,if_pos q];exact r.repl k ry
 ·rw [if_neg q,if_neg q];exact Paired.snoc r ⟨rfl,hb,ry⟩
theorem KT.keeps{H H':Hp}{kvs:List (List Key × V)}{xs:List (List Key × Addr × Value)}(r:KT H kvs xs)(ht:∀b ys,H b=some (.tup ys)→H' b=some (.tup ys)):KT H' kvs xs :=
 Paired.mapP r fun _ _ z=>⟨z.1,ht _ _ z.2.1,z.2.2⟩
section
variable{P:Program}{w:World}{H:Hp}{h:Heap}{a:Addr}
theorem rd_of{u:HO}(ok:HOk P w H h)(e:Rd H a u):ObjOk P w H h a u:=e.ok ok
theorem dk_rd{kvs:List (Key × V)}(ok:HOk P w H h)(e:Rd H a (.dK kvs)):kvs.length≤sizeLine∧(a==sysModules)=false∧∃vs,KV kvs vs∧h.DictOf (mixKind P w) a vs :=
 show ObjOk P w H h a (.dK kvs) from rd_of ok e
theorem dk_of{kvs:List (Key × V)}(ok:HOk P w H h)(e:H a=some (.dK kvs)):kvs.length≤sizeLine∧(a==sysModules)=false∧∃vs,KV kvs vs∧h.DictOf (mixKind P w) a vs:=dk_rd ok (.inl e)
theorem key_of{ks:List Key}(ok:HOk P w H h)(e:H a=some (.tup (ks.map kV))):(tupleKind (mixKind P w)).is h ks a:=by
 obtain⟨_,its,r,o,h1,h2,n,h3⟩:=(show ObjOk P w H h a (.tup (ks.map kV)) from ok a _ e)
 exact⟨o,its.toArray,n,h1,h2,h3,by simpa using items_are r⟩
theorem dt_rd{kvs:List (List Key × V)}(ok:HOk P w H h)(e:Rd H a (.dT kvs)):kvs.length≤sizeLine∧(a==sysModules)=false ∧
  ∃xs,KT H kvs xs∧h.DictOfH (tupleKind (mixKind P w)) a xs:=by
 obtain⟨z,y,xs,r,o,es,ep,h1,h2,h3,h4,h5⟩:=(show ObjOk P w H h a (.dT kvs) from rd_of ok e)
 refine⟨z,y,xs,r,o,es,ep,h1,h2,h3,h4,fun x hx=>?_,h5⟩
 have all:∀{l:List (List Key × V)} {m:List (List Key × Addr × Value)},KT H l m→∀x∈m,(tupleKind (mixKind P w)).is h x.1 x.2.1:=by
  intro l m q
  induction q with
  |nil=>intro x hx;exact nomatch hx
  |@cons p q ps qs hq t ih =>
   intro x hx
   rcases List.mem_cons.mp hx with e|hx
   ·subst e
    exact key_of ok (by rw [←hq.1];exact hq.2.1)
   ·exact ih x hx
 exact all r x hx
theorem dt_of{kvs:List (List Key × V)}(ok:HOk P w H h)(e:H a=some (.dT kvs)):kvs.length≤sizeLine∧(a==sysModules)=false ∧
  ∃xs,KT H kvs xs∧h.DictOfH (tupleKind (mixKind P w)) a xs:=dt_rd ok (.inl e)
end
def DGet(H:Hp)(a:Addr)(y:V)(r:Option V):Prop :=
 (∃kvs k,Rd H a (.dK kvs)∧y=kV k∧r=valV kvs k)∨∃kvs k b,Rd H a (.dT kvs)∧y=.ref b∧H b=some (.tup (k.map kV))∧r=valV kvs k
def DPut(H:Hp)(a:Addr)(y v:V)(H':Hp):Prop :=
 (∃kvs k,H a=some (.dK kvs)∧y=kV k∧kvs.length < sizeLine∧H'=upd H a (.dK (putK kvs k v))) ∨
 ∃kvs k b,H a=some (.dT kvs)∧y=.ref b∧H b=some (.tup (k.map kV))∧kvs.length < sizeLine∧H'=upd H a (.dT (putK kvs k v))
theorem DGet.k{H:Hp}{a:Addr}{kvs:List (Key × V)}{k:Key}(e:H a=some (.dK kvs)):DGet H a (kV k) (valV kvs k):=.inl ⟨kvs,k,.inl e,rfl,rfl⟩
theorem DGet.t{H:Hp}{a b:Addr}{kvs:List (List Key × V)}{k:List Key}(e:H a=some (.dT kvs))(eb:H b=some (.tup (k.map kV))):DGet H a (.ref b) (valV kvs k):=.inr ⟨kvs,k,b,.inl e,rfl,eb,rfl⟩
theorem DPut.k{H:Hp}{a:Addr}{kvs:List (Key × V)}{k:Key}{v:V}(e:H a=some (.dK kvs))(hl:kvs.length < sizeLine):DPut H a (kV k) v (upd H a (.dK (putK kvs k v))):=.inl ⟨kvs,k,e,rfl,hl,rfl⟩
theorem DPut.t{H:Hp}{a b:Addr}{kvs:List (List Key × V)}{k:List Key}{v:V}(e:H a=some (.dT kvs))(eb:H b=some (.tup (k.map kV)))(hl:kvs.length < sizeLine) :
  DPut H a (.ref b) v (upd H a (.dT (putK kvs k v))):=.inr ⟨kvs,k,b,e,rfl,eb,hl,rfl⟩
section
variable{X:Cx}{pins:List (Addr × Obj)}{σ:St}{H:Hp}{s:Shared}{a:Addr}{y v:V}{u r:Value}{o:Option V}{A:Around}{E:Value→Shared→Prop}
theorem Inv.big(I:Inv X pins σ H s):sysModules < s.heap.objs.size:=by
 have h:mainGlobals < s.heap.objs.size:=(I.mod.glob.keeps I.bk).lt
 exact Nat.lt_trans (by decide) h
theorem d_getItem{Q:Value→Shared→Prop}(hu:A.units+1 < cLine)(I:Inv X pins σ H s)(g:DGet H a y (some v))(ry:RelV y u)(h:∀w' s',Inv X pins σ H s'→RelV v w'→Q w' s') :
  wpAny (model X.prog X.w) A (getItem (.ref a) u) Q E s:=by
 rcases g with ⟨kvs,k,e,ey,l⟩|⟨kvs,k,b,e,ey,eb,l⟩
 ·subst ey
  obtain⟨z,hd,vs,rel,dd⟩:=dk_rd I.hok e
  obtain⟨w',hw,rw'⟩:=RelO.some_of (v:=v) (o:=valueAt vs k) (by rw [l];exact rel.val k)
  exact wpAny_getItem_of (kV_is ry) dd.mapOf hw (h w' _ (I.tok _) rw')
 ·subst ey
  cases (show u=Value.ref b from ry)
  obtain⟨z,hd,xs,rel,dd⟩:=dt_rd I.hok e
  obtain⟨w',hw,rw'⟩:=RelO.some_of (v:=v) (o:=(atKey xs k).map (·.2)) (by rw [l];exact rel.val k)
  obtain⟨p,hp,hp2⟩:=Option.map_eq_some_iff.mp hw
  refine wpAny_getItem_heap (tupleKind_room_in1 hu) (key_of I.hok eb) dd hp ?_
  rw [hp2]
  exact h w' _ (I.tok _) rw'
theorem d_in{Q:Value→Shared→Prop}(hu:A.units+1 < cLine)(I:Inv X pins σ H s)(g:DGet H a y o)(ry:RelV y u)(h:∀s',Inv X pins σ H s'→Q (.bool o.isSome) s') :
  wpAny (model X.prog X.w) A (compareOp .In u (.ref a)) Q E s:=by
 rcases g with ⟨kvs,k,e,ey,l⟩|⟨kvs,k,b,e,ey,eb,l⟩
 ·subst ey
  obtain⟨z,hd,vs,rel,dd⟩:=dk_rd I.hok e
  refine wpAny_in_of (kV_is ry) hd dd.mapOf ?_
  rw [←(rel.val k).isSome_eq,←l]
  exact h _ (I.tok _)
 ·subst ey
  cases (show u=Value.ref b from ry)
  obtain⟨z,hd,xs,rel,dd⟩:=dt_rd I.hok e
  refine wpAny_in_heap (tupleKind_room_in1 hu) (key_of I.hok eb) hd dd ?_
  have q:=(rel.val k).isSome_eq
  rw [Option.isSome_map] at q
  rw [←q,←l]
  exact h _ (I.tok _)
theorem d_notIn{Q:Value→Shared→Prop}(hu:A.units+1 < cLine)(I:Inv X pins σ H s)(g:DGet H a y o)(ry:RelV y u)(h:∀s',Inv X pins σ H s'→Q (.bool (!o.isSome)) s') :
  wpAny (model X.prog X.w) A (compareOp .NotIn u (.ref a)) Q E s:=by
 rcases g with ⟨kvs,k,e,ey,l⟩|⟨kvs,k,b,e,ey,eb,l⟩
 ·subst ey
  obtain⟨z,hd,vs,rel,dd⟩:=dk_rd I.hok e
  refine wpAny_notIn_of (kV_is ry) hd dd.mapOf ?_
  rw [←(rel.val k).isSome_eq,←l]
  exact h _ (I.tok _)
 ·subst ey
  cases (show u=Value.ref b from ry)
  obtain⟨z,hd,xs,rel,dd⟩:=dt_rd I.hok e
  refine wpAny_notIn_heap (tupleKind_room_in1 hu) (key_of I.hok eb) hd dd ?_
  have q:=(rel.val k).isSome_eq
  rw [Option.isSome_map] at q
  rw [←q,←l]
  exact h _ (I.tok _)
theorem d_write{h':Heap}{t':Nat}{ob:HO}(I:Inv X pins σ H s)(mu:Mut (H a))(hs:Heap.SameBut a s.heap h')(he:∃q,h'.get? a=some q)(new:ObjOk X.prog X.w (upd H a ob) h' a ob) :
  Inv X pins σ (upd H a ob) { s with heap:=h',toks:=t' } :=
 I.write (x:=a) (e:=a) mu (.inl rfl) (fun b q hb z=>(hs.2 b hb).trans z) he new
theorem dk_new{P:Program}{w:World}{H':Hp}{h':Heap}{kvs:List (Key × V)}{vs:List (Key × Value)}(z:kvs.length≤sizeLine)(hd:(a==sysModules)=false)(rel:KV kvs vs)(dd:h'.DictOf (mixKind P w) a vs) :
  ObjOk P w H' h' a (.dK kvs):=⟨z,hd,vs,rel,dd⟩
theorem d_setItem{H':Hp}{Q:Unit→Shared→Prop}(hu:A.units+1 < cLine)(I:Inv X pins σ H s)(g:DPut H a y v H')(ry:RelV y u)(rv:RelV v r)(h:∀s',Inv X pins σ H' s'→Q () s') :
  wpAny (model X.prog X.w) A (setItem (.ref a) u r) Q E s:=by
 rcases g with ⟨kvs,k,e,ey,l,eH⟩|⟨kvs,k,b,e,ey,eb,l,eH⟩
 ·subst ey eH
  obtain⟨z,hd,vs,rel,dd⟩:=dk_of I.hok e
  have hz:vs.length≤sizeLine:=by rw [←rel.length];exact z
  have hl:(putK kvs k v).length≤sizeLine:=by have:=length_putK kvs k v;omega
  refine wpAny_setItem_pairs (hsz:=hz) (kV_is ry) dd fun h' dd' hs=>h _ ?_
  have he:∃q,h'.get? a=some q:=let ⟨q,_,_,hq,_⟩:=dd';⟨q,hq⟩
  exact d_write I (by rw [e];exact True.intro) hs he (dk_new hl hd (rel.put k rv) dd')
 ·subst ey eH
  cases (show u=Value.ref b from ry)
  obtain⟨z,hd,xs,rel,dd⟩:=dt_of I.hok e
  have hz:xs.length≤sizeLine:=by rw [←Paired.length rel];exact z
  have hl:(putK kvs k v).length≤sizeLine:=by have:=length_putK kvs k v;omega
  refine wpAny_setItem_heap (hsz:=hz) (tupleKind_room_in1 hu) (key_of I.hok eb) dd fun h' dd' hs=>h _ ?_
  obtain⟨q,es,ep,hq,h2,h3,h4,_,h5⟩:=dd'
  refine d_write I (by rw [e];exact True.intro) hs ⟨q,hq⟩ ⟨hl,hd,_,(rel.put k eb rv).keeps fun c ys ec=>?_,q,es,ep,hq,h2,h3,h4,h5⟩
  rw [upd_ne (ne_of ec e (fun z=>nomatch z))]
  exact ec
end
section
variable{X:Cx}{pins:List (Addr × Obj)}{σ:St}{H:Hp}{s:Shared}{a:Addr}{kvs:List (Key × V)}{k:Key}{u:Value}{A:Around}{E:Value→Shared→Prop}
theorem d_clear{Q:Value→Shared→Prop}(I:Inv X pins σ H s)(e:H a=some (.dK kvs))(h:∀s',Inv X pins σ (upd H a (.dK [])) s'→Q .none s'):wpAny (model X.prog X.w) A (call (.builtin "dict.clear") [.ref a]) Q E s:=by
 obtain⟨z,hd,vs,rel,dd⟩:=dk_of I.hok e
 refine call_meetsIn PySem.F.slot_dict_clear dd.typeIs PySem.F.entry_dict_clear (PySem.F.args_dict_clear_1 _) (meets_dict_clear (mixKind X.prog X.w) a) ⟨vs,dd,by rw [←rel.length];exact z,fun h' dd' hs=>h _ ?_⟩
 have he:∃q,h'.get? a=some q:=let ⟨q,_,_,hq,_⟩:=dd';⟨q,hq⟩
 exact d_write (t':=s.toks) I (by rw [e];exact True.intro) hs he (dk_new (Nat.zero_le _) hd .nil dd')
end
def NoSl(i:Expr):Prop:=∀ov iv,subscripted i false ov iv=operate [ov,iv] (getItem ov iv)
theorem subD_of{prog:Program}{w:World}{A:Around}{E:Value→Shared→Prop}{s:Shared}{env:Env}{value slice:Expr}{pos:Pos}{T id:String}{Q:Value→Shared→Prop}
  (hl:typeLookup (.type T) "__getitem__"=pure (some (.builtin id))) (hs:NoSl slice)
  (h:wpAny (model prog w) A (eval value env) (fun o s₁=>wpAny (model prog w) A (eval slice env) (fun i s₂=>s₂.TypeIs o T∧wpAny (model prog w) A (getItem o i) Q E s₂) E s₁) E s) :
  wpAny (model prog w) A (eval (.Subscript value slice pos) env) Q E s:=by
 refine Subscript_ (wpAny_mono h (fun o s₁ h₁=>wpAny_mono h₁ (fun i s₂ h₂=>?_) fun _ _ x=>x) fun _ _ x=>x)
 obtain⟨hT,h₂⟩:=h₂
 unfold subscriptTail
 refine wpAny_bind ?_
 rw [getitemInPython_of_ne hT.not_modules]
 refine wpAny_bind (wpAny_specialOf hT hl ?_)
 have fin:wpAny (model prog w) A (subscripted slice false o i) (fun r s₃=>wpAny (model prog w) A (letTemporaryGo value o r >>= fun _=>pure r) Q E s₃) E s₂:=by
  rw [hs o i]
  exact wpAny_operating (wpAny_mono h₂ (fun r s₃ h₃=>wpAny_bind (wpAny_letTemporaryGo (wpAny_pure h₃))) fun _ _ x=>x)
 first
  |exact wpAny_pure (wpAny_bind fin)
  |exact wpAny_bind (wpAny_pure (wpAny_bind fin))
  |exact wpAny_bind fin
theorem dict_typeIs{X:Cx}{pins:List (Addr × Obj)}{σ:St}{H:Hp}{s:Shared}{a:Addr}{y:V}{o:Option V}(I:Inv X pins σ H s)(g:DGet H a y o):s.TypeIs (.ref a) "dict":=by
 rcases g with ⟨kvs,k,e,_,_⟩|⟨kvs,k,b,e,_,_,_⟩
 ·obtain⟨_,_,vs,_,dd⟩:=dk_rd I.hok e
  exact dd.typeIs
 ·obtain⟨_,_,xs,_,dd⟩:=dt_rd I.hok e
  exact dd.typeIs
def tDGet(td ty:TE):TE:=fun σ H Q=>td σ H fun x H1=>ty σ H1 fun y H2=>∃a v,x=.ref a∧DGet H2 a y (some v)∧Q v H2
def tDIn(ty td:TE):TE:=fun σ H Q=>ty σ H fun y H1=>td σ H1 fun x H2=>∃a o,x=.ref a∧DGet H2 a y o∧Q (.bl o.isSome) H2
def tDNotIn(ty td:TE):TE:=fun σ H Q=>ty σ H fun y H1=>td σ H1 fun x H2=>∃a o,x=.ref a∧DGet H2 a y o∧Q (.bl (!o.isSome)) H2
def sDPut(td ty tv:TE):TS:=fun D σ H=>tv σ H fun v H1=>td σ H1 fun x H2=>ty σ H2 fun y H3=>∃a H4,x=.ref a∧DPut H3 a y v H4∧D.nx σ H4
section
variable{X:Cx}{o i e value:Expr}{pos pos' tpos:Pos}{td ty tv:TE}
theorem pe_dget(hu:X.A.units+1 < cLine)(ho:PE X o td)(hi:PE X i ty)(hs:NoSl i):PE X (.Subscript o i pos) (tDGet td ty):=by
 intro pins s σ H Q I h
 refine subD_of PySem.F.slot_dict_getitem.lookup hs (thn (ho pins s σ H _ I h) fun u s1 ⟨x,H1,I1,rx,q1⟩=>thn (hi pins s1 σ H1 _ I1 q1) fun iv s2 ⟨y,H2,I2,ry,a,v,ex,g,q2⟩=>?_)
 subst ex
 obtain rfl:u=Value.ref a:=rx
 exact⟨dict_typeIs I2 g,d_getItem hu I2 g ry fun w' s3 I3 rw'=>⟨v,H2,I3,rw',q2⟩⟩
theorem pc_din(hu:X.A.units+1 < cLine)(hi:PE X i ty)(ho:PE X o td):PC X .In i o (tDIn ty td):=by
 intro pins s σ H Q I h
 refine thn (hi pins s σ H _ I h) fun iv s1 ⟨y,H1,I1,ry,q1⟩=>thn (ho pins s1 σ H1 _ I1 q1) fun u s2 ⟨x,H2,I2,rx,a,ov,ex,g,q2⟩=>?_
 subst ex
 obtain rfl:u=Value.ref a:=rx
 exact d_in hu I2 g ry fun s3 I3=>⟨.bl ov.isSome,H2,I3,rfl,q2⟩
theorem pc_dnotin(hu:X.A.units+1 < cLine)(hi:PE X i ty)(ho:PE X o td):PC X .NotIn i o (tDNotIn ty td):=by
 intro pins s σ H Q I h
 refine thn (hi pins s σ H _ I h) fun iv s1 ⟨y,H1,I1,ry,q1⟩=>thn (ho pins s1 σ H1 _ I1 q1) fun u s2 ⟨x,H2,I2,rx,a,ov,ex,g,q2⟩=>?_
 subst ex
 obtain rfl:u=Value.ref a:=rx
 exact d_notIn hu I2 g ry fun s3 I3=>⟨.bl (!ov.isSome),H2,I3,rfl,q2⟩
theorem ps_dput(hu:X.A.units+1 < cLine)(ho:PE X o td)(hi:PE X i ty)(hv:PE X value tv)(hs:swapsWith value (some (.Subscript o i pos')) pos.line X.env=pure false) :
  PS X (.Assign [.Subscript o i pos'] value pos) (sDPut td ty tv):=by
 intro pins s σ H D I h
 refine wpAny_Assign_Subscript (thn (hv pins s σ H _ I h) fun r s1 ⟨v,H1,I1,rv,q1⟩=>thn (ho pins s1 σ H1 _ I1 q1) fun u s2 ⟨x,H2,I2,rx,q2⟩=>thn (hi pins s2 σ H2 _ I2 q2) fun iv s3 ⟨y,H3,I3,ry,a,H4,ex,g,q3⟩=>?_) hs
 subst ex
 obtain rfl:u=Value.ref a:=rx
 exact d_setItem hu I3 g ry rv fun s4 I4=>⟨σ,H4,I4,q3⟩
end
theorem dk_empty{P:Program}{w:World}{H:Hp}(h:Heap)(hb:sysModules < h.objs.size):ObjOk P w H (h.push { cls:=.type "dict",data:=.dict #[] }) h.objs.size (.dK []) :=
 ⟨Nat.zero_le _,beq_eq_false_iff_ne.mpr (Ne.symm (Nat.ne_of_lt hb)),[],.nil,Heap.DictOf.new h⟩
theorem dt_empty{P:Program}{w:World}{H:Hp}(h:Heap)(hb:sysModules < h.objs.size):ObjOk P w H (h.push { cls:=.type "dict",data:=.dict #[] }) h.objs.size (.dT []) :=
 ⟨Nat.zero_le _,beq_eq_false_iff_ne.mpr (Ne.symm (Nat.ne_of_lt hb)),[],.nil,_,#[],0,Heap.get?_push_size _ rfl,⟨rfl,rfl,rfl⟩,rfl,rfl,List.nodup_nil⟩
def tDNewK:TE:=fun _ H Q=>∀p,H p=none→Q (.ref p) (upd H p (.dK []))
def tDNewT:TE:=fun _ H Q=>∀p,H p=none→Q (.ref p) (upd H p (.dT []))
section
variable{X:Cx}{pos:Pos}
theorem pe_dnewK:PE X (.Dict [] [] pos) tDNewK:=fun pins s σ H Q I h =>
 wpAny_Dict_empty ⟨.ref s.heap.objs.size,_,I.laid (a:=s.heap.objs.size) (o:=.dK []) (t':=s.toks) (fun _ _ q=>Heap.get?_push_of_some _ q) (Nat.le_refl _) (dk_empty s.heap I.big),rfl,h _ (I.hok.fresh (Nat.le_refl _))⟩
theorem pe_dnewT:PE X (.Dict [] [] pos) tDNewT:=fun pins s σ H Q I h =>
 wpAny_Dict_empty ⟨.ref s.heap.objs.size,_,I.laid (a:=s.heap.objs.size) (o:=.dT []) (t':=s.toks) (fun _ _ q=>Heap.get?_push_of_some _ q) (Nat.le_refl _) (dt_empty s.heap I.big),rfl,h _ (I.hok.fresh (Nat.le_refl _))⟩
end
def tPairs:List (TE × TE)→St→Hp→(List (V × V)→Hp→Prop)→Prop
 |[],_,H,Q=>Q [] H
 |(tk,tv)::r,σ,H,Q=>tk σ H fun x H1=>tv σ H1 fun y H2=>tPairs r σ H2 fun ps H3=>Q ((x,y)::ps) H3
abbrev VV:List (V × V)→List (Value × Value)→Prop:=Paired fun p q=>RelV p.1 q.1∧RelV p.2 q.2
def PPs(X:Cx)(pos:Pos)(keys:List (Option Expr))(values:List Expr)(trs:List (TE × TE)):Prop :=
 ∀(pins:List (Addr × Obj)) (s:Shared) (σ:St) (H:Hp) (Q:List (V × V)→Hp→Prop),Inv X pins σ H s→tPairs trs σ H Q →
  wpAny (model X.prog X.w) X.A (evalPairs (pairTrees keys values X.env pos)) (fun vs s'=>∃ps H',Inv X pins σ H' s'∧VV ps vs∧Q ps H') X.xe s
theorem pps_nil{X:Cx}{pos:Pos}:PPs X pos [] [] []:=fun pins s σ H Q I h=>pairTrees_nil_walk ⟨[],H,I,.nil,h⟩
theorem pps_cons{X:Cx}{pos:Pos}{k v:Expr}{ks:List (Option Expr)}{vs:List Expr}{tk tv:TE}{trs:List (TE × TE)}(hk:PE X k tk)(hv:PE X v tv)(hr:PPs X pos ks vs trs) :
  PPs X pos (some k::ks) (v::vs) ((tk,tv)::trs):=fun pins s σ H Q I h =>
 pairTrees_cons_walk (thn (hk pins s σ H _ I h) fun u s1 ⟨x,H1,I1,rx,q1⟩=>thn (hv pins s1 σ H1 _ I1 q1) fun w2 s2 ⟨y,H2,I2,ry,q2⟩ =>
  thn (hr pins s2 σ H2 _ I2 q2) fun ws s3 ⟨ps,H3,I3,rel,q3⟩=>⟨(x,y)::ps,H3,I3,.cons ⟨rx,ry⟩ rel,q3⟩)
def mergeK(kvs more:List (Key × V)):List (Key × V):=more.foldl (fun acc kv=>putK acc kv.1 kv.2) kvs
theorem KV.merge:∀{more:List (Key × V)} {rs:List (Key × Value)} {kvs:List (Key × V)} {vs:List (Key × Value)},KV more rs→KV kvs vs→KV (mergeK kvs more) (merged vs rs):=by
 intro more rs kvs vs r
 unfold KV at r
 induction r generalizing kvs vs with
 |nil=>intro q;exact q
 |@cons p q ps qs h t ih =>
  intro r0
  have e:KV (putK kvs p.1 p.2) (stored vs q.1 q.2):=by
   have:=r0.put p.1 h.2
   rw [←h.1];exact this
  exact ih e
theorem length_mergeK:∀(more kvs:List (Key × V)),(mergeK kvs more).length≤kvs.length+more.length
 |[],kvs=>by show kvs.length≤kvs.length+0;omega
 |p::r,kvs=>by
  have h1:=length_mergeK r (putK kvs p.1 p.2)
  have h2:=length_putK kvs p.1 p.2
  show(mergeK (putK kvs p.1 p.2) r).length≤_
  rw [List.length_cons];omega
theorem carries_of{P:Program}{w:World}:∀{kvs:List (Key × V)} {ws:List (Value × Value)},VV (kvs.map fun kv=>(kV kv.1,kv.2)) ws→∃rs,Carries (mixKind P w) ws rs∧KV kvs rs
 |[],_,r=>by rw [List.map_nil] at r;cases r;exact⟨[],True.intro,.nil⟩
 |p::kvs,_,r=>by
  rw [List.map_cons] at r
  cases r with
  |@cons a b as bs h t =>
   obtain⟨rs,c,q⟩:=carries_of (P:=P) (w:=w) t
   obtain⟨b1,b2⟩:=b
   exact⟨(p.1,b2)::rs,⟨kV_is h.1,rfl,c⟩,.cons ⟨rfl,h.2⟩ q⟩
def tDisp(trs:List (TE × TE)):TE:=fun σ H Q=>∀p,H p=none→tPairs trs σ (upd H p (.dK [])) fun ps H2=>H2 p=some (.dK [])∧∃kvs:List (Key × V),ps=kvs.map (fun kv=>(kV kv.1,kv.2))∧kvs.length≤15∧Q (.ref p) (upd H2 p (.dK (mergeK [] kvs)))
theorem pe_disp{X:Cx}{pos:Pos}{keys:List (Option Expr)}{values:List Expr}{trs:List (TE × TE)}(h:PPs X pos keys values trs)(hall:keys.all (·.isSome)=true)(hl:keys.length=values.length)(h0:keys≠[])
  (h15:keys.length≤15):PE X (.Dict keys values pos) (tDisp trs):=by
 intro pins s σ H Q I q
 have hn:=I.hok.fresh (Nat.le_refl s.heap.objs.size)
 have I1:=I.laid (a:=s.heap.objs.size) (o:=.dK []) (h':=s.heap.push { cls:=.type "dict",data:=.dict #[] }) (t':=s.toks) (fun _ _ q=>Heap.get?_push_of_some _ q) (Nat.le_refl _) (dk_empty s.heap I.big)
 refine wpAny_Dict_walk (knd:=mixKind X.prog X.w) hall hl h0 h15 (thn (h pins _ σ _ _ I1 (q _ hn)) fun ws s2 ⟨ps,H2,I2,rel,e,kvs,ep,lk,q2⟩=>?_)
 subst ep
 obtain⟨rs,c,rk⟩:=carries_of (P:=X.prog) (w:=X.w) rel
 obtain⟨z,hd,vs0,r0,dd⟩:=dk_of I2.hok e
 cases r0
 refine⟨rs,c,dd,fun h' dd' hs=>⟨.ref s.heap.objs.size,_,?_,rfl,q2⟩⟩
 have hz:(mergeK [] kvs).length≤sizeLine:=by
  have h1:=length_mergeK kvs []
  rw [List.length_nil] at h1
  rw [sizeLine_eq];omega
 have he:∃q,h'.get? s.heap.objs.size=some q:=let ⟨q,_,_,hq,_⟩:=dd';⟨q,hq⟩
 exact d_write I2 (by rw [e];exact True.intro) hs he (dk_new hz hd (rk.merge .nil) dd')
structure M1(X:Cx)(o:Expr)(m:Str)(apos:Pos)(e:Expr)(cpos:Pos):Prop where
 base:attributeBase o m X.env (eval o X.env)=eval o X.env
 few:((backTo cpos (starEach [e] X.env)).all (fun x=>!x.1)&&(backToKw cpos (keywordEach [] X.env)).all (fun x=>x.1.isSome)
  && decide (([e]:List Expr).length+([]:List Keyword).length+(if ([]:List Keyword).isEmpty then 0 else 1) < 30))=true
 line:(apos.endLine==cpos.line)=true
 trees:backTo cpos (starEach [e] X.env)=[(false,eval e X.env)]
structure M2(X:Cx)(o:Expr)(m:Str)(apos:Pos)(e f:Expr)(cpos:Pos):Prop where
 base:attributeBase o m X.env (eval o X.env)=eval o X.env
 few:((backTo cpos (starEach [e,f] X.env)).all (fun x=>!x.1)&&(backToKw cpos (keywordEach [] X.env)).all (fun x=>x.1.isSome)
  && decide (([e,f]:List Expr).length+([]:List Keyword).length+(if ([]:List Keyword).isEmpty then 0 else 1) < 30))=true
 line:(apos.endLine==cpos.line)=true
 trees:backTo cpos (starEach [e,f] X.env)=[(false,eval e X.env),(false,eval f X.env)]
def IsD(H:Hp)(a:Addr):Prop:=(∃kvs,Rd H a (.dK kvs))∨∃kvs,Rd H a (.dT kvs)
theorem isD_at{X:Cx}{pins:List (Addr × Obj)}{σ:St}{H:Hp}{s:Shared}{a:Addr}(I:Inv X pins σ H s)(d:IsD H a) :
  s.TypeIs (.ref a) "dict"∧(∀b,Value.ref a=.ref b→∃ob,s.heap.get? b=some ob∧ob.dict=none)∧(a==sysModules)=false:=by
 rcases d with ⟨kvs,e⟩|⟨kvs,e⟩
 ·obtain⟨_,hd,vs,_,dd⟩:=dk_rd I.hok e
  refine⟨dd.typeIs,fun b q=>?_,hd⟩
  cases q
  obtain⟨ob,_,_,h1,h2,_⟩:=dd
  exact⟨ob,h1,h2.2.1⟩
 ·obtain⟨_,hd,xs,_,dd⟩:=dt_rd I.hok e
  refine⟨dd.typeIs,fun b q=>?_,hd⟩
  cases q
  obtain⟨ob,_,_,h1,h2,_⟩:=dd
  exact⟨ob,h1,h2.2.1⟩
section
variable{X:Cx}{pins:List (Addr × Obj)}{σ:St}{H:Hp}{s:Shared}{a:Addr}{y d:V}{u r:Value}{o:Option V}{A:Around}{E:Value→Shared→Prop}
theorem d_get2{Q:Value→Shared→Prop}(hu:A.units+1 < cLine)(I:Inv X pins σ H s)(g:DGet H a y o)(ry:RelV y u)(rd:RelV d r)(h:∀w' s',Inv X pins σ H s'→RelV (o.getD d) w'→Q w' s') :
  wpAny (model X.prog X.w) A (call (.builtin "dict.get") [.ref a,u,r]) Q E s:=by
 rcases g with ⟨kvs,k,e,ey,l⟩|⟨kvs,k,b,e,ey,eb,l⟩
 ·subst ey
  obtain⟨z,hd,vs,rel,dd⟩:=dk_rd I.hok e
  refine call_meetsIn PySem.F.slot_dict_get dd.typeIs PySem.F.entry_dict_get (PySem.F.args_dict_get_3 _ _ _) (meets_dict_get_default (mixKind X.prog X.w) a (kV_is ry) hd r) ⟨_,dd.mapOf,h _ _ (I.tok _) ?_⟩
  rw [l]
  exact(rel.val k).getD rd
 ·subst ey
  cases (show u=Value.ref b from ry)
  obtain⟨z,hd,xs,rel,dd⟩:=dt_rd I.hok e
  refine call_meetsIn PySem.F.slot_dict_get dd.typeIs PySem.F.entry_dict_get (PySem.F.args_dict_get_3 _ _ _) (meetsH_dict_get_default (tupleKind (mixKind X.prog X.w)) a b hd r) ⟨tupleKind_room_in1 hu,k,xs,key_of I.hok eb,dd,h _ _ (I.tok _) ?_⟩
  rw [l]
  exact(rel.val k).getD rd
end
def tDGet2(td ty tx:TE):TE:=fun σ H Q=>td σ H fun x H1=>∃a,x=.ref a∧IsD H1 a∧ty σ H1 fun y H2=>tx σ H2 fun z H3=>∃o,DGet H3 a y o∧Q (o.getD z) H3
section
variable{X:Cx}{o e f:Expr}{apos cpos:Pos}{td ty tx:TE}
theorem pe_dget2(hu:X.A.units+1 < cLine)(ho:PE X o td)(he:PE X e ty)(hf:PE X f tx) (m:M2 X o "get" apos e f cpos):PE X (.Call (.Attribute o "get" apos) [e,f] [] cpos) (tDGet2 td ty tx):=by
 intro pins s σ H Q I h
 refine wpAny_Call_method m.base m.few m.line PySem.F.plainAttrs_dict PySem.F.slot_dict_get PySem.F.type_dict_get (thn (ho pins s σ H _ I h) fun u s1 ⟨x,H1,I1,rx,a,ex,d,q1⟩=>?_)
 subst ex
 obtain rfl:u=Value.ref a:=rx
 obtain⟨t1,t2,_⟩:=isD_at I1 d
 refine⟨t1,t2,?_⟩
 rw [m.trees]
 refine Calls.callWith_builtin rfl (Calls.evalArgs_plain (Calls.spliced_cons (thn (he pins s1 σ H1 _ I1 q1) fun iv s2 ⟨y,H2,I2,ry,q2⟩ =>
  Calls.spliced_cons (thn (hf pins s2 σ H2 _ I2 q2) fun fv s3 ⟨z,H3,I3,rz,ov,g,q3⟩=>Calls.spliced_nil ?_))))
 exact d_get2 hu I3 g ry rz fun w' s4 I4 rw'=>⟨_,H3,I4,rw',q3⟩
end
section
variable{X:Cx}{pins:List (Addr × Obj)}{σ:St}{H:Hp}{s:Shared}{a:Addr}{kvs:List (Key × V)}{A:Around}{E:Value→Shared→Prop}
end
section
variable{X:Cx}{pins:List (Addr × Obj)}{σ:St}{H:Hp}{s:Shared}{a:Addr}{y:V}{u:Value}{A:Around}{E:Value→Shared→Prop}
end
end L2
namespace Att
open PySem PySem.W PySem.Calls PyProof.Rows
theorem ints_of_wellAll{P:Params}{h:Heap}:∀(ns:List Int) (vs:List Value),WellAll P h vs (ns.map WData.int)→IntsAre vs ns:=by
 intro ns
 induction ns with
 |nil =>
  intro vs w
  rw [List.map_nil] at w
  cases w
  exact .nil
 |cons n ns ih =>
  intro vs w
  rw [List.map_cons] at w
  cases w with
  |cons a b =>
   cases a
   exact .cons _ _ (ih _ b)
theorem script_of{l:OpenLaw}{n:Nat}(hn:l.most=some n){P:Params}{h:Heap}{args:List WData}{vals:List Value}
  (hpre:l.row.toRowW.claim.pre args=true) (hwl:WellAll P h vals args) :
  ∃a vs ns,vals=[Value.ref a]∧args=[WData.list (ns.map WData.int)]∧h.get? a=some { cls:=.type "list",data:=.seq vs.toArray }∧IntsAre vs ns∧ns.length≤n:=by
 have hsh:WShape.hasAll [] args [.list .int]=true:=(pre_splitW hpre).1
 have hc:l.pre.holds [] { args:=args }=true:=(pre_splitW hpre).2
 obtain⟨d,r,rfl,h1,h2⟩:=hasAllW_cons hsh
 obtain rfl:=hasAllW_nil h2
 obtain⟨xs,rfl,h3⟩:=hasW_list h1
 obtain⟨ns,rfl⟩:=items_int h3
 have hlen:ns.length≤n:=by
  unfold OpenLaw.pre at hc
  have h4:(WTm.not (.lt (.lit (.int (n:Int))) (.len (.arg 0)))).holds [] { args:=[.list (ns.map .int)] }=true:=by
   have h4:=(holds_andW hc).1
   rw [hn] at h4
   exact h4
  have h5:=condW_of h4 (w_not (w_lt w_lit (w_len_list (w_arg rfl))))
  rw [List.length_map] at h5
  refine Nat.le_of_not_lt fun q=>?_
  have q':(n:Int) < ((ns.length:Nat):Int):=by omega
  first
   |(rw [decide_eq_true q'] at h5;exact absurd h5 (by decide))
   |(simp at h5;omega)
 cases hwl with
 |cons w1 w2 =>
  cases w2
  cases w1 with
  |list ho hall=>exact⟨_,_,ns,rfl,rfl,ho,ints_of_wellAll ns _ hall,hlen⟩
theorem post_true(l:OpenLaw)(args:List WData):l.row.toRowW.claim.post args (.bool true) args=true :=
 postW_of (r:=l.row.toRowW) (X:=(true==true))
  (show WShape.has [] (.bool true) .bool=true by first|rfl|decide|simp [WShape.has,WShape.arms,WShape.armsAll])
  (show(WTm.eq .res (.lit (.bool true))).value [] { args:=args,res:=some (.bool true),after:=args }=some (.bool (true==true)) from w_eq_bool (w_res rfl) w_lit) rfl
theorem attach_call{l:OpenLaw}{n:Nat}{q:Program}{loose:List Str}{XP:(Str→Option Value)→Heap→Prop}{YP:World→Heap→Prop}{d:DefRec}
  (hn:l.most=some n) (hdf:d.params.defaults=[])
  (call:∀(w:World) (s₀ s₁:Shared) (mg mb:Str→Option Value) (fa:Addr) (o:Obj) (pm cd doc:Value) (a:Addr) (vs:List Value) (ns:List Int),
   Ground q loose [] XP w s₀ mg mb s₁.heap→YP w s₁.heap →
   s₁.heap.get? fa=some o→o.data=.func (docDef d.name d.params d.body d.scope pm cd doc)→s₁.heap.CodeRec cd d.name→mg d.name=some (.ref fa) →
   s₁.heap.get? a=some { cls:=.type "list",data:=.seq vs.toArray }→IntsAre vs ns→ns.length≤n→s₁.gens=#[] →
   codeAny (model l.prog w) callerA (.call (.ref fa) ⟨[.ref a],[]⟩) (fun r s'=>r=.ok (.ret (.bool true))∧OldK s₁.heap s'.heap∧s'.os=s₁.os∧AllBare s'.gens) s₁) :
  WalkO q loose XP YP l.row.toRowW d [] (fun f vs=>PySem.call f vs):=by
 intro w s₀ s₁ mg mb G Y fa o pm cd doc dV kV ho hd hcd hD hmg hg args vals as hpre hlay hrd hwl hlo
 obtain rfl:dV=.none:=Dflts.none hD hdf
 obtain rfl:kV=.none:=Dflts.noKw hD
 obtain⟨a,vs,ns,rfl,rfl,hobj,hints,hlen⟩:=script_of hn hpre hwl
 refine enter_call (codeAny_mono (call w s₀ s₁ mg mb fa o pm cd doc a vs ns G Y ho (fd_plain hd) hcd hmg hobj hints hlen hg) fun r s' hq=>?_)
 obtain⟨rfl,h2,h3,h4⟩:=hq
 exact⟨.inl ⟨.bool true,.bool true,[],rfl,fun _=>rfl,.bool true,post_true l _,fun _=>⟨List.Pairwise.nil,fun _ hm=>(nomatch hm)⟩⟩,h2,h3,h4⟩
section
variable{prog:Program}{w:World}{A:Around}{E:Value→Shared→Prop}{s:Shared}{K:Frag}
def ledger(h:Heap)(L d:Addr):List (Addr × Obj):=(List.range h.objs.size).filterMap fun a=>if a=L∨a=d then none else (h.get? a).map fun o=>(a,o)
end
end Att
namespace L2
open PySem PySem.Spec PyProof.Rows
theorem vals_ints:∀{vs:List Value} {ns:List Int},IntsAre vs ns→Vals (ns.map V.int) vs
 |_,_,.nil=>.nil
 |_,_,.cons n t h=>.cons ⟨t,rfl⟩ (vals_ints h)
def Only(H:Hp):Prop:=∀b,H b=none∨∃o xs,H b=some (.frz o (.lst xs))
theorem law_call{P:Program}{w:World}{K:PySem.W.Frag}{mg mb:Str→Option Value}{CX:CXT}{k:Nat}{fa a:Addr}{fd:FuncData}{x:Str}{sp:Sp}{s₁:Shared}{vs:List Value}{ns:List Int}
  (KX:K.In s₁.heap) (hns:s₁.heap.Ns mainGlobals mg) (hb:s₁.heap.Ns builtinsNs mb) (hbb:∀x:Str,x≠"__name__"→mb x=bootBuiltins x) (hlim:s₁.heap.NoLimit) (hg:s₁.gens=#[])
  (ha:s₁.heap.get? a=some { cls:=.type "list",data:=.seq vs.toArray }) (hi:IntsAre vs ns) (hl:ns.length≤sizeLine) (hr:Room k callerA)
  (F:∀base:Heap,K.In base→base.Ns mainGlobals mg→FnOk P w K mg base CX k fa fd [x] sp) (hbind:∀(s:Shared) (u:Value),BindsTo s fd ⟨[u],[]⟩ [(x,u)])
  (hsp:∀H:Hp,Only H→SqL K H a (ns.map V.int)→sp [.ref a] H (fun v _=>v=.bl true) fun _ _ _=>False)
  (hCX:∀H e s',CX [] H s₁ (fun _ _ _=>False) e s'→False) :
  codeAny (model P w) callerA (.call (.ref fa) ⟨[.ref a],[]⟩) (fun r s'=>r=.ok (.ret (.bool true))∧OldK s₁.heap s'.heap∧s'.os=s₁.os∧AllBare s'.gens) s₁:=by
 have rv:=vals_ints hi
 have lenV:=hi.length
 have core:∀H:Hp,Only H→SqL K H a (ns.map V.int)→HOk P w H s₁.heap→(∀b,H b≠none→b=a)→(H a≠none→K.lookup a=none) →
   codeAny (model P w) callerA (.call (.ref fa) ⟨[.ref a],[]⟩) (fun r s'=>r=.ok (.ret (.bool true))∧OldK s₁.heap s'.heap∧s'.os=s₁.os∧AllBare s'.gens) s₁:=by
  intro H hO hS hok hA hK
  have base_of:∀{b:Addr} {o:Obj},s₁.heap.get? b=some o→H b=none→(hidT s₁.heap H).get? b=some o:=fun e n=>hidT_get e n
  have noA:∀{b:Addr} {o:Obj} {es:Array DictEntry} {ep:Nat},s₁.heap.get? b=some o→o.data=.dict es ep→H b=none:=fun {b o es ep} e d=>by
   cases q:H b with
   |none=>rfl
   |some u =>
    have e':b=a:=hA b (by rw [q];simp)
    subst e'
    rw [ha] at e;cases e
    have d':Data.seq vs.toArray _=Data.dict es ep:=d
    cases d'
  have nsK:∀{b:Addr} {m:Str→Option Value},s₁.heap.Ns b m→(hidT s₁.heap H).Ns b m:=fun {b m} ⟨o,es,ep,e,d,r⟩=>⟨o,es,ep,base_of e (noA e d),d,r⟩
  have hKb:K.In (hidT s₁.heap H):=fun b o e=>base_of (KX b o e) (by
   cases q:H b with
   |none=>rfl
   |some u =>
    have e':b=a:=hA b (by rw [q];simp)
    subst e'
    rw [hK (by rw [q];simp)] at e;cases e)
  have hM:Mod K mg (hidT s₁.heap H):=⟨hKb,nsK hns,⟨mb,nsK hb,hbb⟩,let ⟨mc,h1,h2⟩:=hlim;⟨mc,nsK h1,h2⟩⟩
  have e0:Env0 P w K mg (hidT s₁.heap H) callerA [] s₁ H:=⟨rfl,hM,fun b o e=>of_hidT e,Nat.le_of_eq (hidT_size _ _),trivial,fun b hb=>absurd (show b∈([]:List Addr) from hb) (by simp),hok,.of_eq hg⟩
  refine codeAny_mono ((F _ hKb (nsK hns)).run callerA [] s₁ H ⟨[.ref a],[]⟩ [.ref a] [.ref a] _ _ hr e0 (hbind s₁ (.ref a)) (.cons rfl .nil) (hsp H hO hS)) fun r s' h=>?_
  cases r with
  |error e=>exact(hCX H e s' h).elim
  |ok fl =>
   cases fl with
   |next=>exact False.elim h
   |brk=>exact False.elim h
   |cont=>exact False.elim h
   |ret u =>
    obtain⟨v,H',os,bare,un,hok',r',q⟩:=h
    have q':v=.bl true:=q
    subst q'
    obtain rfl:u=Value.bool true:=r'
    refine⟨rfl,OldK.of_keep fun b o e=>?_,os,bare⟩
    cases q:H b with
    |none=>exact un.keep b o e q (by intro z;exact absurd (show b∈([]:List Addr) from z) (by simp)) (by simp)
    |some u =>
     rcases hO b with z|⟨ob,xs,z⟩
     ·rw [q] at z;cases z
     ·have z2:=un.frzs b ob _ z
      obtain⟨e1,_⟩:=hok b _ z
      obtain⟨e2,_⟩:=hok' b _ z2
      rw [e] at e1;cases e1
      exact e2
 cases hk:K.lookup a with
 |some o =>
  have e:=KX a o hk
  rw [ha] at e
  cases e
  refine core (fun _=>none) (fun _=>.inl rfl) (.inr ⟨_,vs.toArray,_,hk,rfl,rfl,rfl,by rw [List.size_toArray,lenV];exact hl,by simpa using rv⟩) (fun b u z=>by have z':(none:Option HO)=some u:=z;cases z') (fun b z=>absurd rfl z) fun z=>absurd rfl z
 |none =>
  refine core (fun b=>if b=a then some (.frz { cls:=.type "list",data:=.seq vs.toArray } (.lst (ns.map V.int))) else none) (fun b=>?_) (.inl (.inr ⟨{ cls:=.type "list",data:=.seq vs.toArray },if_pos rfl⟩)) (fun b u z=>?_) (fun b z=>?_) fun _=>hk
  ·by_cases hb:b=a
   ·exact .inr ⟨_,_,if_pos hb⟩
   ·exact .inl (if_neg hb)
  ·by_cases hb:b=a
   ·have z':=(if_pos hb).symm.trans z
    cases z'
    subst hb
    exact⟨ha,by rw [List.length_map];exact hl,vs,_,rv,ha⟩
   ·have z':=(if_neg hb).symm.trans z
    cases z'
  ·by_cases hb:b=a
   ·exact hb
   ·exact absurd (if_neg hb) z
end L2
namespace L2
open PySem PySem.Spec PyProof.Rows
abbrev KOf{K:PySem.W.Frag}{h:Heap}(_:K.In h):PySem.W.Frag:=K
theorem walk_of{l:PySem.W.OpenLaw}{n k:Nat}{q:Program}{loose:List Str}{XP:(Str→Option Value)→Heap→Prop}{YP:World→Heap→Prop}{d:DefRec}{K:Params→PySem.W.Frag}{CX:World→CXT}{sp:World→Sp}{x:Str}
  (hn:l.most=some n) (hn2:n≤sizeLine) (hdf:d.params.defaults=[]) (hr:Room k callerA)
  (hY:∀(w:World) (h:Heap),YP w h→(K w.params).In h)
  (F:∀(w:World) (mg:Str→Option Value) (fa:Addr) (h:Heap),(K w.params).In h→h.Ns mainGlobals mg→mg d.name=some (.ref fa) →
   ∃fd:FuncData,(∀(s:Shared) (u:Value),BindsTo s fd ⟨[u],[]⟩ [(x,u)]) ∧
    ∀base:Heap,(K w.params).In base→base.Ns mainGlobals mg→FnOk l.prog w (K w.params) mg base (CX w) k fa fd [x] (sp w))
  (hsp:∀(w:World) (H:Hp) (a:Addr) (ns:List Int),ns.length≤n→Only H→SqL (K w.params) H a (ns.map V.int)→sp w [.ref a] H (fun v _=>v=.bl true) fun _ _ _=>False)
  (hCX:∀(w:World) (H:Hp) (s:Shared) (e:Value) (s':Shared),CX w [] H s (fun _ _ _=>False) e s'→False) :
  PySem.W.WalkO q loose XP YP l.row.toRowW d [] (fun f vs=>PySem.call f vs):=by
 refine Att.attach_call hn hdf fun w s₀ s₁ mg mb fa o pm cd doc a vs ns G Y ho hd hcd hmg hobj hints hlen hg=>?_
 have KX:=hY w _ Y
 obtain⟨fd,hb,hF⟩:=F w mg fa _ KX G.T.g hmg
 exact law_call KX G.T.g G.T.b G.T.builtins G.T.nolimit hg hobj hints (Nat.le_trans hlen hn2) hr hF hb (fun H hO hS=>hsp w H a ns hlen hO hS) fun H e s'=>hCX w H s₁ e s'
end L2
/- THE LAST THEOREM (shape;LID,My.* are yours):
   My.Adr: a structure of the addresses that your layer names (classes,functions);My.Txt K t: a structure (Prop) of the equations over K;
   My.txt_mk:{K} {implicit addresses ..} (e1:nsIn K mainGlobals "law"=some (some (.ref f))) (e2:K.lookup f=some ⟨oc,od,.func (fnOf "law" "law" params body scope dV kV doc pm an cdv ct),sl⟩) (e3:codeIn K cdv "law"=true) ..:∃t,My.Txt K t
set_option maxRecDepth 100000 in
set_option maxHeartbeats 0 in
theorem PySem.Challenge.cw_LID_holds : PySem.Challenge.rw_LID.Holds := by
 w_on;o_law;k_head;(case hw=>w_witness2)
 k_fill
 refine L2.walk_of (l:=PySem.Challenge.rw_LID) (n:=63) (k:=40) (x:="script") (CX:=fun w=>..) (sp:=fun _=>My.sp_law) rfl (by decide) rfl ⟨rfl,by decide,by decide⟩ (fun w h Y=>PySem.W.kIn_of Y) ?F ?S ?C
 case F =>
  intro w mg fa h KX G hmg
  have T:∃t,My.Txt (L2.KOf KX) t:=by
   dsimp only [L2.KOf]                          -- K must stand as «<heap const> w.params» for k_is
   refine' My.txt_mk ?e1 ?e2 ?e3 ..
   (case e1=>PySem.W.k_is)                    -- in the order: a name -> its address -> its object -> its parts
   (case e2=>PySem.W.k_is)
   ..
  obtain⟨t,T⟩:=T
  have e0:=hmg.symm.trans (PySem.W.mg_of KX G T.law)
  cases e0                                       -- fa is the law's own address
  exact⟨_,fun s u=>.of_eq rfl,fun base kb nb=>My.law_fn T kb nb⟩     -- if «.of_eq rfl» comes too early: refine' ⟨_,?b,fun base kb nb=>My.law_fn T kb nb⟩;exact fun s u=>.of_eq rfl
 case S=>exact fun w H a ns hl hO hS=>..
 case C=>exact ..
(the tactic k_is has no namespace: write k_is) -/
namespace L2
open PySem PySem.Spec PyProof.Rows
def inClass(s:Stmt)(j:Nat):Stmt:=match s with
 |.ClassDef _ _ _ body _ _ _ _ _ _ _=>body.getD j (.Pass ⟨0,0,0,0⟩)
 |_=>.Pass ⟨0,0,0,0⟩
def defArgs(s:Stmt):Arguments:=match s with
 |.FunctionDef _ a _ _ _ _ _ _ _ _=>a
 |_=>{ posonlyargs:=[],args:=[],vararg:=none,kwonlyargs:=[],kw_defaults:=[],kwarg:=none,defaults:=[] }
def defBody(s:Stmt):List Stmt:=match s with
 |.FunctionDef _ _ b _ _ _ _ _ _ _=>b
 |_=>[]
def defScope(s:Stmt):Scope:=match s with
 |.FunctionDef _ _ _ _ _ _ sc _ _ _=>sc
 |_=>{ kind:=.function,names:=[],isGenerator:=false,isCoroutine:=false }
abbrev CX0:CXT:=fun _ _ _ _ _ _=>False
abbrev E0:XK:=fun _ _ _=>False
theorem pass0{X:Cx}:Passes CX0 X E0:=fun _ _ _ _ _ _ _ h=>h.elim
structure Fun(K:PySem.W.Frag)(x qual:Str)(st:Stmt)(f:Addr)(fd:FuncData):Prop where
 ex:∃(oc:Value) (od:Option Addr) (kV doc pm:Value) (an:Option Addr) (cdv ct:Value) (osl:Array (Option Value)),
  fd=PySem.W.fnOf x qual (defArgs st) (defBody st) (defScope st) .none kV doc pm an cdv ct∧K.lookup f=some ⟨oc,od,.func fd,osl⟩∧PySem.W.codeIn K cdv qual=true
 kp:PySem.W.keepIn K (.ref f)=true
section
variable{P:Program}{w:World}{K:PySem.W.Frag}{mg:Str→Option Value}{base:Heap}
theorem Fun.ok{x qual:Str}{st:Stmt}{f:Addr}{fd:FuncData}{N ps:List Str}{k:Nat}{sp:Sp}(F:Fun K x qual st f fd)(S:FnScope N ps (defScope st))(len:∀vs H Q E,sp vs H Q E→vs.length=ps.length)
  (hbody:∀(cdv:Value) (A:Around) (outer:List Env) (s:Shared) (H:Hp) (vs:List V) (Q:VK) (E:XK),Room k (A.deeper (envOfC qual (defScope st) s.heap.objs.size f cdv))→sp vs H Q E →
   ∃t,PSs (cxOf CX0 P w K mg base N qual (defScope st) f cdv A outer s H E).nox (defBody st) t∧t { nx:=fun _ H'=>Q .non H',rt:=Q } (start N vs) H):FnOk P w K mg base CX0 (k+1) f fd ps sp:=by
 obtain⟨oc,od,kV,doc,pm,an,cdv,ct,osl,rfl,lk,hcd⟩:=F.ex
 refine fn_of lk hcd S len fun A outer s H vs Q E hr hsp=>?_
 obtain⟨t,h,q⟩:=hbody cdv A outer s H vs Q E hr hsp
 exact⟨t,h.nox,q⟩
theorem Fun.binds{x qual:Str}{st:Stmt}{f:Addr}{fd:FuncData}{ps:List Str}(F:Fun K x qual st f fd)
  (h:∀(kV doc pm:Value) (an:Option Addr) (cdv ct:Value) (us:List Value),us.length=ps.length→bindArgs (PySem.W.fnOf x qual (defArgs st) (defBody st) (defScope st) .none kV doc pm an cdv ct) ⟨us,[]⟩=pure (ps.zip us)):Binds K fd ps []:=by
 obtain⟨oc,od,kV,doc,pm,an,cdv,ct,osl,rfl,lk,hcd⟩:=F.ex
 exact .all (h kV doc pm an cdv ct)
theorem fun_mk{x qual:Str}{st:Stmt}{f:Addr}{oc:Value}{od an:Option Addr}{osl:Array (Option Value)}{kV doc pm cdv ct:Value}(l:K.lookup f=some ⟨oc,od,.func (PySem.W.fnOf x qual (defArgs st) (defBody st) (defScope st) .none kV doc pm an cdv ct),osl⟩)
  (c:PySem.W.codeIn K cdv qual=true) (k:PySem.W.keepIn K (.ref f)=true):Fun K x qual st f (PySem.W.fnOf x qual (defArgs st) (defBody st) (defScope st) .none kV doc pm an cdv ct):=⟨⟨oc,od,kV,doc,pm,an,cdv,ct,osl,rfl,l,c⟩,k⟩
end
theorem hu_of{A:Around}{k:Nat}(hr:Room k A):A.units+1 < cLine:=Nat.lt_of_le_of_lt (Nat.add_le_add_left (by decide:1≤64) _) hr.units
theorem small1000{n:Nat}(h:n≤1000):n < sizeLine:=Nat.lt_of_le_of_lt h (by decide)
section
variable{X:Cx}
theorem pv(i:Nat){x:Str}{pos:Pos}(hN:X.N[i]?=some x:=by rfl)(hv:Vis X.env.scope x:=by first|exact Or.inl rfl|exact Or.inr (Or.inl rfl)|exact Or.inr (Or.inr rfl)) (hd:(x==("__debug__":Str))=false:=by decide)
  (hcd:(x==("__classdict__":Str))=false:=by decide):PE X (.Name x pos) (tVar i):=pe_var hN hv hd hcd
end
theorem iteF{A B:Prop}(h:B):if false=true then A else B:=by
 rw [if_neg Bool.false_ne_true]
 exact h
theorem iteT{A B:Prop}(h:A):if true=true then A else B:=by
 rw [if_pos rfl]
 exact h
theorem ite2{c A B:Prop}[Decidable c](h1:c→A)(h2:¬c→B):if c then A else B:=by
 by_cases h:c
 ·rw [if_pos h]
  exact h1 h
 ·rw [if_neg h]
  exact h2 h
def Same(H H':Hp):Prop:=∀b o,H b=some o→H' b=some o
theorem Same.refl(H:Hp):Same H H:=fun _ _ h=>h
theorem Same.trans{H H1 H2:Hp}(a:Same H H1)(b:Same H1 H2):Same H H2:=fun c o h=>b c o (a c o h)
theorem Same.free{H H':Hp}(e:Same H H'){l:Addr}(h:H' l=Option.none):H l=Option.none:=by
 cases q:H l with
 |none=>rfl
 |some o =>
  rw [e l o q] at h
  cases h
theorem Same.seq{K:PySem.W.Frag}{H H':Hp}{a:Addr}{xs:List V}(e:Same H H')(h:SqL K H a xs):SqL K H' a xs:=by
 rcases h with (h|⟨o,h⟩)|h
 ·exact .inl (.inl (e _ _ h))
 ·exact .inl (.inr ⟨o,e _ _ h⟩)
 ·exact .inr h
end L2
namespace L2
open PySem PySem.Spec PyProof.Rows
section
variable{X:Cx}
end
end L2
namespace L2
open PySem PySem.Spec PyProof.Rows
section
variable{κ:Type}[DecidableEq κ]
end
end L2
namespace L2
open PySem PySem.Spec PyProof.Rows
section
variable{X:Cx}{tg:Expr}
end
abbrev blk(X:Cx)(N':List Str)(sc:Scope)(cl:List (Str × Addr))(s₀:Shared)(H₀:Hp)(C:Addr)(ex:List Addr):Cx :=
 { X with N:=N',s₀:=s₀,H₀:=H₀,env:=compEnvC sc cl C X.env,outer:=X.stack,ex:=ex,fn:=fun _=>false,xe:=fun _ _=>False }
structure BlkSc(X:Cx)(caps:List Str)(sc:Scope)(cl:List (Str × Addr)):Prop where
 kind:sc.kind=.function
 nocell:∀y∈sc.names,y.2≠.cell
 names:∀y∈sc.names,y.2=.local→sc.names.lookup y.1=some .local
 clos:closureFor sc X.env=pure cl
 has:(sc.names.all fun y=>y.2 != .free||(cl.lookup y.1).isSome)=true
 sub:∀y∈cl,X.env.cells.lookup y.1=some y.2
 caps:∀x∈caps,(X.env.kindOf x=some .cell∨X.env.kindOf x=some .free)∧(cl.lookup x).isSome=true∧((relabel sc X.env).names.lookup x=some .cell∨(relabel sc X.env).names.lookup x=some .free)
theorem relabel_inv{env:Env}:∀{names:List (Str × NameKind)} {x:Str} {k:NameKind},(names.map fun(n,k)=>if (k==NameKind.free&&env.scope.kind==.function&&env.kindOf n==some .cell) then (n,NameKind.cell) else (n,k)).lookup x=some k →
  ∃k',(x,k')∈names∧(k'=k∨k'=.free)
 |[],_,_,h=>by simp at h
 |(n,k0)::r,x,k,h=>by
  have h':List.lookup x ((if (k0==NameKind.free&&env.scope.kind==.function&&env.kindOf n==some .cell)=true then (n,NameKind.cell) else (n,k0))::(r.map fun(n,k)=>if (k==NameKind.free&&env.scope.kind==.function&&env.kindOf n==some .cell) then (n,NameKind.cell) else (n,k)))=some k:=h
  by_cases hx:x=n
  ·subst hx
   refine⟨k0,List.mem_cons_self,?_⟩
   by_cases hc:(k0==NameKind.free&&env.scope.kind==.function&&env.kindOf x==some .cell)=true
   ·have hf:(k0==NameKind.free)=true:=by
     rw [Bool.and_eq_true,Bool.and_eq_true] at hc
     exact hc.1.1
    exact .inr (by cases k0<;>first|rfl|exact absurd hf (by decide))
   ·rw [if_neg hc,List.lookup_cons_self] at h'
    exact .inl (Option.some.inj h')
  ·have hb:(x==n)=false:=beq_eq_false_iff_ne.mpr hx
   have h2:(r.map fun(n,k)=>if (k==NameKind.free&&env.scope.kind==.function&&env.kindOf n==some .cell) then (n,NameKind.cell) else (n,k)).lookup x=some k:=by
    split at h'<;>simpa [List.lookup_cons,hb] using h'
   obtain⟨k',hm,hk⟩:=relabel_inv h2
   exact⟨k',List.mem_cons_of_mem _ hm,hk⟩
theorem BlkSc.hasc{X:Cx}{caps:List Str}{sc:Scope}{cl:List (Str × Addr)}(S:BlkSc X caps sc cl){x:Str}(h:(relabel sc X.env).names.lookup x=some .cell∨(relabel sc X.env).names.lookup x=some .free):∃c,cl.lookup x=some c:=by
 have key:(x,NameKind.free)∈sc.names:=by
  rcases h with h|h
  ·obtain⟨k',hm,hk⟩:=relabel_inv h
   rcases hk with rfl|rfl
   ·exact absurd rfl (S.nocell _ hm)
   ·exact hm
  ·obtain⟨k',hm,hk⟩:=relabel_inv h
   rcases hk with rfl|rfl<;>exact hm
 have q:=List.all_eq_true.mp S.has _ key
 have q2:(cl.lookup x).isSome=true:=by simpa using q
 exact Option.isSome_iff_exists.mp q2
theorem BlkSc.subc{X:Cx}{caps:List Str}{sc:Scope}{cl:List (Str × Addr)}(S:BlkSc X caps sc cl){x:Str}{c:Addr}(h:cl.lookup x=some c):X.env.cells.lookup x=some c:=S.sub _ (PySem.mem_of_lookup h)
def blkSt(n:Nat)(κ:List Nat)(σ:St):St:=List.replicate n none++κ.map fun k=>(σ[k]?).join
def CompRun(n:Nat)(κ:List Nat)(g:TG)(tc:TT)(te:TE)(σ:St)(J:It)(H1:Hp)(Q:VK):Prop :=
 ∃W:Nat→Nat→List V→Hp→Prop,(∃m,W 0 m [] H1)∧∀i m ys H2,W i m ys H2 →
  (J.stop i H2∧∀D,H2 D=none→Q (.ref D) (upd H2 D (.lst ys))) ∨
  (J.go i H2∧ys.length < sizeLine∧∀x H3,J.yld i H2 x H3→g x (blkSt n κ σ) H3 fun σ4 H4=>σ4.drop n=(blkSt n κ σ).drop n ∧
   tc σ4 H4 fun b H5=>if b=true then te σ4 H5 fun v H6=>∃m',m' < m∧W (i+1) m' (ys++[v]) H6 else ∃m',m' < m∧W (i+1) m' ys H5)
def tComp(n:Nat)(κ:List Nat)(wi:TI)(g:TG)(tc:TT)(te:TE):TE:=fun σ H Q=>wi σ H fun J H1=>CompRun n κ g tc te σ J H1 Q
def tYes:TT:=fun _ H Q=>Q true H
theorem tYes_go{σ:St}{H:Hp}{A B:Hp→Prop}(h:A H):tYes σ H fun b H5=>if b=true then A H5 else B H5:=by
 show(if true=true then A H else B H)
 rw [if_pos rfl]
 exact h
section
variable{X:Cx}{pins:List (Addr × Obj)}{σ:St}{H:Hp}{s:Shared}
theorem Inv.block{caps:List Str}{own:List Str}{κ:List Nat}{sc:Scope}{cl:List (Str × Addr)}{fp:List Addr}{h₁:Heap}{tk:Nat}(S:BlkSc X caps sc cl)(hκ:κ.map (fun k=>X.N[k]?)=caps.map some)(I:Inv X pins σ H s)
  (f2:∀b∈fp,FpOk X pins H b) (hfp:∀b∈fp,b < s.heap.objs.size)
  {hp:Heap} {ol:Obj} (ehp:hp=s.heap.push ol) (hns:h₁.Ns hp.objs.size fun _=>none) (old:∀b o,hp.get? b=some o→h₁.get? b=some o) :
  Inv (blk X (own++caps) sc cl { s with heap:=hp } H hp.objs.size (s.heap.objs.size::fp)) pins (blkSt own.length κ σ) H { s with heap:=h₁,toks:=tk }:=by
 have hsz:hp.objs.size=s.heap.objs.size+1:=by rw [ehp,Heap.size_push]
 have up:∀b o,s.heap.get? b=some o→hp.get? b=some o:=fun b o e=>by rw [ehp];exact Heap.get?_push_of_some _ e
 have I3:Inv X pins σ H { s with heap:=hp }:=I.kept (t':=s.toks) up
 have stk:∀b,b≠X.env.locals→b∉X.fs→b∉frs X.stack:=fun b h1 h2 z=>(List.mem_cons.mp (I.stkSub b z)).elim h1 h2
 have dD:s.heap.objs.size≠X.env.locals:=Nat.ne_of_gt I.lt
 have cellLt:∀x c,X.env.cells.lookup x=some c→c < s.heap.objs.size:=fun x c e=>by
  obtain⟨v,q⟩:=I.cell x c e
  exact q.lt
 have ltC:∀b,b < s.heap.objs.size→b≠hp.objs.size:=fun b hb=>by rw [hsz];exact Nat.ne_of_lt (Nat.lt_succ_of_lt hb)
 have cellK:∀c v,s.heap.IsCell c v→h₁.IsCell c v:=fun c v ⟨o,ho,hd⟩=>⟨o,old _ _ (up _ _ ho),hd⟩
 refine⟨⟨I.ok.mod,?_,I.ok.glob,I.ok.blt,Nat.le_refl _,fun x y c h1 h2=>I.ok.inj x y c (S.subc h1) (S.subc h2),fun x h=>S.hasc h,fun _ _ z=>absurd z Bool.false_ne_true,I.ok.hd,I.ok.frames,.inl rfl,fun b hb=>?_,fun b o e=>⟨up _ _ (I.bs b o e).1,(I.bs b o e).2⟩,
   Nat.le_trans (Nat.le_trans I.ok.bsz I.sz) (by show s.heap.objs.size≤hp.objs.size;rw [hsz];exact Nat.le_succ _),fun b o e hb=>?_,fun b hb=>?_,I3.stack,I.stkFree⟩,
  rfl,I.bare,Un.kept old,⟨_,hns,fun i x v e1 e2 e3=>?_⟩,fun x c h=>?_,I.hok.fresh (by rw [hsz];exact Nat.le_succ _),fun x c h=>I.freeC x c (S.subc h),fun p hp'=>?_,I.hok.kept fun b u e=>old _ _ (up _ _ e),?_⟩
 ·show(relabel sc X.env).kind=.function
  exact S.kind
 ·show b≠hp.objs.size∧∀x c,cl.lookup x=some c→c≠b
  rcases List.mem_cons.mp hb with rfl|hb
  ·exact⟨by rw [hsz];exact Nat.ne_of_lt (Nat.lt_succ_self _),fun x c h=>Nat.ne_of_lt (cellLt x c (S.subc h))⟩
  ·exact⟨ltC b (hfp b hb),fun x c h=>(f2 b hb).2.2.2.2.1 x c (S.subc h)⟩
 ·have hlt:b < X.s₀.heap.objs.size:=Nat.lt_of_lt_of_le (Heap.lt_size e) I.ok.bsz
  rcases List.mem_cons.mp hb with rfl|hb
  ·exact absurd (Nat.lt_of_lt_of_le hlt I.sz) (Nat.lt_irrefl _)
  ·rcases (f2 b hb).2.2.2.1 with z|z
   ·exact I.ok.noex b o e z
   ·exact absurd (Nat.lt_of_lt_of_le hlt z) (Nat.lt_irrefl _)
 ·rcases List.mem_cons.mp hb with rfl|hb
  ·exact stk _ dD (I.nofs (Nat.le_refl _))
  ·exact stk _ (f2 b hb).2.1 (f2 b hb).2.2.1
 ·have e1':(own++caps)[i]?=some x:=e1
  have hlen:(List.replicate own.length (none:Option V)).length=own.length:=List.length_replicate
  have hge:own.length≤i:=by
   refine Nat.le_of_not_lt fun hlt=>?_
   unfold blkSt at e2
   rw [List.getElem?_append_left (by rw [hlen];exact hlt),List.getElem?_replicate,if_pos hlt] at e2
   cases e2
  unfold blkSt at e2
  rw [List.getElem?_append_right (by rw [hlen];exact hge),hlen,List.getElem?_map] at e2
  rw [List.getElem?_append_right hge] at e1'
  cases ek:κ[i - own.length]? with
  |none=>rw [ek] at e2;cases e2
  |some k =>
   rw [ek] at e2
   have e2':(σ[k]?).join=some v:=Option.some.inj e2
   have e4:σ[k]?=some (some v):=by
    cases eσ:σ[k]? with
    |none=>rw [eσ] at e2';cases e2'
    |some w=>rw [eσ] at e2';exact congrArg some e2'
   have e5:X.N[k]?=some x:=by
    have z:=congrArg (fun l=>l[i - own.length]?) hκ
    simp only [List.getElem?_map,ek,e1',Option.map_some] at z
    exact Option.some.inj z
   obtain⟨c1,c2,c3⟩:=S.caps x (List.mem_of_getElem? e1')
   obtain⟨m,hn,hl⟩:=I.loc
   obtain⟨u,r,l⟩:=hl k x v e5 e4 (c1.elim (fun z=>.inr (.inl z)) fun z=>.inr (.inr z))
   refine⟨u,r,?_⟩
   rcases l with ⟨hk,_⟩|⟨_,c,hc,hcell⟩
   ·rcases c1 with z|z<;>(rw [hk] at z;cases z)
   ·obtain⟨c',hc'⟩:=Option.isSome_iff_exists.mp c2
    have ecc:c'=c:=Option.some.inj ((S.subc hc').symm.trans hc)
    subst ecc
    exact .inr ⟨c3,c',hc',cellK _ _ hcell⟩
 ·obtain⟨v,q⟩:=I.cell x c (S.subc h)
  exact⟨v,cellK c v q⟩
 ·obtain⟨e,n,ne,nf,d⟩:=I.pin p hp'
  exact⟨old _ _ (up _ _ e),n,ltC _ (Heap.lt_size e),stk _ ne nf,d⟩
 ·show(blkSt own.length κ σ).length=(own++caps).length
  have z:=congrArg List.length hκ
  rw [List.length_map,List.length_map] at z
  unfold blkSt
  rw [List.length_append,List.length_append,List.length_replicate,List.length_map,z]
theorem Inv.unblock{own caps:List Str}{sc:Scope}{cl:List (Str × Addr)}{fp:List Addr}{H':Hp}{s4:Shared}{σ':St}{pins':List (Addr × Obj)}{hp h':Heap}{ol:Obj}{ys:List V}{its:List Value}{cap:Nat}(I:Inv X pins σ H s)
  (f2:∀b∈fp,FpOk X pins H b) (ehp:hp=s.heap.push ol)
  (J:Inv (blk X (own++caps) sc cl { s with heap:=hp } H hp.objs.size (s.heap.objs.size::fp)) pins' σ' H' s4)
  (hD:s4.heap.get? s.heap.objs.size=some { cls:=.type "list",data:=.seq its.toArray cap }) (nD:H' s.heap.objs.size=none) (r:Vals ys its) (hz:ys.length≤sizeLine) (sb:Heap.SameBut hp.objs.size s4.heap h') :
  Inv X pins σ (upd H' s.heap.objs.size (.lst ys)) { s4 with heap:=h' }:=by
 have hsz:hp.objs.size=s.heap.objs.size+1:=by rw [ehp,Heap.size_push]
 have up:∀b o,s.heap.get? b=some o→hp.get? b=some o:=fun b o e=>by rw [ehp];exact Heap.get?_push_of_some _ e
 have nDs:H s.heap.objs.size=none:=I.hok.fresh (Nat.le_refl _)
 have neD:∀b o,s.heap.get? b=some o→b≠s.heap.objs.size:=fun b o e=>Nat.ne_of_lt (Heap.lt_size e)
 have neC:∀b o,s.heap.get? b=some o→b≠hp.objs.size:=fun b o e=>by rw [hsz];exact Nat.ne_of_lt (Nat.lt_succ_of_lt (Heap.lt_size e))
 have nex:∀b o,s.heap.get? b=some o→b∉fp→b∉s.heap.objs.size::fp:=fun b o e hb z=>(List.mem_cons.mp z).elim (neD b o e) hb
 have u:=J.base
 have hDC:s.heap.objs.size≠hp.objs.size:=by rw [hsz];exact Nat.ne_of_lt (Nat.lt_succ_self _)
 have eD:h'.get? s.heap.objs.size=some { cls:=.type "list",data:=.seq its.toArray cap }:=(sb.2 _ hDC).trans hD
 refine I.call' (ch:=fp) J.os ⟨fun b o e n hb hx=>?_,fun b o e n hb hx=>?_,fun b o e n hx=>?_,fun b o e hx=>?_,fun b xs e=>?_,fun b o x e=>?_,fun b ps e=>?_⟩ (fun b o e=>?_) J.bare fun b hb=>?_
 ·exact(sb.2 b (neC b o e)).trans (u.keep b o (up _ _ e) n hb (nex b o e hx))
 ·obtain⟨sl,q⟩:=u.slot b o (up _ _ e) n hb (nex b o e hx)
  exact⟨sl,(sb.2 b (neC b o e)).trans q⟩
 ·rw [upd_ne (neD b o e)]
  exact u.free b o (up _ _ e) n (nex b o e hx)
 ·obtain⟨o',q⟩:=u.there b o (up _ _ e) (nex b o e hx)
  exact⟨o',(sb.2 b (neC b o e)).trans q⟩
 ·rw [upd_ne (ne_of_none e nDs)]
  exact u.tups b xs e
 ·rw [upd_ne (ne_of_none e nDs)]
  exact u.frzs b o x e
 ·rw [upd_ne (ne_of_none e nDs)]
  exact u.tbls b ps e
 ·by_cases hb:b=s.heap.objs.size
  ·subst hb
   rw [upd_same] at e
   cases e
   exact⟨hz,its,cap,r,eD⟩
  ·rw [upd_ne hb] at e
   have nC:∀c w,H' c=some w→c≠hp.objs.size:=fun c w q=>ne_of_none q J.free
   refine(J.hok b o e).stay (fun c v hc q=>(sb.2 c ?_).trans q) (fun c q=>by rw [upd_ne (ne_of_none q nD)];exact q) fun c xs q=>by rw [upd_ne (ne_of_none q nD)];exact q
   rcases hc with rfl|hc
   ·exact nC c o e
   ·exact nC c _ hc
 ·obtain⟨_,f1,_,f3,f4,f5⟩:=f2 b hb
  exact⟨f3,f1,f4,f5⟩
end
section
variable{X:Cx}
theorem pe_compG{tg elt iter:Expr}{ifs:List Expr}{own caps:List Str}{κ:List Nat}{sc:Scope}{cl:List (Str × Addr)}{pos:Pos}{wi:TI}{g:TG}{tc:TT}{te:TE}(hcalm:X.calm=true)(S:BlkSc X caps sc cl)(hκ:κ.map (fun k=>X.N[k]?)=caps.map some)
  (hi:PI X tg iter wi) (hg:∀s₀ H₀ C ex,PG (blk X (own++caps) sc cl s₀ H₀ C ex) tg g)
  (hc:∀s₀ H₀ C ex (pins:List (Addr × Obj)) (s:Shared) (σ:St) (H:Hp) (Q:Bool→Hp→Prop),Inv (blk X (own++caps) sc cl s₀ H₀ C ex) pins σ H s→tc σ H Q →
   wpAny (model X.prog X.w) X.A (forIn ifs true fun c r=>if r=true then do let ok ←isTrue c (compEnvC sc cl C X.env) (eval c (compEnvC sc cl C X.env));pure (ForInStep.yield ok) else pure (ForInStep.yield r)) (TP (blk X (own++caps) sc cl s₀ H₀ C ex) pins σ Q) (fun _ _=>False) s)
  (he:∀s₀ H₀ C ex,PE (blk X (own++caps) sc cl s₀ H₀ C ex) elt te)
  (hs:∀x,foldedSetIterable iter X.env x=pure x:=by intro _;rfl):PE X (.ListComp elt [⟨tg,iter,ifs,0⟩] sc pos) (tComp own.length κ wi g tc te):=by
 intro pins s σ H Q I h
 rw [eval_ListComp]
 refine wpAny_comprehension_free (use:=none) rfl hs S.clos S.kind S.names (thn (hi pins s σ H _ I h) fun v s1 h1=>thn h1 fun itv s2 h2=>?_)
 obtain⟨it,fp,tn,J,H2,e,I2,T,st2,f2,W,⟨m0,w0⟩,turn⟩:=h2
 subst e
 have hfp:∀b∈fp,b < s2.heap.objs.size:=fun b hb=>by
  obtain⟨o,e,_⟩:=T.obj _ _ st2 b hb
  exact Heap.lt_size e
 refine wpAny_newObj_type (wpAny_newFunctionEnv S.nocell (fun y hy=>nomatch hy) (fun h₁ hns hsb=>?_) S.kind)
 generalize ehp:s2.heap.push { cls:=.type "list",dict:=none,data:=.seq ([]:List Value).toArray }=hp at hns hsb ⊢
 have hsz:hp.objs.size=s2.heap.objs.size+1:=by rw [←ehp,Heap.size_push]
 have hDC:s2.heap.objs.size≠hp.objs.size:=by rw [hsz];exact Nat.ne_of_lt (Nat.lt_succ_self _)
 have old:∀b o,hp.get? b=some o→h₁.get? b=some o:=fun b o e=>(hsb.2 b (Nat.ne_of_lt (Heap.lt_size e))).trans (Heap.get?_push_of_some _ e)
 have eD:h₁.get? s2.heap.objs.size=some { cls:=.type "list",data:=.seq ([]:List Value).toArray }:=old _ _ (by rw [←ehp];exact Heap.get?_push_size _ rfl)
 have I0:=Inv.block (own:=own) (h₁:=h₁) (tk:=s2.toks+([]:List (Str × Value)).length) S hκ I2 f2 hfp ehp.symm hns old
 have stkD:s2.heap.objs.size∉frs X.stack:=fun z=>(List.mem_cons.mp (I2.stkSub _ z)).elim (Nat.ne_of_gt I2.lt) (I2.nofs (Nat.le_refl _))
 have cellD:∀x c,cl.lookup x=some c→c≠s2.heap.objs.size:=fun x c q=>by
  obtain⟨v,z⟩:=I2.cell x c (S.subc q)
  exact Nat.ne_of_lt z.lt
 have pinD:∀p∈X.pn++pins,p.1≠s2.heap.objs.size:=fun p hp=>Nat.ne_of_lt (Heap.lt_size (I2.pin p hp).1)
 have stkF:∀b∈fp,b∉frs X.stack:=fun b hb z=>(List.mem_cons.mp (I2.stkSub _ z)).elim (f2 b hb).2.1 (f2 b hb).2.2.1
 have loop:codeAny (model X.prog X.w) X.A (.compLoop (.ListComp elt [⟨tg,iter,ifs,0⟩] sc pos) 0 (.ref it) (.ref s2.heap.objs.size) (compEnvC sc cl hp.objs.size X.env))
   (compPost (model X.prog X.w) X.A X.xe none (EP X pins σ Q) (.ref s2.heap.objs.size) hp.objs.size) { s2 with heap:=h₁,toks:=s2.toks+([]:List (Str × Value)).length }:=by
  refine codeAny_loop rfl (fun n s'=>∃(i:Nat) (ys:List V) (its:List Value) (cap:Nat) (H':Hp),Inv (blk X (own++caps) sc cl { s2 with heap:=hp } H2 hp.objs.size (s2.heap.objs.size::fp)) pins (blkSt own.length κ σ) H' s'∧tn i s'.heap∧(∀b∈fp,H' b=none) ∧
   s'.heap.get? s2.heap.objs.size=some { cls:=.type "list",data:=.seq its.toArray cap }∧H' s2.heap.objs.size=none∧Vals ys its∧ys.length≤sizeLine∧W i n ys H') (fun n s3 hI=>?_) m0
   ⟨0,[],[],0,H2,I0,T.keep _ _ _ st2 fun b hb o e=>old _ _ (by rw [←ehp];exact Heap.get?_push_of_some _ e),fun b hb=>(f2 b hb).1,eD,I2.hok.fresh (Nat.le_refl _),.nil,Nat.zero_le _,w0⟩
  obtain⟨i,ys,its,cap,H3,I3,st3,fr3,eD3,nD3,rv,hz,w3⟩:=hI
  show wpAny _ X.A ((compTurn (.ListComp elt [⟨tg,iter,ifs,0⟩] sc pos) 0 (.ref it) (.ref s2.heap.objs.size) (compEnvC sc cl hp.objs.size X.env)).onRaise fun x=>do noteFrame x (compEnvC sc cl hp.objs.size X.env);theTreesLotGoes x) _ _ s3
  refine wpAny_noted ?_
  rw [compTurn_list]
  have I3':Inv (blk X (own++caps) sc cl { s2 with heap:=hp } H2 hp.objs.size (s2.heap.objs.size::fp)) (pins++[(s2.heap.objs.size,{ cls:=.type "list",data:=.seq its.toArray cap })]) (blkSt own.length κ σ) H3 s3:=by
   refine I3.pins_of fun p hp=>(List.mem_append.mp hp).elim (fun z=>I3.pin p (List.mem_append_right _ z)) fun z=>?_
   obtain rfl:=List.mem_singleton.mp z
   exact⟨eD3,nD3,hDC,stkD,fun v q=>by cases q⟩
  have fpk:∀{H':Hp},(∀b∈fp,H' b=none)→∀b∈fp,FpOk (blk X (own++caps) sc cl { s2 with heap:=hp } H2 hp.objs.size (s2.heap.objs.size::fp)) (pins++[(s2.heap.objs.size,{ cls:=.type "list",data:=.seq its.toArray cap })]) H' b:=fun {H'} hn b hb =>
   ⟨hn b hb,by show b≠hp.objs.size;rw [hsz];exact Nat.ne_of_lt (Nat.lt_succ_of_lt (hfp b hb)),stkF b hb,.inl (List.mem_cons_of_mem _ hb),fun x c q=>(f2 b hb).2.2.2.2.1 x c (S.subc q),fun p hp=>by
    rw [←List.append_assoc] at hp
    rcases List.mem_append.mp hp with z|z
    ·exact(f2 b hb).2.2.2.2.2 p z
    ·obtain rfl:=List.mem_singleton.mp z
     exact Nat.ne_of_gt (hfp b hb)⟩
  rcases turn i n ys H3 w3 with ⟨stop,fin⟩|⟨go,hlt,step⟩
  ·refine wpAny_bind (wpAny_standAt (wpAny_bind (thn (T.done (blk X (own++caps) sc cl { s2 with heap:=hp } H2 hp.objs.size (s2.heap.objs.size::fp)) rfl rfl rfl hcalm i _ s3 _ H3 _ I3' (fpk fr3) st3 stop) fun r s4 ⟨hr,I4⟩=>?_)))
   subst hr
   refine wpAny_pure ?_
   obtain⟨m,hm,_⟩:=I4.loc
   refine⟨m,hm,fun h' sb=>?_⟩
   have eD4:=(I4.pin (s2.heap.objs.size,{ cls:=.type "list",data:=.seq its.toArray cap }) (List.mem_append_right _ (List.mem_append_right _ (List.mem_singleton.mpr rfl)))).1
   exact⟨.ref s2.heap.objs.size,_,Inv.unblock I2 f2 ehp.symm I4 eD4 nD3 rv hz sb,rfl,fin _ nD3⟩
  ·refine wpAny_bind (wpAny_standAt (wpAny_bind (thn (T.item (blk X (own++caps) sc cl { s2 with heap:=hp } H2 hp.objs.size (s2.heap.objs.size::fp)) rfl rfl rfl hcalm i _ s3 _ H3 _ I3' (fpk fr3) st3 go) fun r s4 ⟨u,hr,h4⟩=>?_)))
   subst hr
   refine wpAny_bind (thn h4 fun _ s5 ⟨x,H5,I5,r5,y5,st5,fr5⟩=>?_)
   have I5':=I5.pinned (fpk fr5) (T.obj _ _ st5)
   refine wpAny_bind (wpAny_mono (hg _ _ _ _ _ s5 _ H5 x u _ I5' r5 (step x H5 y5)) (fun _ s6 ⟨σ6,H6,I6,eσ,q6⟩=>?_) fun _ _ z=>z.elim)
   refine wpAny_bind (wpAny_mono (hc _ _ _ _ _ s6 σ6 H6 _ I6 q6) (fun ok s7 ⟨H7,I7,q7⟩=>?_) fun _ _ z=>z.elim)
   have back:∀{s8:Shared} {H8:Hp},Inv (blk X (own++caps) sc cl { s2 with heap:=hp } H2 hp.objs.size (s2.heap.objs.size::fp)) ((pins++[(s2.heap.objs.size,{ cls:=.type "list",data:=.seq its.toArray cap })])++pinsAt fp s5.heap) σ6 H8 s8 →
     Inv (blk X (own++caps) sc cl { s2 with heap:=hp } H2 hp.objs.size (s2.heap.objs.size::fp)) pins (blkSt own.length κ σ) H8 s8∧tn (i+1) s8.heap∧(∀b∈fp,H8 b=none)∧s8.heap.get? s2.heap.objs.size=some { cls:=.type "list",data:=.seq its.toArray cap }∧H8 s2.heap.objs.size=none:=by
    intro s8 H8 I8
    have pk:∀b∈fp,∀o,s5.heap.get? b=some o→s8.heap.get? b=some o∧H8 b=none:=fun b hb o e=>by
     have z:=I8.pin (b,o) (List.mem_append_right _ (List.mem_append_right _ (mem_pinsAt hb e)))
     exact⟨z.1,z.2.1⟩
    have zD:=I8.pin (s2.heap.objs.size,{ cls:=.type "list",data:=.seq its.toArray cap }) (List.mem_append_right _ (List.mem_append_left _ (List.mem_append_right _ (List.mem_singleton.mpr rfl))))
    refine⟨(I8.pins_of fun p hp=>I8.pin p (List.mem_append_right _ (List.mem_append_left _ (List.mem_append_left _ hp)))).weak ?_ fun j v e=>?_,T.keep _ _ _ st5 fun b hb o e=>(pk b hb o e).1,fun b hb=>?_,zD.1,zD.2.1⟩
    ·exact I3.len.trans I8.len.symm
    ·have hge:own.length≤j:=by
      refine Nat.le_of_not_lt fun q=>?_
      unfold blkSt at e
      rw [List.getElem?_append_left (by rw [List.length_replicate];exact q),List.getElem?_replicate,if_pos q] at e
      cases e
     have z:=congrArg (fun l=>l[j - own.length]?) eσ
     simp only [List.getElem?_drop] at z
     rw [show own.length+(j - own.length)=j by omega] at z
     rw [z]
     exact e
    ·obtain⟨o,e,_⟩:=T.obj _ _ st5 b hb
     exact(pk b hb o e).2
   cases ok with
   |false =>
    obtain⟨m',hm,w7⟩:=(if_neg Bool.false_ne_true)▸q7
    obtain⟨I8,st8,fr8,e8,n8⟩:=back I7
    exact wpAny_pure ⟨rfl,m',hm,i+1,ys,its,cap,H7,I8,st8,fr8,e8,n8,rv,hz,w7⟩
   |true =>
    have q7':=(if_pos rfl)▸q7
    refine wpAny_bind (wpAny_bind (wpAny_mono (he _ _ _ _ _ s7 σ6 H7 _ I7 q7') (fun y s8 ⟨v8,H8,I8,r8,m',hm,w8⟩=>?_) fun _ _ z=>z.elim))
    obtain⟨I9,st9,fr9,e9,n9⟩:=back I8
    have hl:=rv.length
    refine wpAny_bind (wpAny_list_append_plain (items:=its.toArray) ⟨cap,e9⟩ (fun h' hl' sb=>?_) (by rw [List.size_toArray,←hl];exact hz))
    obtain⟨cap',e'⟩:=hl'
    refine wpAny_pure (wpAny_pure ⟨rfl,m',hm,i+1,ys++[v8],its++[y],cap',H8,?_,?_,fr9,?_,n9,Vals.append rv (.cons r8 .nil),?_,w8⟩)
    ·exact I9.turned (t':=s8.toks) (fun b o hb e=>(sb.2 b hb).trans e) n9 hDC (.inl List.mem_cons_self) cellD pinD
    ·exact T.keep _ _ _ st9 fun b hb o e=>(sb.2 b (Nat.ne_of_lt (hfp b hb))).trans e
    ·rw [e']
     congr 3
     simp
    ·rw [List.length_append]
     exact hlt
 exact codeAny_compStart_list loop (T.self _ 0 _ _ _ (T.keep _ _ _ st2 fun b hb o e=>old _ _ (by rw [←ehp];exact Heap.get?_push_of_some _ e)) loop)
theorem pe_comp{tg elt iter:Expr}{own caps:List Str}{κ:List Nat}{sc:Scope}{cl:List (Str × Addr)}{pos:Pos}{wi:TI}{g:TG}{te:TE}(hcalm:X.calm=true)(S:BlkSc X caps sc cl)(hκ:κ.map (fun k=>X.N[k]?)=caps.map some)
  (hi:PI X tg iter wi) (hg:∀s₀ H₀ C ex,PG (blk X (own++caps) sc cl s₀ H₀ C ex) tg g) (he:∀s₀ H₀ C ex,PE (blk X (own++caps) sc cl s₀ H₀ C ex) elt te)
  (hs:∀x,foldedSetIterable iter X.env x=pure x:=by intro _;rfl):PE X (.ListComp elt [⟨tg,iter,[],0⟩] sc pos) (tComp own.length κ wi g tYes te) :=
 pe_compG hcalm S hκ hi hg (fun s₀ H₀ C ex pins s σ H Q I h=>wpAny_tests_nil ⟨H,I,h⟩) he hs
theorem pe_comp_if{tg elt iter c:Expr}{own caps:List Str}{κ:List Nat}{sc:Scope}{cl:List (Str × Addr)}{pos:Pos}{wi:TI}{g:TG}{tc:TT}{te:TE}(hcalm:X.calm=true)(S:BlkSc X caps sc cl)(hκ:κ.map (fun k=>X.N[k]?)=caps.map some)
  (hi:PI X tg iter wi) (hg:∀s₀ H₀ C ex,PG (blk X (own++caps) sc cl s₀ H₀ C ex) tg g) (hc:∀s₀ H₀ C ex,PT (blk X (own++caps) sc cl s₀ H₀ C ex) c tc) (he:∀s₀ H₀ C ex,PE (blk X (own++caps) sc cl s₀ H₀ C ex) elt te)
  (hs:∀x,foldedSetIterable iter X.env x=pure x:=by intro _;rfl):PE X (.ListComp elt [⟨tg,iter,[c],0⟩] sc pos) (tComp own.length κ wi g tc te) :=
 pe_compG hcalm S hκ hi hg (fun s₀ H₀ C ex pins s σ H Q I h=>wpAny_tests_one (hc s₀ H₀ C ex pins s σ H Q I h)) he hs
end
end L2
namespace L2
open PySem PySem.Spec PyProof.Rows
section
variable{X:Cx}
theorem bootAll:bootBuiltins "all"=some (.builtin "all"):=by decide +kernel
theorem bootStr:bootBuiltins "str"=some (.type "str"):=by decide +kernel
theorem bootIsi:bootBuiltins "isinstance"=some (.builtin "isinstance"):=by decide +kernel
theorem bools_of:∀{bs:List Bool} {us:List Value},Vals (bs.map V.bl) us→LSm.BoolsAre us bs
 |[],_,r=>by cases r;exact .nil
 |b::bs,_,r=>by
  cases r with
  |cons r1 r2 =>
   cases r1
   exact .cons b (bools_of r2)
theorem call_allB(hc:X.calm=true):CallR X (.builtin "all") (fun xs H Q=>∃(p:Addr) (bs:List Bool),xs=[.ref p]∧SqL X.K H p (bs.map V.bl)∧Q (.bl (bs.all id)) H):=by
 intro pins s σ H xs us Q I r h
 obtain⟨p,bs,rfl,hq,q⟩:=h
 obtain⟨u,rfl,rx⟩:=vals1 r
 cases rx
 obtain⟨its,rv,pl,hz⟩:=I.list hq
 have hb:=bools_of rv
 have hlt:p < s.heap.objs.size:=by obtain⟨_,e,_⟩:=pl.isList;exact Heap.lt_size e
 refine call_all_walk (wpAny_pyIter_list pl.isList ?_)
 refine⟨s.heap.objs.size,[s.heap.objs.size,p],[s.heap.objs.size],its.toArray.size,_,_,fun i=>(bs[i]?).getD true,rfl,Walks.list (A:=X.A.in1) (I.ok.hd hc) _ p (Nat.ne_of_lt hlt) its.toArray,
  ⟨⟨_,Heap.get?_push_size _ rfl,rfl,rfl⟩,pl.isList.push _⟩,fun i v s' Q' E' hP hQ=>?_,fun h' tk hk=>?_⟩
 ·obtain⟨b,e,rfl⟩:=hb.get i v (by simpa using hP)
  have hQ':Q' ((bs[i]?).getD true) s':=hQ
  rw [e] at hQ'
  exact wpAny_truthy_bool hQ'
 ·have e:((List.range its.toArray.size).all fun i=>(bs[i]?).getD true)=bs.all id:=by
   rw [List.size_toArray,hb.length]
   exact LSm.range_all bs
  rw [e]
  exact⟨.bl (bs.all id),H,I.kept (LSm.kept_iter hk),rfl,q⟩
end
end L2
namespace L2
open PySem PySem.Spec PyProof.Rows
end L2
namespace L2
open PySem PySem.Spec PyProof.Rows
theorem comp_by{J:It}{xs:List V}{n:Nat}{κ:List Nat}{g:TG}{tc:TT}{te:TE}{σ:St}{H:Hp}{Q:VK}(Pv:Nat→List V→Hp→Prop)(h0:Pv 0 [] H)(hz:xs.length≤sizeLine)(hlen:∀i ys H2,Pv i ys H2→ys.length≤i)
  (hgo:∀i x ys H2,xs[i]?=some x→Pv i ys H2→J.go i H2) (hyl:∀i ys x H2 H',i < xs.length→Pv i ys H2→J.yld i H2 x H'→H'=H2∧xs[i]?=some x) (hst:∀ys H2,Pv xs.length ys H2→J.stop xs.length H2)
  (hs:∀i x ys H2 (N:List V→Hp→Prop),(∀ys' H',Pv (i+1) ys' H'→N ys' H')→xs[i]?=some x→Pv i ys H2→g x (blkSt n κ σ) H2 fun σ4 H4=>σ4.drop n=(blkSt n κ σ).drop n∧tc σ4 H4 fun b H5=>if b=true then te σ4 H5 fun v H6=>N (ys++[v]) H6 else N ys H5)
  (hQ:∀ys H2 D,Pv xs.length ys H2→H2 D=none→Q (.ref D) (upd H2 D (.lst ys))) :
  CompRun n κ g tc te σ J H Q:=by
 refine⟨fun i m ys H2=>m=xs.length - i∧i≤xs.length∧Pv i ys H2,⟨xs.length,rfl,Nat.zero_le _,h0⟩,?_⟩
 rintro i m ys H2 ⟨rfl,hi,p⟩
 by_cases hlt:i < xs.length
 ·have e:xs[i]?=some xs[i]:=List.getElem?_eq_getElem hlt
  refine .inr ⟨hgo i _ ys H2 e p,Nat.lt_of_le_of_lt (hlen i ys H2 p) (Nat.lt_of_lt_of_le hlt hz),fun x H3 y=>?_⟩
  obtain⟨rfl,ex⟩:=hyl i ys x H2 H3 hlt p y
  exact hs i x ys _ (fun ys' H'=>∃m',m' < xs.length - i∧m'=xs.length - (i+1)∧i+1≤xs.length∧Pv (i+1) ys' H') (fun ys' H' p'=>⟨xs.length - (i+1),by omega,rfl,hlt,p'⟩) ex p
 ·obtain rfl:i=xs.length:=by omega
  exact .inl ⟨hst ys H2 p,fun D hD=>hQ ys H2 D p hD⟩
def rangeV(lo:Int)(n:Nat):List V:=(List.range n).map fun i=>V.int (lo+(i:Nat))
theorem rangeV_len(lo:Int)(n:Nat):(rangeV lo n).length=n:=by simp [rangeV]
theorem rangeV_get{lo:Int}{n i:Nat}{x:V}:(rangeV lo n)[i]?=some x↔i < n∧x=.int (lo+i):=by
 unfold rangeV
 rw [List.getElem?_map]
 by_cases h:i < n
 ·rw [List.getElem?_range h]
  simp [h,eq_comm]
 ·rw [List.getElem?_eq_none (by simp;omega)]
  simp [h]
theorem itr_go{lo:Int}{n:Nat}{H:Hp}{i:Nat}{x:V}(h:(rangeV lo n)[i]?=some x):(Itr lo n).go i H:=(rangeV_get.mp h).1
theorem itr_yld'{lo:Int}{n:Nat}{H H':Hp}{i:Nat}{x:V}(hi:i < n)(h:(Itr lo n).yld i H x H'):H'=H∧(rangeV lo n)[i]?=some x:=⟨h.1,rangeV_get.mpr ⟨hi,h.2⟩⟩
section
variable{X:Cx}
end
end L2
namespace L2
open PySem PySem.Spec PyProof.Rows
mutual
inductive Dat (K:PySem.W.Frag) (H:Hp):V→PyData→Prop
 |non:Dat K H .non .none
 |bl (b:Bool):Dat K H (.bl b) (.bool b)
 |int (i:Int):Dat K H (.int i) (.int i)
 |str (x:Str):Dat K H (.str x) (.str x)
 |tup {a:Addr} {xs:List V} {ds:List PyData}:SqT K H a xs→Dats K H xs ds→Dat K H (.ref a) (.tuple ds)
 |lst {a:Addr} {xs:List V} {ds:List PyData}:SqL K H a xs→Dats K H xs ds→Dat K H (.ref a) (.list ds)
inductive Dats (K:PySem.W.Frag) (H:Hp):List V→List PyData→Prop
 |nil:Dats K H [] []
 |cons {x:V} {d:PyData} {xs:List V} {ds:List PyData}:Dat K H x d→Dats K H xs ds→Dats K H (x::xs) (d::ds)
end
theorem Same.tup{K:PySem.W.Frag}{H H':Hp}{a:Addr}{xs:List V}(e:Same H H')(h:SqT K H a xs):SqT K H' a xs:=by
 rcases h with (h|⟨o,h⟩)|h
 ·exact .inl (.inl (e _ _ h))
 ·exact .inl (.inr ⟨o,e _ _ h⟩)
 ·exact .inr h
mutual
theorem Dat.same{K:PySem.W.Frag}{H H':Hp}(e:Same H H'):∀{x:V} {d:PyData},Dat K H x d→Dat K H' x d
 |_,_,.non=>.non
 |_,_,.bl b=>.bl b
 |_,_,.int i=>.int i
 |_,_,.str x=>.str x
 |_,_,.tup h r=>.tup (e.tup h) (Dats.same e r)
 |_,_,.lst h r=>.lst (e.seq h) (Dats.same e r)
theorem Dats.same{K:PySem.W.Frag}{H H':Hp}(e:Same H H'):∀{xs:List V} {ds:List PyData},Dats K H xs ds→Dats K H' xs ds
 |_,_,.nil=>.nil
 |_,_,.cons h r=>.cons (Dat.same e h) (Dats.same e r)
end
section
variable{X:Cx}{pins:List (Addr × Obj)}{σ:St}{H:Hp}{s:Shared}
mutual
theorem Dat.reads(I:Inv X pins σ H s):∀{x:V} {d:PyData} {v:Value},Dat X.K H x d→RelV x v→∃as,Reads s.heap v d as
 |_,_,_,.non,r=>by cases r;exact⟨_,.none⟩
 |_,_,_,.bl b,r=>by cases r;exact⟨_,.bool b⟩
 |_,_,_,.int i,r=>by obtain⟨t,rfl⟩:=r;exact⟨_,.int i t⟩
 |_,_,_,.str x,r=>by obtain⟨t,rfl⟩:=r;exact⟨_,.str x t⟩
 |_,_,_,.tup hq ds,r=>by
  cases r
  obtain⟨its,rv,p,_⟩:=I.tuple hq
  obtain⟨as,q⟩:=Dats.reads I ds rv
  obtain⟨o,e,c,n,dt⟩:=p
  exact⟨as,.tuple e c dt (by simpa using q)⟩
 |_,_,_,.lst hq ds,r=>by
  cases r
  obtain⟨its,rv,p,_⟩:=I.list hq
  obtain⟨as,q⟩:=Dats.reads I ds rv
  obtain⟨o,n,e,c,_,dt⟩:=p
  exact⟨_,.list e c dt (by simpa using q)⟩
theorem Dats.reads(I:Inv X pins σ H s):∀{xs:List V} {ds:List PyData} {vs:List Value},Dats X.K H xs ds→Vals xs vs→∃as,ReadsAll s.heap vs ds as
 |_,_,_,.nil,r=>by cases r;exact⟨_,.nil⟩
 |_,_,_,.cons h t,r=>by
  cases r with
  |cons r1 r2 =>
   obtain⟨as,q⟩:=Dat.reads I h r1
   obtain⟨bs,q2⟩:=Dats.reads I t r2
   exact⟨_,.cons q q2⟩
end
end
section
variable{X:Cx}
def rEqD(K:PySem.W.Frag)(neg:Bool):R2:=fun x y H Q=>∃dx dy,Dat K H x dx∧Dat K H y dy∧SeqAt.shaped dx=true∧SeqAt.shaped dy=true∧Q (.bl (if neg then !PyData.eqv dx dy else PyData.eqv dx dy)) H
theorem op_eqD(hu:X.A.units+64 < cLine):OpR X (compareOp .Eq) (rEqD X.K false):=by
 intro pins s σ H x y v u Q I rx ry h
 obtain⟨dx,dy,hx,hy,sx,sy,q⟩:=h
 obtain⟨as,ra⟩:=Dat.reads I hx rx
 obtain⟨bs,rb⟩:=Dat.reads I hy ry
 exact eq_dataH ra rb sx sy hu ⟨.bl _,H,I,rfl,q⟩
end
end L2
namespace L2
open PySem PySem.Spec PyProof.Rows
section
variable{X:Cx}
open Classical in
end
end L2
namespace L2
open PySem PySem.Spec PyProof.Rows
def RawD(h:Heap)(d:Addr)(es:Array DictEntry)(ep:Nat):Prop:=∃o,h.get? d=some o∧o.ExactDict∧o.data=.dict es ep
theorem RawD.at{h h':Heap}{d:Addr}{es:Array DictEntry}{ep:Nat}(x:RawD h d es ep)(k:∀o,h.get? d=some o→h'.get? d=some o):RawD h' d es ep:=let ⟨o,e,r⟩:=x;⟨o,k _ e,r⟩
theorem RawD.lt{h:Heap}{d:Addr}{es:Array DictEntry}{ep:Nat}(x:RawD h d es ep):d < h.objs.size:=let ⟨_,e,_⟩:=x;Heap.lt_size e
section
variable{prog:Program}{w:World}{A:Around}{E:Value→Shared→Prop}{s:Shared}
theorem raw_iter{d:Addr}{es:Array DictEntry}{ep:Nat}{Q:Value→Shared→Prop}(hd:(d==sysModules)=false)(hm:RawD s.heap d es ep)
  (hQ:Q (.ref s.heap.objs.size) { s with heap:=s.heap.push { cls:=.type "dict_keyiterator",data:=.fields #[.ref d,.int 0 0,.int es.size 0,.int ep 0] } }):wpAny (model prog w) A (pyIter (.ref d)) Q E s:=by
 obtain⟨o,ho,hx,hdat⟩:=hm
 have tyD:s.TypeIs (.ref d) "dict":=⟨o,ho,hx.1⟩
 refine wpAny_pyIter_slot tyD F.slot_dict_iter (wpAny_call_entry F.slot_dict_iter tyD F.entry_dict_iter ?_ (F.args_dict_iter_1 _))
 unfold Builtin.«dict.__iter__» Builtin.Dict.dictSlotNone
 refine wpAny_bind (wpAny_bind (wpAny_notOrdered_dict tyD ?_))
 refine wpAny_pure (show wpAny _ _ (Builtin.Dict.showsAll d >>= _) _ _ s from ?_)
 unfold Builtin.Dict.showsAll
 rw [if_neg (fun z=>Bool.false_ne_true (hd.symm.trans z))]
 refine wpAny_bind (wpAny_pure (wpAny_bind (wpAny_dictEntries ho hdat (wpAny_bind (wpAny_dictEpoch ho hdat ?_)))))
 exact wpAny_bind (wpAny_newObj_type (wpAny_pure ⟨_,rfl,"dict_keyiterator",_,⟨_,Heap.get?_push_size _ rfl,rfl⟩,F.slot_dict_keyiterator_next.lookup,hQ⟩))
theorem raw_item{it d:Addr}{i ep:Nat}{es:Array DictEntry}{Q:Option Value→Shared→Prop}(hit:s.heap.IsKeyIter it d i es.size ep)(hm:RawD s.heap d es ep)(hi:i < es.size)
  (hQ:∀h',h'.IsKeyIter it d (i+1) es.size ep→Heap.SameBut it s.heap h'→Q (some es[i].key) { s with heap:=h' }):wpAny (model prog w) A (pyNext (.ref it)) Q E s:=by
 have tyI:=hit.typeIs
 obtain⟨oi,hoi,hci,hdi⟩:=id hit
 obtain⟨od,hod,_,hdd⟩:=hm
 unfold pyNext
 refine wpAny_bind (wpAny_attempt (wpAny_callSpecial?_slot (name:=Str.ofString "__next__") tyI F.slot_dict_keyiterator_next (wpAny_call_entry F.slot_dict_keyiterator_next tyI F.entry_dict_keyiterator_next ?_ (F.args_dict_keyiterator_next_1 _))))
 refine wpAny_bind (wpAny_pure (wpAny_bind (wpAny_bind ?_)))
 first|refine wpAny_bind (wpAny_typeNameOfWhole_keyiter tyI (wpAny_pure ?_))|refine wpAny_bind (wpAny_typeNameOf_keyiter tyI (wpAny_pure ?_))
 refine wpAny_bind (wpAny_fieldsOf hoi hdi ?_)
 simp only [show Builtin.Dict_items.ownsTuple "dict_keyiterator"=false from by decide,Bool.false_eq_true,if_false]
 show wpAny _ _ (if (Value.ref d==.none)=true then _ else _) _ _ s
 have ne0:¬((Value.ref d==Value.none)=true):=fun z=>Bool.false_ne_true z
 rw [if_neg ne0]
 refine wpAny_bind (wpAny_pure (wpAny_bind (wpAny_dictEntries hod hdd ?_)))
 rw [if_neg (by simp)]
 refine wpAny_bind (wpAny_pure (wpAny_bind (wpAny_dictEpoch hod hdd ?_)))
 rw [if_neg (by simp)]
 refine wpAny_pure ?_
 simp only [show ¬((i:Int) < 0) from Int.not_lt.mpr (Int.natCast_nonneg i),if_false,Int.toNat_natCast,Array.getElem?_eq_getElem hi]
 refine wpAny_bind ?_
 first|refine wpAny_bind (wpAny_typeNameOfWhole_keyiter tyI (wpAny_pure ?_))|refine wpAny_bind (wpAny_typeNameOf_keyiter tyI (wpAny_pure ?_))
 refine wpAny_bind (wpAny_isOneOf_keyiter tyI ?_)
 refine(show wpAny _ _ (setField (.ref it) 1 (rawInt ((i:Int)+1)) >>= _) _ _ s from wpAny_bind (wpAny_setField hoi hdi (by simp) ?_))
 have new:(s.heap.update it (Obj.mapFields (·.setIfInBounds 1 (rawInt ((i:Int)+1))))).IsKeyIter it d (i+1) es.size ep :=
  ⟨_,Heap.get?_update_self _ hoi (Obj.isFreed_of_fields (Obj.data_mapFields hdi _)),(Obj.cls_mapFields ..).trans hci,by rw [Obj.data_mapFields hdi];simp [rawInt]⟩
 refine wpAny_bind (wpAny_holding (wpAny_bind (wpAny_isOneOf_keyiter (s:={ s with heap:=s.heap.update it (Obj.mapFields (·.setIfInBounds 1 (rawInt ((i:Int)+1)))) }) new.typeIs ?_)))
 exact(show wpAny _ _ (pure es[i].key) _ _ _ from wpAny_pure (wpAny_pure ⟨_,rfl,wpAny_pure (hQ _ new (Heap.SameBut.update ..))⟩))
theorem raw_end{it d:Addr}{i ep:Nat}{es:Array DictEntry}{Q:Option Value→Shared→Prop}(hh:A.handled=none)(hit:s.heap.IsKeyIter it d i es.size ep)(hm:RawD s.heap d es ep)(hi:es.size≤i)
  (hF:∀h',Heap.ExtBut it s.heap h'→Q none { s with heap:=h' }):wpAny (model prog w) A (pyNext (.ref it)) Q E s:=by
 have tyI:=hit.typeIs
 obtain⟨oi,hoi,hci,hdi⟩:=id hit
 obtain⟨od,hod,_,hdd⟩:=hm
 unfold pyNext
 refine wpAny_bind (wpAny_attempt (wpAny_callSpecial?_slot (name:=Str.ofString "__next__") tyI F.slot_dict_keyiterator_next (wpAny_call_entry F.slot_dict_keyiterator_next tyI F.entry_dict_keyiterator_next ?_ (F.args_dict_keyiterator_next_1 _))))
 refine wpAny_bind (wpAny_pure (wpAny_bind (wpAny_bind ?_)))
 first|refine wpAny_bind (wpAny_typeNameOfWhole_keyiter tyI (wpAny_pure ?_))|refine wpAny_bind (wpAny_typeNameOf_keyiter tyI (wpAny_pure ?_))
 refine wpAny_bind (wpAny_fieldsOf hoi hdi ?_)
 simp only [show Builtin.Dict_items.ownsTuple "dict_keyiterator"=false from by decide,Bool.false_eq_true,if_false]
 show wpAny _ _ (if (Value.ref d==.none)=true then _ else _) _ _ s
 have ne0:¬((Value.ref d==Value.none)=true):=fun z=>Bool.false_ne_true z
 rw [if_neg ne0]
 refine wpAny_bind (wpAny_pure (wpAny_bind (wpAny_dictEntries hod hdd ?_)))
 rw [if_neg (by simp)]
 refine wpAny_bind (wpAny_pure (wpAny_bind (wpAny_dictEpoch hod hdd ?_)))
 rw [if_neg (by simp)]
 refine wpAny_pure ?_
 simp only [show ¬((i:Int) < 0) from Int.not_lt.mpr (Int.natCast_nonneg i),if_false,Int.toNat_natCast,Array.getElem?_eq_none hi]
 refine wpAny_bind ?_
 first|refine wpAny_bind (wpAny_typeNameOfWhole_keyiter tyI (wpAny_pure ?_))|refine wpAny_bind (wpAny_typeNameOf_keyiter tyI (wpAny_pure ?_))
 refine(show wpAny _ _ (setField (.ref it) 0 .none >>= _) _ _ s from wpAny_bind (wpAny_setField hoi hdi (by simp) ?_))
 refine(show wpAny _ _ (newExc (.type "StopIteration") [] >>= _) _ _ _ from wpAny_bind ?_)
 simp only [newExc,newTuple]
 refine wpAny_bind (wpAny_newObj_type (dict:=none) ?_ (by size_fits))
 refine wpAny_bind (m:=firstArgMember _ _) (wpAny_of_eq (a:=Value.none) (by first|rfl|(simp only [firstArgMember];rfl)) (wpAny_newObj_type ?_ (by size_fits)))
 simp only [raiseNew]
 refine wpAny_bind (m:=_) (wpAny_handled ?_)
 rw [(show A.in1.handled=none from hh)]
 refine wpAny_bind (wpAny_pure (wpAny_throw (wpAny_bind ?_)))
 refine wpAny_isInstance (b:=true) (T:="StopIteration") ⟨_,Heap.get?_push_size _ rfl,rfl⟩ isSubtype_stop ?_
 exact wpAny_pure (hF _ (((Heap.SameBut.update ..).extBut.push _).push _))
theorem Walks.raw(hh:A.handled=none)(I d:Addr)(hne:d≠I)(es:Array DictEntry)(ep:Nat) :
  Walks prog w A I [I,d] [I] es.size (fun i v=>∃e,es[i]?=some e∧v=e.key) (fun i h=>h.IsKeyIter I d i es.size ep∧RawD h d es ep) where
 sub:=fun b hb=>List.mem_cons.mpr (.inl (List.mem_singleton.mp hb))
 frame:=fun _ _ _ st hk=>⟨st.1.at fun o e=>hk I List.mem_cons_self o e,st.2.at fun o e=>hk d (List.mem_cons_of_mem _ List.mem_cons_self) o e⟩
 item:=fun i s Q E hi st hQ=>raw_item st.1 st.2 hi fun h' new sb=>hQ _ h' s.toks ⟨es[i],Array.getElem?_eq_getElem hi,rfl⟩ ⟨new,st.2.at fun o e=>sb.extBut d o hne e⟩ fun b o hb e=>sb.extBut b o (fun z=>hb (List.mem_singleton.mpr z)) e
 done:=fun s Q E st hQ=>raw_end hh st.1 st.2 (Nat.le_refl _) fun h' eb=>hQ h' s.toks fun b o hb e=>eb b o (fun z=>hb (List.mem_singleton.mpr z)) e
 self:=fun _ _ _ _ st q=>wpAny_pyIter_keyiter st.1 q
theorem kdl_raw{d:Addr}{es:Array DictEntry}{ep:Nat}(lo:(d==sysModules)=false):PySem.W.KdlSrc prog w "dict" d d es.size (fun i v=>∃e,es[i]?=some e∧v=e.key) (fun h=>RawD h d es ep) where
 type:=fun _ hm=>let ⟨o,e,x,_⟩:=hm;⟨o,e,x.1⟩
 there:=fun _ hm=>⟨hm.lt,hm.lt⟩
 keep:=fun _ _ hm hk=>hm.at fun o e=>hk d (.inl rfl) o e
 notList:=by decide
 notTuple:=by decide
 hint:=fun _ _ _ _ hm hq=>PySem.W.kdl_hint_dict (let ⟨o,e,x,_⟩:=hm;⟨o,e,x.1⟩) hq
 iter:=fun _ _ hh hm=>⟨_,_,(fun _ _ hq=>raw_iter lo hm hq),Walks.raw hh _ d (Nat.ne_of_lt hm.lt) es ep,⟨⟨_,Heap.get?_push_size _ rfl,rfl,rfl⟩,hm.at fun o e=>Heap.get?_push_of_some _ e⟩⟩
end
end L2
namespace L2
open PySem PySem.Spec PyProof.Rows
section
variable{X:Cx}
theorem call_list_dT(hc:X.calm=true):CallR X (.type "list") (fun xs H Q=>∃a kvs,xs=[.ref a]∧H a=some (.dT kvs) ∧
  ∀(ks:List Addr) l,H l=none→Paired (fun(p:List Key × V) (k:Addr)=>H k=some (.tup (p.1.map kV))) kvs ks→Q (.ref l) (upd H l (.lst (ks.map V.ref)))):=by
 intro pins s σ H xs us Q I r h
 obtain⟨a,kvs,rfl,ha,q⟩:=h
 obtain⟨u,rfl,ru⟩:=vals1 r
 cases ru
 obtain⟨z,hd,ys,rel,o,es,ep,e,ex,dt,eqs,_⟩:=I.hok a _ ha
 have hlen:es.size=ys.length:=by
  have:=congrArg List.length eqs
  rw [List.length_map] at this
  simpa using this
 have hl2:kvs.length=ys.length:=Paired.length rel
 refine PySem.W.kdl_call (kdl_raw hd) (I.ok.hd hc) ⟨o,e,ex,dt⟩ (by rw [hlen,←hl2];exact z) fun h' tk acc' c' hk hD hacc=>?_
 have eacc:acc'.toList=ys.map fun y=>Value.ref y.2.1:=by
  apply List.ext_getElem?
  intro j
  rw [List.getElem?_map]
  by_cases hj:j < ys.length
  ·have hj2:j < acc'.size:=by rw [hacc.1,hlen];exact hj
   obtain⟨en,hen,hv⟩:=hacc.2 j acc'[j] (Array.getElem?_eq_getElem hj2)
   have e1:es.toList[j]?=some en:=by rw [←hen];simp
   rw [eqs,List.getElem?_map,List.getElem?_eq_getElem hj] at e1
   have e2:=Option.some.inj e1
   rw [show acc'.toList[j]?=some acc'[j] by simp [hj2],hv,←e2,List.getElem?_eq_getElem hj]
   rfl
  ·rw [List.getElem?_eq_none (by rw [Array.length_toList,hacc.1,hlen];omega),List.getElem?_eq_none (by omega)]
   rfl
 have rk:∀{kvs:List (List Key × V)} {ys:List (List Key × Addr × Value)},Paired (fun(p:List Key × V) (q:List Key × Addr × Value)=>p.1=q.1∧H q.2.1=some (.tup (p.1.map kV))∧RelV p.2 q.2.2) kvs ys →
   Paired (fun(p:List Key × V) (k:Addr)=>H k=some (.tup (p.1.map kV))) kvs (ys.map fun y=>y.2.1):=fun {kvs ys} p=>by
  induction p with
  |nil=>exact .nil
  |cons h _ ih=>exact .cons h.2.1 ih
 have vr:∀ks:List Addr,Vals (ks.map V.ref) (ks.map Value.ref):=fun ks=>by
  induction ks with
  |nil=>exact .nil
  |cons k ks ih=>exact .cons rfl ih
 refine⟨.ref s.heap.objs.size,_,I.laid (o:=.lst ((ys.map fun y=>y.2.1).map V.ref)) hk (Nat.le_refl _) ?_,rfl,q _ _ (I.hok.fresh (Nat.le_refl _)) (rk rel)⟩
 refine⟨by rw [List.length_map,List.length_map,←hl2];exact z,_,c',vr _,?_⟩
 rw [hD,show acc'=((ys.map fun y=>y.2.1).map Value.ref).toArray from by rw [List.map_map,←Array.toArray_toList (xs:=acc'),eacc];rfl]
end
end L2
namespace Kk
open PySem L2
inductive Kd where
 |num (n:Int)
 |name (q t:Str)
 |pair (a b:Kd)
 deriving DecidableEq
def Kd.words:Kd→Nat
 |.num _=>1
 |.name _ _=>1
 |.pair a b=>1+a.words+b.words
def Kd.leaves:Kd→List Kd
 |.num n=>[.num n]
 |.name q t=>[.name q t]
 |.pair a b=>a.leaves++b.leaves
def Kd.leaf:Kd→Bool
 |.pair _ _=>false
 |_=>true
theorem words_leaves:∀k:Kd,k.words+1=2*k.leaves.length
 |.num _=>rfl
 |.name _ _=>rfl
 |.pair a b=>by
  have h1:=words_leaves a
  have h2:=words_leaves b
  show 1+a.words+b.words+1=2*(a.leaves++b.leaves).length
  rw [List.length_append]
  omega
theorem leaves_pos:∀k:Kd,0 < k.leaves.length
 |.num _=>Nat.zero_lt_one
 |.name _ _=>Nat.zero_lt_one
 |.pair a b=>by
  have h1:=leaves_pos a
  show 0 < (a.leaves++b.leaves).length
  rw [List.length_append]
  omega
inductive KdAt (K:PySem.W.Frag) (H:Hp):V→Kd→Prop
 |num {a:Addr} {n:Int}:SqT K H a [.str "num",.int n]→KdAt K H (.ref a) (.num n)
 |name {a:Addr} {q t:Str}:SqT K H a [.str "name",.str q,.str t]→KdAt K H (.ref a) (.name q t)
 |pair {a:Addr} {x y:V} {k l:Kd}:SqT K H a [.str "pair",x,y]→KdAt K H x k→KdAt K H y l→KdAt K H (.ref a) (.pair k l)
theorem KdAt.same{K:PySem.W.Frag}{H H':Hp}(e:Same H H'):∀{x:V} {k:Kd},KdAt K H x k→KdAt K H' x k
 |_,_,.num h=>.num (e.tup h)
 |_,_,.name h=>.name (e.tup h)
 |_,_,.pair h a b=>.pair (e.tup h) (a.same e) (b.same e)
inductive KdsAt (K:PySem.W.Frag) (H:Hp):List V→List Kd→Prop
 |nil:KdsAt K H [] []
 |cons {x:V} {k:Kd} {xs:List V} {ks:List Kd}:KdAt K H x k→KdsAt K H xs ks→KdsAt K H (x::xs) (k::ks)
theorem KdsAt.same{K:PySem.W.Frag}{H H':Hp}(e:Same H H'):∀{xs:List V} {ks:List Kd},KdsAt K H xs ks→KdsAt K H' xs ks
 |_,_,.nil=>.nil
 |_,_,.cons a b=>.cons (a.same e) (b.same e)
theorem KdsAt.length{K:PySem.W.Frag}{H:Hp}:∀{xs:List V} {ks:List Kd},KdsAt K H xs ks→xs.length=ks.length
 |_,_,.nil=>rfl
 |_,_,.cons _ b=>congrArg (·+1) b.length
theorem KdsAt.append{K:PySem.W.Frag}{H:Hp}:∀{xs ys:List V} {ks ls:List Kd},KdsAt K H xs ks→KdsAt K H ys ls→KdsAt K H (xs++ys) (ks++ls)
 |_,_,_,_,.nil,h=>h
 |_,_,_,_,.cons a b,h=>.cons a (b.append h)
theorem KdsAt.get{K:PySem.W.Frag}{H:Hp}:∀{xs:List V} {ks:List Kd} {i:Nat} {x:V},KdsAt K H xs ks→xs[i]?=some x→∃k,ks[i]?=some k∧KdAt K H x k
 |_,_,_,_,.nil,e=>by simp at e
 |_,_,0,_,.cons a _,e=>by
  obtain rfl:=Option.some.inj e
  exact⟨_,rfl,a⟩
 |_,_,i+1,x,.cons _ b,e=>KdsAt.get (i:=i) b e
end Kk
namespace L2
open PySem PySem.Spec PyProof.Rows
section
variable{α β:Type}{P:Shared→Prop}
def Keeps(P:Shared→Prop)(t:Sem α):Prop:=∀(M:Model) (Γ:PySem.Ctx) (Q:α→Pos→Shared→Prop) (E:Value→Pos→Shared→Prop) (p:Pos) (s:Shared),P s→Sem.wp M Γ t Q E p s →
 Sem.wp M Γ t (fun a p' s'=>Q a p' s'∧P s') (fun e p' s'=>E e p' s'∧P s') p s
theorem Keeps.ret(a:α):Keeps P (Pure.pure a:Sem α):=fun _ _ _ _ _ _ h q=>⟨q,h⟩
theorem Keeps.no(x:String):Keeps P (unsupported x:Sem α):=fun _ _ _ _ _ _ _ q=>False.elim q
theorem Keeps.then{m:Sem α}{f:α→Sem β}(hm:Keeps P m)(hf:∀a,Keeps P (f a)):Keeps P (m >>= f):=fun M Γ Q E p s h q=>by
 rw [Sem.wp_bind'] at q ⊢
 exact Sem.wp_mono M Γ m (fun a p' s' z=>hf a M Γ Q E p' s' z.2 z.1) (fun _ _ _ z=>z) p s (hm M Γ _ E p s h q)
theorem Keeps.ld(a:Addr):Keeps P (load a):=fun _ _ _ _ _ _ h ⟨o,e,q⟩=>⟨o,e,q,h⟩
theorem Keeps.stk:Keeps P stack:=fun _ _ _ _ _ _ h q=>⟨q,h⟩
theorem Keeps.ite{c:Prop}[Decidable c]{a b:Sem α}(ha:Keeps P a)(hb:Keeps P b):Keeps P (if c then a else b):=by split<;>assumption
theorem Keeps.wpAny{t:Sem α}(k:Keeps P t){M:Model}{A:Around}{Q:α→Shared→Prop}{E:Value→Shared→Prop}{s:Shared}(hp:P s)(h:wpAny M A t Q E s):wpAny M A t (fun a s'=>Q a s'∧P s') (fun e s'=>E e s'∧P s') s :=
 fun Γ p hΓ=>k M Γ _ _ p s hp (h Γ p hΓ)
def DictIs(x:Addr)(d:Option Addr)(s:Shared):Prop:=∃ob,s.heap.get? x=some ob∧ob.dict=d
variable{x:Addr}{d:Option Addr}
theorem Keeps.up{a:Addr}{f:Obj→Obj}(hf:∀o:Obj,o.isFreed=false→(f o).dict=o.dict∧(f o).isFreed=false):Keeps (DictIs x d) (update a f):=fun _ _ _ _ _ s h q=>by
 refine⟨q.1,q.2,?_⟩
 obtain⟨ob,e,hd⟩:=h
 have hfr:=(Heap.get?_some_iff.mp e).2
 by_cases hx:a=x
 ·subst hx
  exact⟨_,Heap.get?_update_self f e (hf ob hfr).2,(hf ob hfr).1.trans hd⟩
 ·exact⟨ob,(Heap.get?_update_other _ f hx).trans e,hd⟩
theorem Keeps.new{o:Obj}:Keeps (DictIs x d) (alloc o):=fun _ _ _ _ _ s h q=>by
 obtain⟨ob,e,hd⟩:=h
 exact⟨q,ob,Heap.get?_push_of_some _ e,hd⟩
theorem Keeps.flds{v:Value}:Keeps P (fieldsOf v):=by
 unfold fieldsOf
 split
 ·refine Keeps.then (Keeps.ld _) fun o=>?_
  split
  ·exact Keeps.ret _
  ·exact Keeps.no _
 ·exact Keeps.no _
theorem Keeps.fld{v:Value}{i:Nat}:Keeps P (field v i):=by
 unfold field
 refine Keeps.then Keeps.flds fun vs=>?_
 split
 ·exact Keeps.ret _
 ·exact Keeps.no _
theorem Keeps.setF{v u:Value}{i:Nat}:Keeps (DictIs x d) (setField v i u):=by
 unfold setField
 split
 ·unfold updateField
  refine Keeps.then (Keeps.ld _) fun o=>?_
  split
  ·refine Keeps.ite (Keeps.up fun o ho=>?_) (Keeps.no _)
   obtain⟨c,dd,dt,sl⟩:=o
   cases dt<;>exact⟨rfl,ho⟩
  ·exact Keeps.no _
 ·exact Keeps.no _
theorem Keeps.flight{e:Value}{f:Option Addr}:Keeps (DictIs x d) (setFlight e f):=by
 unfold setFlight
 exact Keeps.then Keeps.fld fun tb=>Keeps.ite Keeps.setF (Keeps.ret _)
theorem Keeps.ready:∀l:List Env,Keeps (DictIs x d) (readyFrames l)
 |[]=>Keeps.ret _
 |env::outer=>by
  unfold readyFrames
  split
  ·refine Keeps.then (Keeps.ld _) fun o=>Keeps.ite (Keeps.ret _) (Keeps.then ?_ fun im=>Keeps.then ?_ fun bk=>Keeps.then (Keeps.up fun o ho=>⟨rfl,by obtain⟨c,dd,dt,sl⟩:=o;cases dt<;>first|rfl|exact ho⟩) fun _=>Keeps.ready outer)
   ·unfold behindIsImport
    exact Keeps.ite (Keeps.ret _) (Keeps.ite (Keeps.ret _) (Keeps.then Keeps.fld fun _=>Keeps.ret _))
   ·cases outer with
    |nil =>
     unfold keptBack
     refine Keeps.ite (Keeps.ret _) (Keeps.then ?_ fun _=>Keeps.ret _)
     unfold underTheClaimsCaller
     exact Keeps.then Keeps.stk fun _=>Keeps.ret _
    |cons c r=>exact Keeps.ret _
  ·exact Keeps.no _
theorem Keeps.frame{env:Env}:Keeps (DictIs x d) (PySem.frameOf env):=by
 unfold PySem.frameOf
 refine Keeps.then (Keeps.then Keeps.stk fun _=>Keeps.ret _) fun l=>Keeps.then ?_ fun r=>?_
 ·generalize l.dropWhile (fun y=>y.frame != env.frame)=l2
  cases l2 with
  |nil=>exact Keeps.ret _
  |cons e r=>exact Keeps.then (Keeps.ready (e::r)) fun _=>Keeps.ret _
 ·split
  ·exact Keeps.ret _
  ·exact Keeps.no _
theorem Keeps.entry{a b c e f:Value}{pl:List Value}:Keeps (DictIs x d) (EntryCells.newEntry a b c e f pl):=by
 unfold EntryCells.newEntry newFields newObj
 have st:∀(dt:Data) (dd:Option Addr),Keeps (DictIs x d) (newObjAsIs (.type "traceback") dt dd):=fun dt dd=>by
  unfold newObjAsIs
  exact Keeps.then Keeps.new fun a=>Keeps.ret _
 exact Keeps.ite (Keeps.then (Keeps.no _) fun _=>st _ _) (st _ _)
theorem Keeps.note{e:Value}{env:Env}:Keeps (DictIs x d) (noteFrame e env):=by
 unfold noteFrame
 split
 ·rename_i fr _
  refine Keeps.then Keeps.fld fun hd=>?_
  have go:Keeps (DictIs x d) (do setField e 1 (←EntryCells.newEntry hd (←PySem.frameOf env) .none (rawInt fr) .none (←entryPlaceOf fr (hd != .none)))) :=
   Keeps.then Keeps.frame fun _=>Keeps.then (by
    unfold entryPlaceOf
    refine Keeps.then Keeps.stk fun _=>?_
    split
    ·exact Keeps.ret _
    ·exact Keeps.ret _) fun _=>Keeps.then Keeps.entry fun _=>Keeps.setF
  exact Keeps.ite (Keeps.then Keeps.fld fun _=>Keeps.ite (Keeps.ret _) (Keeps.then Keeps.setF fun _=>go)) go
 ·exact Keeps.no _
theorem Keeps.leave{e:Value}{env:Env}:Keeps (DictIs x d) (leaving env e):=by
 unfold leaving
 exact Keeps.then Keeps.note fun _=>Keeps.flight
end
end L2
namespace L2
open PySem PySem.Spec PyProof.Rows
section
variable{P:Program}{w:World}
theorem ObjOk.there{H:Hp}{h:Heap}{a:Addr}{o:HO}(x:ObjOk P w H h a o):∃u,h.get? a=some u:=by
 cases o with
 |lst xs=>obtain⟨_,_,_,_,e⟩:=x;exact⟨_,e⟩
 |tup xs=>obtain⟨_,_,_,ob,e,_⟩:=x;exact⟨_,e⟩
 |dK kvs=>obtain⟨_,_,_,_,o,_,_,e,_⟩:=x;exact⟨_,e⟩
 |dT kvs=>obtain⟨_,_,_,_,o,_,_,e,_⟩:=x;exact⟨_,e⟩
 |set S n=>obtain⟨o,_,_,_,e,_⟩:=x;exact⟨_,e⟩
 |ins C dx fs=>obtain⟨_,_,_,e,_⟩:=x;exact⟨_,e⟩
 |own y=>exact x
 |xd fs=>obtain⟨_,⟨_,_,_,e,_⟩,_⟩:=x;exact⟨_,e⟩
 |rng lo hi=>obtain⟨_,_,_,e⟩:=x;exact⟨_,e⟩
 |frz ob u=>obtain⟨e,_⟩:=x;exact⟨_,e⟩
 |tbl ps=>exact⟨_,(show h.get? a=some _ from x)⟩
 |met f y=>exact⟨_,(show h.get? a=some _ from x)⟩
 |ext φ=>obtain⟨_,e,_⟩:=x;exact e
structure Fly(P:Program)(w:World)(outer:List Env)(H:Hp)(s:Shared)(x:Addr)(cls:Value)(H':Hp)(s':Shared):Prop where
 os:s'.os=s.os
 bare:AllBare s'.gens
 un:Un (frs outer) [] H H' s.heap s'.heap
 hok:HOk P w H' s'.heap
 fl:∃B a0,Heap.FlyingW B outer x cls a0 s'.heap∧(∀b o,H' b=some o→∃u,B.get? b=some u)∧∀b o,s.heap.get? b=some o→b∉frs outer→∃u,B.get? b=some u
 free:H' x=none
def CX1(P:Program)(w:World):CXT:=fun outer H s E e s'=>∃x cls d H',e=.ref x∧Fly P w outer H s x cls H' s'∧DictIs x d s'∧E cls d H'
end
section
variable{X:Cx}{pins:List (Addr × Obj)}{σ:St}{H H':Hp}{s s':Shared}{x:Addr}{cls:Value}{E:Value→Shared→Prop}{Q:Unit→Shared→Prop}
theorem Inv.notSt(I:Inv X pins σ H s){b:Addr}(h1:b≠X.env.locals)(h2:b∉X.fs):b∉frs X.stack:=fun z=>(List.mem_cons.mp (I.stkSub b z)).elim h1 h2
theorem Inv.oldL(I:Inv X pins σ H s){b:Addr}{o:Obj}(e:X.s₀.heap.get? b=some o):b≠X.env.locals:=Nat.ne_of_lt (Nat.lt_of_lt_of_le (Heap.lt_size e) I.ok.above)
theorem Fly.leave(I:Inv X pins σ H s)(hst:X.stack=X.env::X.outer)(hfr:X.env.frame=some X.env.locals)(hex:X.ex=[])(f:Fly X.prog X.w X.stack H s x cls H' s'){d:Option Addr}(hdi:DictIs x d s')
  (hQ:∀s'',Fly X.prog X.w X.outer X.H₀ X.s₀ x cls H' s''→DictIs x d s''→Q () s''):wpAny (model X.prog X.w) X.A (leaving X.env (.ref x)) Q E s':=by
 refine wpAny_mono (Keeps.leave.wpAny (E:=E) (Q:=fun _ s''=>Fly X.prog X.w X.outer X.H₀ X.s₀ x cls H' s'') hdi ?_) (fun _ s'' z=>hQ s'' z.1 z.2) fun _ _ z=>z.1
 obtain⟨B,a0,fl,c1,c2⟩:=f.fl
 rw [hst] at fl
 have nx:∀b:Addr,b∉X.ex:=fun b=>by rw [hex];simp
 refine wpAny_leaves_onW (by rw [I.ok.frames,hst]) hfr fl fun h' fl' up=>?_
 have st:∀b o,B.get? b=some o→h'.get? b=some o:=fl'.1
 have same:∀b u v,B.get? b=some u→s'.heap.get? b=some v→u=v:=fun b u v h1 h2=>by
  have h3:=fl.1 b u h1
  rw [h2] at h3
  exact(Option.some.inj h3).symm
 have slot:∀b o,X.s₀.heap.get? b=some o→X.H₀ b=none→b∈X.fs→∃sl,h'.get? b=some { o with slots:=sl }:=fun b o e n hb=>by
  obtain⟨sl,e1⟩:=I.base.slot b o e n hb (nx b)
  obtain⟨sl2,e2⟩:=f.un.any e1 (I.base.free b o e n (nx b)) (by simp)
  obtain⟨_,of,ho,hnf⟩:=I.ok.funs.mem hb
  rw [e] at ho
  cases ho
  obtain⟨sl3,e3⟩:=up b _ e2 hnf
  exact⟨sl3,e3⟩
 refine⟨f.os.trans I.os,f.bare,⟨fun b o e n hb _=>?_,fun b o e n hb _=>slot b o e n hb,fun b o e n _=>?_,fun b o e _=>?_,fun b xs e=>f.un.tups b xs (I.base.tups b xs e),fun b o u e=>f.un.frzs b o u (I.base.frzs b o u e),fun b ps e=>?_⟩,fun a o e=>?_,⟨B,a0,fl',c1,fun b o e hb=>?_⟩,f.free⟩
 ·have e1:=I.base.keep b o e n hb (nx b)
  have n1:=I.base.free b o e n (nx b)
  have hb':=I.notSt (I.oldL e) hb
  have e2:=f.un.keep b o e1 n1 hb' (by simp)
  obtain⟨u,hu⟩:=c2 b o e1 hb'
  exact same b u o hu e2▸st b u hu
 ·obtain⟨o',e1⟩:=I.base.there b o e (nx b)
  exact f.un.free b o' e1 (I.base.free b o e n (nx b)) (by simp)
 ·by_cases hb:b∈X.fs
  ·obtain⟨sl,e1⟩:=slot b o e (I.ok.frf b hb) hb
   exact⟨_,e1⟩
  ·obtain⟨o',e1⟩:=I.base.there b o e (nx b)
   obtain⟨u,hu⟩:=c2 b o' e1 (I.notSt (I.oldL e) hb)
   exact⟨u,st b u hu⟩
 ·obtain⟨m1,e1⟩:=I.base.tbls b ps e
  obtain⟨m2,e2⟩:=f.un.tbls b _ e1
  exact⟨m1++m2,by rw [e2,Array.append_assoc]⟩
 ·refine(f.hok a o e).stay (fun b u hb q=>?_) (fun _ q=>q) fun _ _ q=>q
  have t:∃o',H' b=some o':=by
   rcases hb with z|z
   ·exact⟨o,by rw [z];exact e⟩
   ·exact⟨_,z⟩
  obtain⟨o',e'⟩:=t
  obtain⟨v,hv⟩:=c1 b o' e'
  exact same b v u hv q▸st b v hv
 ·obtain⟨o',e1⟩:=I.base.there b o e (nx b)
  exact c2 b o' e1 (I.notSt (I.oldL e) hb)
theorem Fly.first{oe:Obj}{vs:Array Value}{a0:Value}(I:Inv X pins σ H s)(hst:X.stack=X.env::X.outer)(hfr:X.env.frame=some X.env.locals)(hex:X.ex=[])(hx:s.heap.get? x=some oe)(hcl:oe.cls=cls)(hdt:oe.data=.fields vs)
  (h1:vs[1]?=some .none) (h0:vs[0]?=some a0) (hn:X.s₀.heap.get? x=none) (hH:H x=none)
  (hQ:∀s'',Fly X.prog X.w X.outer X.H₀ X.s₀ x cls H s''→DictIs x oe.dict s''→Q () s''):wpAny (model X.prog X.w) X.A (leaving X.env (.ref x)) Q E s:=by
 have nx:∀b:Addr,b∉X.ex:=fun b=>by rw [hex];simp
 refine wpAny_mono (Keeps.leave.wpAny (E:=E) (Q:=fun _ s''=>Fly X.prog X.w X.outer X.H₀ X.s₀ x cls H s'') ⟨oe,hx,rfl⟩ ?_) (fun _ s'' z=>hQ s'' z.1 z.2) fun _ _ z=>z.1
 have hl:s.heap.FunFrames (PySem.W.hideAll s.heap (x::frs X.stack)) (X.env::X.outer) :=
  PySem.W.funFrames_hide (base:=X.base) (by rw [←hst];exact I.stack) fun env he a hf=>by
   rw [hst]
   exact .tail _ (List.mem_filterMap.mpr ⟨env,he,hf⟩)
 have hen:(PySem.W.hideAll s.heap (x::frs X.stack)).get? x=none:=PySem.W.hideAll_none _ (.head _)
 refine wpAny_leaving_firstW (a0:=a0) (by rw [I.ok.frames,hst]) hl hfr hx (fun b o q=>PySem.W.of_hideAll _ q) hen hdt h1 h0 fun h' hL=>?_
 obtain⟨k1,⟨_,_,k2⟩,k3,up⟩:=hL
 rw [hcl] at k3
 have st:∀b o,s.heap.get? b=some o→b∉frs X.stack→b≠x→h'.get? b=some o:=fun b o e hb hbx=>k1 b o (PySem.W.hideAll_get _ e fun z=>(List.mem_cons.mp z).elim hbx hb)
 have old:∀b o,X.s₀.heap.get? b=some o→b≠x:=fun b o e z=>by rw [z,hn] at e;cases e
 have slot:∀b o,X.s₀.heap.get? b=some o→X.H₀ b=none→b∈X.fs→∃sl,h'.get? b=some { o with slots:=sl }:=fun b o e n hb=>by
  obtain⟨sl,e1⟩:=I.base.slot b o e n hb (nx b)
  obtain⟨_,of,ho,hnf⟩:=I.ok.funs.mem hb
  rw [e] at ho
  cases ho
  obtain⟨sl3,e3⟩:=up b _ e1 hnf
  exact⟨sl3,e3⟩
 have trk:∀b o,H b=some o→b∉frs X.stack∧b≠x:=fun b o e=>⟨fun z=>(by rw [I.stkFree b z] at e;cases e),fun z=>(by rw [z,hH] at e;cases e)⟩
 refine⟨I.os,I.bare,⟨fun b o e n hb _=>st b o (I.base.keep b o e n hb (nx b)) (I.notSt (I.oldL e) hb) (old b o e),fun b o e n hb _=>slot b o e n hb,fun b o e n _=>I.base.free b o e n (nx b),fun b o e _=>?_,I.base.tups,I.base.frzs,I.base.tbls⟩,fun a o e=>?_,⟨_,_,⟨k1,hen,k2,k3⟩,fun b o e=>?_,fun b o e hb=>?_⟩,hH⟩
 ·by_cases hb:b∈X.fs
  ·obtain⟨sl,e1⟩:=slot b o e (I.ok.frf b hb) hb
   exact⟨_,e1⟩
  ·obtain⟨o',e1⟩:=I.base.there b o e (nx b)
   exact⟨o',st b o' e1 (I.notSt (I.oldL e) hb) (old b o e)⟩
 ·refine(I.hok a o e).stay (fun b u hb q=>?_) (fun _ q=>q) fun _ _ q=>q
  have hb':∃o',H b=some o':=by
   rcases hb with z|z
   ·exact⟨o,by rw [z];exact e⟩
   ·exact⟨_,z⟩
  obtain⟨o',e'⟩:=hb'
  exact st b u q (trk b o' e').1 (trk b o' e').2
 ·obtain⟨u,hu⟩:=(I.hok b o e).there
  exact⟨u,PySem.W.hideAll_get _ hu fun z=>(List.mem_cons.mp z).elim (trk b o e).2 (trk b o e).1⟩
 ·obtain⟨o',e1⟩:=I.base.there b o e (nx b)
  exact⟨o',PySem.W.hideAll_get _ e1 fun z=>(List.mem_cons.mp z).elim (old b o e) (I.notSt (I.oldL e) hb)⟩
theorem Fly.made{h1:Heap}{vs:List Value}(I:Inv X pins σ H s)(hst:X.stack=X.env::X.outer)(hfr:X.env.frame=some X.env.locals)(hex:X.ex=[])(hx:Heap.MadeExcOf s.heap h1 x cls vs)
  (hQ:∀s'',Fly X.prog X.w X.outer X.H₀ X.s₀ x cls H s''→DictIs x none s''→Q () s''):wpAny (model X.prog X.w) X.A (leaving X.env (.ref x)) Q E { s with heap:=h1 }:=by
 obtain⟨t,he,_,_⟩:=hx.there
 have I1:Inv X pins σ H { s with heap:=h1 }:=I.kept hx.keeps
 refine Fly.first I1 hst hfr hex he rfl rfl rfl rfl ?_ ?_ hQ
 ·cases q:X.s₀.heap.get? x with
  |none=>rfl
  |some o =>
   obtain⟨u,hu⟩:=I.base.there x o q (by rw [hex];simp)
   have:=hx.new
   rw [hu] at this
   cases this
 ·cases q:H x with
  |none=>rfl
  |some o =>
   obtain⟨u,hu⟩:=(I.hok x o q).there
   have:=hx.new
   rw [hu] at this
   cases this
end
section
variable{P:Program}{w:World}{K:PySem.W.Frag}{mg:Str→Option Value}{base:Heap}{N:List Str}{qual:Str}{scope:Scope}{f:Addr}{cd:Value}{A:Around}{outer:List Env}{s:Shared}{H:Hp}{E:XK}
theorem pass1:Passes (CX1 P w) (cxOf (CX1 P w) P w K mg base N qual scope f cd A outer s H E) E:=fun pins σ H1 s1 e s' I h=>by
 obtain⟨x,cls,d,H',rfl,fl,hd,hE⟩:=h
 exact Fly.leave I rfl rfl rfl fl hd fun s'' g gd=>⟨x,cls,d,H',rfl,g,gd,hE⟩
end
theorem ownExc_of{K:PySem.W.Frag}{h:Heap}{mg:Str→Option Value}{c:Str}{C:Addr}{bmB:List Value}{newId:String}(kin:K.In h)(hm:mg c=some (.ref C))(q:PySem.W.excIn K C bmB newId=true):OwnCls c C bmB newId mg h:=by
 refine⟨hm,?_⟩
 unfold PySem.W.excIn at q
 split at q
 next ddx cdx slx look =>
  split at q
  next C2 tl z0 z1 z2 z3 nn z5 hmro hsl =>
   simp only [Bool.not_eq_true',Bool.and_eq_true,beq_iff_eq] at q
   obtain⟨⟨⟨⟨⟨e1,e2⟩,hdel⟩,htl⟩,hok⟩,hni⟩:=q
   obtain⟨nm,bs,mro,ns,qn,hd,sn,sub,ab,col,del⟩:=cdx
   obtain⟨sll⟩:=slx
   dsimp only at hmro hdel hok hni hsl
   subst e1 e2 hmro hdel hsl
   exact⟨tl,ns,nm,qn,bs,hd,sn,sub,ab,col,ddx,z0,z1,z2,z3,z5,_,kin _ _ look,.of_isNs (PySem.W.isNs_of_in kin hok),PySem.W.nsMap_none_of_in kin hok hni,PySem.W.tail_of_in kin htl⟩
  next=>cases q
 next=>cases q
abbrev bmVE:List Value:=[.type "ValueError",.type "Exception",.type "BaseException",.type "object"]
theorem ps_raise{X:Cx}{c:Str}{C:Addr}{e₀:Expr}{es:List Expr}{np cpos pos:Pos}{ta:TA}{W:St→Hp→Prop}(hc:X.calm=true)(hg:Gl X c)(hm:X.mg c=some (.ref C)) (q:PySem.W.excIn X.K C bmVE "ValueError.__new__"=true)
  (ha:PA X (e₀::es) ta) (hW:∀(pins:List (Addr × Obj)) (σ:St) (H:Hp) (s:Shared) (e:Addr) (h1:Heap) (vs:List Value),Inv X pins σ H s→W σ H→Heap.MadeExcOf s.heap h1 e (.ref C) vs→X.xe (.ref e) { s with heap:=h1 })
  (hd:(c==("__debug__":Str))=false:=by decide) (he:starEach (e₀::es) X.env=(false,eval e₀ X.env)::starEach es X.env:=by rfl) (hpl:(backTo cpos (starEach es X.env)).any (·.1)=false:=by rfl) :
  PS X (.Raise (some (.Call (.Name c np) (e₀::es) [] cpos)) none pos) (fun _ σ H=>ta σ H fun vs H1=>vs.length≤sizeLine∧W σ H1):=by
 intro pins s σ H D I h
 obtain⟨tl,N,nm,qq,bs,hdct,sn,sub,ab,col,dd,k0,k1,k2,k3,k5,mN,hC,hN,hni,T⟩:=(ownExc_of I.mod.kin hm q).obj
 refine wpAny_Raise_call_subU (C:=C) (nm:=nm) (q:=qq) (N:=N) (bs:=bs) (bm:=tl) (hdct:=hdct) (sn:=sn) (sub:=sub) (ab:=ab) (col:=col) (dd:=dd) (k0:=k0) (k1:=k1) (k2:=k2) (k3:=k3) (k5:=k5)
  PySem.F.excBase_ValueError (by decide +kernel) PySem.F.excBase_ValueError (mN:=mN) (T.hasType PySem.F.excBase_ValueError.hasBase) (I.ok.hd hc) ?_ hni (ld_glob I hg hm ⟨rfl,?_⟩ hd)
 ·rw [he]
  show(false||(backTo cpos (starEach es X.env)).any (·.1))=false
  rw [hpl]
  rfl
 ·have h2:=ha cpos pins s σ H _ I h
  rw [he] at h2 ⊢
  refine Calls.evalArgs_plain (wpAny_mono h2 (fun us s2 ⟨vs,H1,I1,rv,hl,hw⟩=>⟨rfl,?_,I1.bk _ _ hC,hN.keeps I1.bk,T.keeps I1.bk,fun h' e hx=>hW pins σ H1 s2 e h' us I1 hw hx⟩) fun _ _ z=>z)
  rw [←rv.length]
  exact hl
section
variable{P:Program}{w:World}{K:PySem.W.Frag}{mg:Str→Option Value}{base:Heap}
theorem ps_raise1{N:List Str}{qual:Str}{scope:Scope}{f:Addr}{cd:Value}{A:Around}{outer:List Env}{s:Shared}{H:Hp}{E:XK}{c:Str}{C:Addr}{e₀:Expr}{es:List Expr}{np cpos pos:Pos}{ta:TA}
  (hg:Gl (cxOf (CX1 P w) P w K mg base N qual scope f cd A outer s H E) c) (hm:mg c=some (.ref C)) (q:PySem.W.excIn K C bmVE "ValueError.__new__"=true) (ha:PA (cxOf (CX1 P w) P w K mg base N qual scope f cd A outer s H E) (e₀::es) ta)
  (hd:(c==("__debug__":Str))=false:=by decide) (he:starEach (e₀::es) (envOfC qual scope s.heap.objs.size f cd)=(false,eval e₀ (envOfC qual scope s.heap.objs.size f cd))::starEach es (envOfC qual scope s.heap.objs.size f cd):=by rfl)
  (hpl:(backTo cpos (starEach es (envOfC qual scope s.heap.objs.size f cd))).any (·.1)=false:=by rfl) :
  PS (cxOf (CX1 P w) P w K mg base N qual scope f cd A outer s H E) (.Raise (some (.Call (.Name c np) (e₀::es) [] cpos)) none pos) (fun _ σ H=>ta σ H fun vs H1=>vs.length≤sizeLine∧E (.ref C) none H1) :=
 ps_raise (X:=cxOf (CX1 P w) P w K mg base N qual scope f cd A outer s H E) (W:=fun _ H1=>E (.ref C) none H1) rfl hg hm q ha (fun pins σ H s e h1 vs I hw hx=>Fly.made I rfl rfl rfl hx fun s'' g gd=>⟨e,.ref C,none,H,rfl,g,gd,hw⟩) hd he hpl
theorem Fun.okX{x qual:Str}{st:Stmt}{f:Addr}{fd:FuncData}{N ps:List Str}{k:Nat}{sp:Sp}(F:Fun K x qual st f fd)(S:FnScope N ps (defScope st))(len:∀vs H Q E,sp vs H Q E→vs.length=ps.length)
  (hbody:∀(cdv:Value) (A:Around) (outer:List Env) (s:Shared) (H:Hp) (vs:List V) (Q:VK) (E:XK),Room k (A.deeper (envOfC qual (defScope st) s.heap.objs.size f cdv))→sp vs H Q E →
   ∃t,PSs (cxOf (CX1 P w) P w K mg base N qual (defScope st) f cdv A outer s H E) (defBody st) t∧t { nx:=fun _ H'=>Q .non H',rt:=Q } (start N vs) H):FnOk P w K mg base (CX1 P w) (k+1) f fd ps sp:=by
 obtain⟨oc,od,kV,doc,pm,an,cdv,ct,osl,rfl,lk,hcd⟩:=F.ex
 exact fn_of lk hcd S len fun A outer s H vs Q E hr hsp=>hbody cdv A outer s H vs Q E hr hsp
end
end L2
namespace L2
open PySem PySem.Spec PyProof.Rows
section
variable{X:Cx}{pins:List (Addr × Obj)}{σ:St}{H H':Hp}{s s':Shared}{x:Addr}{cls:Value}
theorem Fly.on{h':Heap}(f:Fly X.prog X.w X.stack H s x cls H' s')(I:Inv X pins σ H s){B:Heap}{a0 a1:Value}(fl:Heap.FlyingW B X.stack x cls a0 s'.heap)(c1:∀b o,H' b=some o→∃u,B.get? b=some u)
  (c2:∀b o,s.heap.get? b=some o→b∉frs X.stack→∃u,B.get? b=some u) (fl':Heap.FlyingW B X.stack x cls a1 h') (up:s'.heap.UpToSlots h'):Fly X.prog X.w X.stack H s x cls H' { s' with heap:=h' }:=by
 have st:∀b o,B.get? b=some o→h'.get? b=some o:=fl'.1
 have same:∀b u v,B.get? b=some u→s'.heap.get? b=some v→u=v:=fun b u v h1 h2=>by
  have h3:=fl.1 b u h1
  rw [h2] at h3
  exact(Option.some.inj h3).symm
 have slot:∀b o,s.heap.get? b=some o→H b=none→b∈frs X.stack→∃sl,h'.get? b=some { o with slots:=sl }:=fun b o e n hb=>by
  obtain⟨sl2,e2⟩:=f.un.any e n (by simp)
  obtain⟨_,of,ho,hnf⟩:=I.stack.mem hb
  rw [e] at ho
  cases ho
  obtain⟨sl3,e3⟩:=up b _ e2 hnf
  exact⟨sl3,e3⟩
 refine⟨f.os,f.bare,⟨fun b o e n hb _=>?_,fun b o e n hb _=>slot b o e n hb,f.un.free,fun b o e _=>?_,f.un.tups,f.un.frzs,f.un.tbls⟩,fun a o e=>?_,⟨B,a1,fl',c1,c2⟩,f.free⟩
 ·have e2:=f.un.keep b o e n hb (by simp)
  obtain⟨u,hu⟩:=c2 b o e hb
  exact same b u o hu e2▸st b u hu
 ·by_cases hb:b∈frs X.stack
  ·obtain⟨sl,e1⟩:=slot b o e (I.stkFree b hb) hb
   exact⟨_,e1⟩
  ·obtain⟨u,hu⟩:=c2 b o e hb
   exact⟨u,st b u hu⟩
 ·refine(f.hok a o e).stay (fun b u hb q=>?_) (fun _ q=>q) fun _ _ q=>q
  have t:∃o',H' b=some o':=by
   rcases hb with z|z
   ·exact⟨o,by rw [z];exact e⟩
   ·exact⟨_,z⟩
  obtain⟨o',e'⟩:=t
  obtain⟨v,hv⟩:=c1 b o' e'
  exact same b v u hv q▸st b v hv
theorem Fly.inv(f:Fly X.prog X.w X.stack H s x cls H' s')(I:Inv X pins σ H s):Inv X pins σ H' s':=I.call' (ch:=[]) f.os f.un f.hok f.bare fun b z=>absurd z (by simp)
theorem Fly.there(f:Fly X.prog X.w X.stack H s x cls H' s'):∃ob,s'.heap.get? x=some ob∧ob.cls=cls:=by
 obtain⟨B,a0,fl,_⟩:=f.fl
 exact fl.there
theorem Fly.again{A:Around}{E:Value→Shared→Prop}{Q:Unit→Shared→Prop}(f:Fly X.prog X.w X.stack H s x cls H' s')(I:Inv X pins σ H s){d:Option Addr}(hdi:DictIs x d s')(hQ:∀s'',Fly X.prog X.w X.stack H s x cls H' s''→DictIs x d s''→Q () s'') :
  wpAny (model X.prog X.w) A (setFlight (.ref x) none) Q E s':=by
 refine wpAny_mono (Keeps.flight.wpAny (E:=E) (Q:=fun _ s''=>Fly X.prog X.w X.stack H s x cls H' s'') hdi ?_) (fun _ s'' z=>hQ s'' z.1 z.2) fun _ _ z=>z.1
 obtain⟨B,a0,fl,c1,c2⟩:=f.fl
 exact lands_againW fl fun h' fl' up=>f.on I fl c1 c2 fl' up
theorem Fly.look{E E2:Value→Shared→Prop}{Q:Unit→Shared→Prop}(f:Fly X.prog X.w X.stack H s x cls H' s')(I:Inv X pins σ H s)(hst:X.stack=X.env::X.outer)(hfr:X.env.frame=some X.env.locals){d:Option Addr}(hdi:DictIs x d s')
  (hQ:∀s'',Fly X.prog X.w X.stack H s x cls H' s''→DictIs x d s''→Q () s''):wpAny (model X.prog X.w) X.A (noteFrame (.ref x) X.env) (fun _ s2=>wpAny (model X.prog X.w) X.A (setFlight (.ref x) none) Q E2 s2) E s':=by
 obtain⟨B,a0,fl,c1,c2⟩:=f.fl
 have fl0:=fl
 rw [hst] at fl
 refine wpAny_mono (Keeps.note.wpAny (E:=E) (Q:=fun _ s2=>wpAny (model X.prog X.w) X.A (setFlight (.ref x) none) (fun _ s''=>Fly X.prog X.w X.stack H s x cls H' s'') E2 s2) hdi ?_) (fun _ s2 z=>?_) fun _ _ z=>z.1
 ·refine wpAny_looks_onW (by rw [I.ok.frames,hst]) hfr fl fun h' hd up=>?_
  refine wpAny_landsW hd fun h2 fl2 up2=>?_
  rw [←hst] at fl2
  exact f.on I fl0 c1 c2 fl2 (up.trans up2)
 ·exact wpAny_mono (Keeps.flight.wpAny z.2 z.1) (fun _ s'' y=>hQ s'' y.1 y.2) fun _ _ y=>y.1
end
abbrev Cx.inE(X:Cx)(e:Addr):Cx:={ X with A:=X.A.mark (some (.ref e)),calm:=false }
section
variable{X:Cx}{pins:List (Addr × Obj)}{σ:St}{H:Hp}{s:Shared}
theorem Cx.Ok.inE{e:Addr}(ok:X.Ok):(X.inE e).Ok:=⟨ok.mod,ok.kind,ok.glob,ok.blt,ok.above,ok.inj,ok.has,ok.cab,fun z=>absurd z (by simp),ok.frames,ok.stk,ok.exf,ok.bs,ok.bsz,ok.noex,ok.exfs,ok.funs,ok.frf⟩
theorem Inv.inE{e:Addr}(I:Inv X pins σ H s):Inv (X.inE e) pins σ H s:=⟨I.ok.inE,I.os,I.bare,I.base,I.loc,I.cell,I.free,I.freeC,I.pin,I.hok,I.len⟩
theorem Inv.outE{e:Addr}{E:Value→Shared→Prop}(ok:X.Ok)(I:Inv ((X.inE e).wish E) pins σ H s):Inv X pins σ H s:=⟨ok,I.os,I.bare,I.base,I.loc,I.cell,I.free,I.freeC,I.pin,I.hok,I.len⟩
theorem SP.outE{e:Addr}{E:Value→Shared→Prop}{D:Ends}{f:Flow}{s':Shared}(ok:X.Ok)(h:SP ((X.inE e).wish E) pins D f s'):SP X pins D f s':=by
 cases f with
 |next=>obtain⟨σ',H',I,q⟩:=h;exact⟨σ',H',I.outE ok,q⟩
 |brk=>obtain⟨σ',H',I,q⟩:=h;exact⟨σ',H',I.outE ok,q⟩
 |cont=>obtain⟨σ',H',I,q⟩:=h;exact⟨σ',H',I.outE ok,q⟩
 |ret u=>obtain⟨v,σ',H',I,r,q⟩:=h;exact⟨v,σ',H',I.outE ok,r,q⟩
end
abbrev TH:=Ends→Value→Option Addr→Addr→St→Hp→Prop
def PH(X:Cx)(hs:List ExceptHandler)(t:TH):Prop :=
 ∀(pins:List (Addr × Obj)) (σ:St) (H H':Hp) (s s':Shared) (D:Ends) (cls:Value) (d:Option Addr) (e:Addr),Inv X pins σ H s→Fly X.prog X.w X.stack H s e cls H' s'→DictIs e d s'→t D cls d e σ H' →
  wpAny (model X.prog X.w) X.A (handleBy (.ref e) X.env hs) (SP X pins D) X.xe s'
theorem ph_nil{X:Cx}:PH X [] (fun _ _ _ _ _ _=>False):=fun _ _ _ _ _ _ _ _ _ _ _ _ _ h=>h.elim
theorem ph_cons{X:Cx}{d:Str}{vd:Value}{np pos:Pos}{b₀:Stmt}{suite:List Stmt}{rest:List ExceptHandler}{th:TS}{tr:TH}(hg:Gl X d)(hm:X.mg d=some vd)(hb:∀e,PSs (X.inE e).nox (b₀::suite) th)(hr:PH X rest tr)
  (hd:(d==("__debug__":Str))=false:=by decide) :
  PH X (.ExceptHandler (some (.Name d np)) none (b₀::suite) pos::rest) (fun D cls dd e σ H=>∃b,PySem.W.exmOne X.K cls vd=some b∧if b=true then th D σ H else tr D cls dd e σ H):=by
 intro pins σ H H' s s' D cls dd e I f hdi h
 obtain⟨b,hx,h⟩:=h
 have I1:=f.inv I
 obtain⟨ob,hob,hcl⟩:=f.there
 have LT:PySem.W.Looks (model X.prog X.w) s'.heap (typeOf (.ref e)) cls:=by
  rw [←hcl]
  exact(PySem.W.Looks.ld hob).andThen .now
 refine wpAny_handleBy_cons (codeAny_handlers_test (Calls.Name_function_global I1.ok.kind hg (Calls.loadGlobal_global (by rw [I1.ok.glob];exact I1.mod.glob.keeps I1.bk) hm ?_) hd)) (by intro q;cases q)
 refine(PySem.W.exm_one I1.kIn LT hx).here ?_
 cases b with
 |false=>exact hr pins σ H H' s s' D cls dd e I f hdi h
 |true =>
  refine codeAny_handlers_suite (f.again I hdi fun s2 f2 _=>?_)
  have I2:=(f2.inv I).inE (e:=e)
  exact wpAny_mono (hb e pins s2 σ H' D (I2.wish _) h) (fun fl s3 q=>SP.outE I1.ok q) fun _ _ z=>False.elim z
def etry(X:Cx)(hs:List ExceptHandler)(pins:List (Addr × Obj))(D:Ends):Value→Shared→Prop:=fun e s1 =>
 wpAny (model X.prog X.w) X.A (noteFrame e X.env) (fun _ s2=>wpAny (model X.prog X.w) X.A (setFlight e none) (fun _ s3=>wpAny (model X.prog X.w) X.A (handleBy e X.env hs) (SP X pins D) X.xe s3) X.xe s2) X.xe s1
abbrev Cx.tryIn(X:Cx)(hs:List ExceptHandler)(pins:List (Addr × Obj))(D:Ends):Cx:={ X with pn:=X.pn++pins,xe:=etry X hs pins D }
section
variable{X:Cx}{hs:List ExceptHandler}{pins pins':List (Addr × Obj)}{D D':Ends}{σ:St}{H:Hp}{s:Shared}
theorem Cx.Ok.tryIn(ok:X.Ok):(X.tryIn hs pins D).Ok:=⟨ok.mod,ok.kind,ok.glob,ok.blt,ok.above,ok.inj,ok.has,ok.cab,ok.hd,ok.frames,ok.stk,ok.exf,ok.bs,ok.bsz,ok.noex,ok.exfs,ok.funs,ok.frf⟩
theorem Cx.Ok.tryOut(ok:(X.tryIn hs pins D).Ok):X.Ok:=⟨ok.mod,ok.kind,ok.glob,ok.blt,ok.above,ok.inj,ok.has,ok.cab,ok.hd,ok.frames,ok.stk,ok.exf,ok.bs,ok.bsz,ok.noex,ok.exfs,ok.funs,ok.frf⟩
theorem Inv.tryIn(I:Inv X pins σ H s):Inv (X.tryIn hs pins D) [] σ H s:=⟨I.ok.tryIn,I.os,I.bare,I.base,I.loc,I.cell,I.free,I.freeC,fun p hp=>I.pin p (by simpa using hp),I.hok,I.len⟩
theorem Inv.tryOut(I:Inv (X.tryIn hs pins D) pins' σ H s):Inv X pins σ H s:=⟨I.ok.tryOut,I.os,I.bare,I.base,I.loc,I.cell,I.free,I.freeC,fun p hp=>I.pin p (List.mem_append_left _ hp),I.hok,I.len⟩
theorem SP.tryOut{f:Flow}{s':Shared}(h:SP (X.tryIn hs pins D') [] D f s'):SP X pins D f s':=by
 cases f with
 |next=>obtain⟨σ',H',I,q⟩:=h;exact⟨σ',H',I.tryOut,q⟩
 |brk=>obtain⟨σ',H',I,q⟩:=h;exact⟨σ',H',I.tryOut,q⟩
 |cont=>obtain⟨σ',H',I,q⟩:=h;exact⟨σ',H',I.tryOut,q⟩
 |ret u=>obtain⟨v,σ',H',I,r,q⟩:=h;exact⟨v,σ',H',I.tryOut,r,q⟩
end
theorem ps_try{X:Cx}{body:List Stmt}{h₀:ExceptHandler}{hs:List ExceptHandler}{pos:Pos}{tb:Ends→TS}(hb:∀pins D,PSs (X.tryIn (h₀::hs) pins D) body (tb D)):PS X (.Try body (h₀::hs) [] [] pos) (fun D σ H=>tb D D σ H):=by
 intro pins s σ H D I h
 refine wpAny_Try_except (wpAny_mono (hb pins D [] s σ H D I.tryIn h) (fun f s1 q=>?_) fun _ _ z=>z)
 have q':=SP.tryOut q
 cases f with
 |next=>exact wpAny_execs_nil q'
 |brk=>exact q'
 |cont=>exact q'
 |ret u=>exact q'
theorem passT{X:Cx}{hs:List ExceptHandler}{pins:List (Addr × Obj)}{D:Ends}{th:TH}(hst:X.stack=X.env::X.outer)(hfr:X.env.frame=some X.env.locals)(hh:PH X hs th) :
  ∀(pins':List (Addr × Obj)) (σ:St) (H:Hp) (s:Shared) (e:Value) (s':Shared),Inv (X.tryIn hs pins D) pins' σ H s→CX1 X.prog X.w X.stack H s (fun cls d H'=>∀x,H' x=none→th D cls d x σ H') e s'→(X.tryIn hs pins D).xe e s':=by
 intro pins' σ H s e s' I h
 obtain⟨x,cls,d,H',rfl,f,hdi,hE⟩:=h
 have I0:Inv X pins σ H s:=I.tryOut
 exact Fly.look f I0 hst hfr hdi fun s'' f2 d2=>hh pins σ H H' s s'' D cls d x I0 f2 d2 (hE x f.free)
section
variable{X:Cx}{CX:CXT}{k:Nat}{f C:Addr}{fd:FuncData}{ps:List Str}{sp:Sp}{dvs:List V}{ds:List Value}{E:St→XK}{x m:Str}{p pos apos:Pos}{e o:Expr}{es:List Expr}{ta:TE}{t:TA}
theorem pe_callE(F:FnOk X.prog X.w X.K X.mg X.base CX k f fd ps sp)(hr:Room k X.A)(hg:Gl X x)(hm:X.mg x=some (.ref f))(hk:PySem.W.keepIn X.K (.ref f)=true)(hb:Binds X.K fd ps ds)(hd:Vals dvs ds)
  (hx:∀(pins:List (Addr × Obj)) (σ:St) (H:Hp) (s:Shared) (e:Value) (s':Shared),Inv X pins σ H s→CX X.stack H s (E σ) e s'→X.xe e s') (ha:PA X (e::es) t)
  (hdb:(x==("__debug__":Str))=false:=by decide) (he:starEach (e::es) X.env=(false,eval e X.env)::starEach es X.env:=by rfl) (hpl:(backTo pos (starEach es X.env)).any (·.1)=false:=by rfl) :
  PE X (.Call (.Name x p) (e::es) [] pos) (fun σ H Q=>t σ H fun vs H1=>sp (vs++dvs) H1 Q (E σ)):=by
 intro pins s σ H Q I h
 refine wpAny_Call_Name_kw (ld_glob I hg hm ?_ hdb)
 refine PySem.W.callWith_K (h₀:=X.base) I.ok.mod.kin hk (thn (ha pos pins s σ H _ I h) fun us s1 ⟨vs,H1,I1,r,q⟩=>⟨I1.kIn,?_⟩) he hpl
 have r2:Vals (vs++dvs) (us++ds):=r.append hd
 have hl:(us++ds).length=ps.length:=by rw [←r2.length];exact F.len _ _ _ _ q
 refine wpAny_call (codeAny_mono (F.run X.A X.stack s1 H1 ⟨us,[]⟩ (us++ds) (vs++dvs) Q (E σ) hr I1.env0 (hb s1 us I1.kIn hl) r2 q) fun r s' hq=>?_)
 cases r with
 |error e=>exact hx pins σ H1 s1 e s' I1 hq
 |ok fl =>
  cases fl with
  |ret u=>exact I1.after hq
  |next=>exact False.elim hq
  |brk=>exact False.elim hq
  |cont=>exact False.elim hq
end
end L2
namespace L2
open PySem PySem.Spec PyProof.Rows
section
variable{X:Cx}{pos:Pos}{e:Expr}{es:List Expr}{te:TE}
abbrev TJ:=St→Hp→(Hp→Prop)→Prop
def PJ(X:Cx)(es:List Expr)(t:TJ):Prop :=
 ∀(pins:List (Addr × Obj)) (s:Shared) (σ:St) (H:Hp) (acc:Str) (Z:Hp→Prop),acc.length+2000000*es.length≤sizeLine→Inv X pins σ H s→t σ H Z →
  Joins (model X.prog X.w) X.A X.xe (evalEach es X.env) acc (fun out s1=>out.length≤sizeLine∧∃H1,Inv X pins σ H1 s1∧Z H1) s
theorem pj_nil:PJ X [] (fun _ H Z=>Z H):=fun _ _ _ H _ _ hz I h=>⟨Nat.le_trans (Nat.le_add_right _ _) hz,H,I,h⟩
theorem pj_cons{tj:TJ}(he:PE X e te)(hr:PJ X es tj):PJ X (e::es) (fun σ H Z=>te σ H fun v H1=>∃y:Str,v=.str y∧y.length≤2000000∧tj σ H1 Z):=by
 intro pins s σ H acc Z hz I h
 refine thn (he pins s σ H _ I h) fun u s1 ⟨v,H1,I1,r,y,hv,hy,q⟩=>?_
 subst hv
 obtain⟨t,rfl⟩:=r
 have e1:(acc++y).length=acc.length+y.length:=by
  show Array.size (acc.cps++y.cps)=_
  rw [Array.size_append]
  rfl
 have e2:(e::es).length=es.length+1:=rfl
 rw [e2] at hz
 refine⟨y,t,rfl,by omega,hr pins s1 σ H1 (acc++y) Z (by omega) I1 q⟩
theorem pe_fstr{v1 v2:Expr}{rest:List Expr}{tj:TJ}(hj:PJ X (v1::v2::rest) tj)(hl:(v1::v2::rest).length≤8) :
  PE X (.JoinedStr (v1::v2::rest) pos) (fun σ H Q=>tj σ H fun H1=>∀z:Str,z.length≤sizeLine→Q (.str z) H1):=by
 intro pins s σ H Q I h
 have hz:Str.empty.length+2000000*(v1::v2::rest).length≤sizeLine:=by
  have e0:Str.empty.length=0:=rfl
  rw [sizeLine_eq,e0]
  rw [Nat.zero_add]
  exact Nat.le_trans (Nat.mul_le_mul_left _ hl) (Nat.le_of_ble_eq_true rfl)
 refine wpAny_JoinedStr ?_
 have j:=hj pins s σ H Str.empty _ hz I h
 exact joins_mono _ _ (fun out s1 ⟨h1,H1,I1,q⟩=>⟨h1,.str out,H1,I1.tok _,⟨_,rfl⟩,q out h1⟩) _ j
where joins_mono {M:Model} {A:Around} {E:Value→Shared→Prop}:∀(parts:List (Sem Value)) (acc:Str) {Q Q':Str→Shared→Prop},(∀out s,Q out s→Q' out s)→∀s,Joins M A E parts acc Q s→Joins M A E parts acc Q' s
 |[],acc,_,_,hq,s,h=>hq _ _ h
 |x::rest,acc,_,_,hq,s,h=>thn (show wpAny _ _ _ _ _ _ from h) fun v s1 ⟨y,t,e1,e2,e3⟩=>⟨y,t,e1,e2,joins_mono rest (acc++y) hq s1 e3⟩
theorem pe_fv(he:PE X e te):PE X (.FormattedValue e (-1) none pos) (fun σ H Q=>te σ H fun v H1=>(∃y:Str,v=.str y∧y.length≤sizeLine∧Q (.str y) H1)∨∃i:Int,v=.int i∧i.natAbs.log2 < 1920∧Q (.str (toString i)) H1):=by
 intro pins s σ H Q I h
 refine FormattedValue_plain (thn (he pins s σ H _ I h) fun u s1 ⟨v,H1,I1,r,q⟩=>?_)
 rcases q with ⟨y,rfl,hy,q⟩|⟨i,rfl,hi,q⟩
 ·obtain⟨t,rfl⟩:=r
  exact formatField_str (fun t' tk=>⟨.str y,H1,I1.tok _,⟨_,rfl⟩,q⟩) hy
 ·obtain⟨t,rfl⟩:=r
  exact formatField_int_small hi ⟨.str _,H1,I1.tok _,⟨_,rfl⟩,q⟩
theorem pe_fr(he:PE X e te):PE X (.FormattedValue e 114 none pos) (fun σ H Q=>te σ H fun v H1=>∃y:Str,v=.str y∧PyData.strOk y=true∧y.length≤9000∧∀z:Str,z.length≤100000→Q (.str z) H1):=by
 intro pins s σ H Q I h
 refine wpAny_FormattedValue_repr (thn (he pins s σ H _ I h) fun u s1 ⟨v,H1,I1,r,y,hv,hok,hy,q⟩=>?_)
 subst hv
 obtain⟨t,rfl⟩:=r
 have hl:=StrLaws.reprText_len y fun c hc=>by
  have h1:y.cps.all (· < 0x110000)=true:=hok
  rw [Array.all_eq_true_iff_forall_mem] at h1
  have h2:=h1 c (by simpa using hc)
  have h3:c < 0x110000:=by simpa using h2
  exact Nat.lt_trans h3 (by decide)
 have hz:(reprText y).length≤sizeLine:=Nat.le_trans hl (by rw [sizeLine_eq];omega)
 refine wpAny_pyReprObj_str ?_ hz
 exact formatField_str (fun t' tk=>⟨.str _,H1,(I1.tok _).tok _,⟨_,rfl⟩,q _ (by omega)⟩) hz
end
end L2
namespace L2
open PySem PySem.Spec PyProof.Rows
section
variable{prog:Program}{w:World}{A:Around}{s:Shared}{E:Value→Shared→Prop}{K:Type}[DecidableEq K]{knd:KeyKind prog w K}
end
section
variable{X:Cx}
theorem call_dict_dK:CallR X (.type "dict") (fun xs H Q=>∃a kvs,xs=[.ref a]∧H a=some (.dK kvs)∧∀l,H l=none→Q (.ref l) (upd H l (.dK kvs))):=by
 intro pins s σ H xs us Q I r h
 obtain⟨a,kvs,rfl,ha,q⟩:=h
 obtain⟨u,rfl,ru⟩:=vals1 r
 cases ru
 obtain⟨z,hd,vs,rel,dd⟩:=dk_of I.hok ha
 refine PySem.kt_call_dict hd dd (by rw [←rel.length];exact z) fun h' dd' hs=>?_
 have keep:∀b o,s.heap.get? b=some o→h'.get? b=some o:=fun b o e=>(hs.2 b (Nat.ne_of_lt (Heap.lt_size e))).trans (Heap.get?_push_of_some _ e)
 refine⟨.ref s.heap.objs.size,_,I.laid (o:=.dK kvs) (t':=s.toks) keep (Nat.le_refl _) ⟨z,beq_eq_false_iff_ne.mpr (Ne.symm (Nat.ne_of_lt I.big)),vs,rel,dd'⟩,rfl,q _ (I.hok.fresh (Nat.le_refl _))⟩
end
end L2
namespace L2
open PySem PySem.Spec PyProof.Rows
structure ExcCls(K:PySem.W.Frag)(D:Addr):Prop where
 is:(match K.lookup D with|some ⟨_,_,.cls _,_⟩=>true|_=>false)=true
 ga:PySem.W.findIn K (.ref D) "__getattribute__"=some (some (.builtin "BaseException.__getattribute__"))
 gh:PySem.W.findIn K (.ref D) "__getattr__"=some none
 cl:PySem.W.findIn K (.ref D) "__class__"=some (some (.builtin "object.__class__"))
 sp:PySem.W.specialIn K (.builtin "object.__class__") "__get__"=some (some (.builtin "getset_descriptor.__get__"))
 tk:PySem.W.takesIn K (.builtin "object.__class__")=some true
 ob:PySem.W.mroIn K D (.type "object")=some true
 be:PySem.W.mroIn K D (.type "BaseException")=some true
section
variable{prog:Program}{w:World}{A:Around}{E:Value→Shared→Prop}{s:Shared}{K:PySem.W.Frag}{x D:Addr}
end
section
variable{X:Cx}
end
section
variable{X:Cx}{pins:List (Addr × Obj)}{σ:St}{H H':Hp}{s s':Shared}{x:Addr}{cls:Value}
def Ends.gone(D:Ends)(i:Nat):Ends:={ nx:=fun σ H=>D.nx (σ.set i none) H,rt:=D.rt,bk:=fun σ H=>D.bk (σ.set i none) H,ct:=fun σ H=>D.ct (σ.set i none) H }
end
end L2
namespace L2
open PySem PySem.Spec PyProof.Rows
structure FunD(K:PySem.W.Frag)(x qual:Str)(st:Stmt)(dV:Value)(f:Addr)(fd:FuncData):Prop where
 ex:∃(oc:Value) (od:Option Addr) (kV doc pm:Value) (an:Option Addr) (cdv ct:Value) (osl:Array (Option Value)),
  fd=PySem.W.fnOf x qual (defArgs st) (defBody st) (defScope st) dV kV doc pm an cdv ct∧K.lookup f=some ⟨oc,od,.func fd,osl⟩∧PySem.W.codeIn K cdv qual=true
 kp:PySem.W.keepIn K (.ref f)=true
section
variable{P:Program}{w:World}{K:PySem.W.Frag}{mg:Str→Option Value}{base:Heap}
theorem FunD.okX{x qual:Str}{st:Stmt}{dV:Value}{f:Addr}{fd:FuncData}{N ps:List Str}{k:Nat}{sp:Sp}(F:FunD K x qual st dV f fd)(S:FnScope N ps (defScope st))(len:∀vs H Q E,sp vs H Q E→vs.length=ps.length)
  (hbody:∀(cdv:Value) (A:Around) (outer:List Env) (s:Shared) (H:Hp) (vs:List V) (Q:VK) (E:XK),Room k (A.deeper (envOfC qual (defScope st) s.heap.objs.size f cdv))→sp vs H Q E →
   ∃t,PSs (cxOf (CX1 P w) P w K mg base N qual (defScope st) f cdv A outer s H E) (defBody st) t∧t { nx:=fun _ H'=>Q .non H',rt:=Q } (start N vs) H):FnOk P w K mg base (CX1 P w) (k+1) f fd ps sp:=by
 obtain⟨oc,od,kV,doc,pm,an,cdv,ct,osl,rfl,lk,hcd⟩:=F.ex
 exact fn_of lk hcd S len fun A outer s H vs Q E hr hsp=>hbody cdv A outer s H vs Q E hr hsp
theorem FunD.binds{x qual:Str}{st:Stmt}{T:Addr}{f:Addr}{fd:FuncData}{ps:List Str}{oT:Value}{dT:Option Addr}{its:Array Value}{nT:Nat}{sT:Array (Option Value)}{ds:List Value}(F:FunD K x qual st (.ref T) f fd)(lT:K.lookup T=some ⟨oT,dT,.seq its nT,sT⟩)
  (h:∀(kV doc pm:Value) (an:Option Addr) (cdv ct:Value) (us:List Value),(us++ds).length=ps.length→∃k:Option (Array Value)→Sem (List (Str × Value)),
   bindArgs (PySem.W.fnOf x qual (defArgs st) (defBody st) (defScope st) (.ref T) kV doc pm an cdv ct) ⟨us,[]⟩=seqItems? (.ref T) >>= k∧k (some its)=pure (ps.zip (us++ds))):Binds K fd ps ds:=by
 obtain⟨oc,od,kV,doc,pm,an,cdv,ct,osl,rfl,lk,hcd⟩:=F.ex
 intro s us kin hl
 obtain⟨k,h1,h2⟩:=h kV doc pm an cdv ct us hl
 exact BindsTo.of_defaults rfl (kin _ _ lT) rfl h1 h2
end
end L2
namespace L2
open PySem PySem.Spec PyProof.Rows
section
variable{X:Cx}
theorem ps_compG{i0:Nat}{y0:Str}{py0 spos:Pos}{tg elt iter:Expr}{ifs:List Expr}{own caps:List Str}{κ:List Nat}{sc:Scope}{cl:List (Str × Addr)}{pos:Pos}{wi:TI}{g:TG}{tc:TT}{te:TE}(hN:X.N.Nodup)(hi0:X.N[i0]?=some y0)(hy0:Loc X.env.scope y0)(hcalm:X.calm=true)(S:BlkSc X caps sc cl)(hκ:κ.map (fun k=>X.N[k]?)=caps.map some)
  (hi:PI X tg iter wi) (hg:∀s₀ H₀ C ex,PG (blk X (own++caps) sc cl s₀ H₀ C ex) tg g)
  (hc:∀s₀ H₀ C ex (pins:List (Addr × Obj)) (s:Shared) (σ:St) (H:Hp) (Q:Bool→Hp→Prop),Inv (blk X (own++caps) sc cl s₀ H₀ C ex) pins σ H s→tc σ H Q →
   wpAny (model X.prog X.w) X.A (forIn ifs true fun c r=>if r=true then do let ok ←isTrue c (compEnvC sc cl C X.env) (eval c (compEnvC sc cl C X.env));pure (ForInStep.yield ok) else pure (ForInStep.yield r)) (TP (blk X (own++caps) sc cl s₀ H₀ C ex) pins σ Q) (fun _ _=>False) s)
  (he:∀s₀ H₀ C ex,PE (blk X (own++caps) sc cl s₀ H₀ C ex) elt te)
  (hs:∀x,foldedSetIterable iter X.env x=pure x:=by intro _;rfl) (hsw:swapsWith (.ListComp elt [⟨tg,iter,ifs,0⟩] sc pos) (some (.Name y0 py0)) spos.line X.env=pure true:=by rfl)
  (hf0:X.fn y0=true∨X.env.scope.names.lookup y0=some .local:=by first|exact .inl rfl|exact .inr rfl|assumption) :
  PS X (.Assign [.Name y0 py0] (.ListComp elt [⟨tg,iter,ifs,0⟩] sc pos) spos) (tAsg (tComp own.length κ wi g tc te) (gName i0)):=by
 intro pins s σ H D0 I h
 rw [exec_Assign_Name_used _ _ _ _ hsw]
 refine wpAny_bind (wpAny_standAt (wpAny_bind ?_))
 show wpAny _ X.A (do let _ ←comprehension (.ListComp elt [⟨tg,iter,ifs,0⟩] sc pos) sc X.env _ (newList []) false (eval iter X.env) (some (assign (.Name y0 py0) X.env))) _ _ s
 refine wpAny_bind (wpAny_mono (wpAny_comprehension_free (use:=some (assign (.Name y0 py0) X.env)) (Q:=fun _ s'=>SP X pins D0 .next s') rfl hs S.clos S.kind S.names (thn (hi pins s σ H _ I h) fun v s1 h1=>thn h1 fun itv s2 h2=>?_))
  (fun _ s' hq=>wpAny_pure (wpAny_pure hq)) fun _ _ e=>e)
 obtain⟨it,fp,tn,J,H2,e,I2,T,st2,f2,W,⟨m0,w0⟩,turn⟩:=h2
 subst e
 have hfp:∀b∈fp,b < s2.heap.objs.size:=fun b hb=>by
  obtain⟨o,e,_⟩:=T.obj _ _ st2 b hb
  exact Heap.lt_size e
 refine wpAny_newObj_type (wpAny_newFunctionEnv S.nocell (fun y hy=>nomatch hy) (fun h₁ hns hsb=>?_) S.kind)
 generalize ehp:s2.heap.push { cls:=.type "list",dict:=none,data:=.seq ([]:List Value).toArray }=hp at hns hsb ⊢
 have hsz:hp.objs.size=s2.heap.objs.size+1:=by rw [←ehp,Heap.size_push]
 have hDC:s2.heap.objs.size≠hp.objs.size:=by rw [hsz];exact Nat.ne_of_lt (Nat.lt_succ_self _)
 have old:∀b o,hp.get? b=some o→h₁.get? b=some o:=fun b o e=>(hsb.2 b (Nat.ne_of_lt (Heap.lt_size e))).trans (Heap.get?_push_of_some _ e)
 have eD:h₁.get? s2.heap.objs.size=some { cls:=.type "list",data:=.seq ([]:List Value).toArray }:=old _ _ (by rw [←ehp];exact Heap.get?_push_size _ rfl)
 have I0:=Inv.block (own:=own) (h₁:=h₁) (tk:=s2.toks+([]:List (Str × Value)).length) S hκ I2 f2 hfp ehp.symm hns old
 have stkD:s2.heap.objs.size∉frs X.stack:=fun z=>(List.mem_cons.mp (I2.stkSub _ z)).elim (Nat.ne_of_gt I2.lt) (I2.nofs (Nat.le_refl _))
 have cellD:∀x c,cl.lookup x=some c→c≠s2.heap.objs.size:=fun x c q=>by
  obtain⟨v,z⟩:=I2.cell x c (S.subc q)
  exact Nat.ne_of_lt z.lt
 have pinD:∀p∈X.pn++pins,p.1≠s2.heap.objs.size:=fun p hp=>Nat.ne_of_lt (Heap.lt_size (I2.pin p hp).1)
 have stkF:∀b∈fp,b∉frs X.stack:=fun b hb z=>(List.mem_cons.mp (I2.stkSub _ z)).elim (f2 b hb).2.1 (f2 b hb).2.2.1
 have loop:codeAny (model X.prog X.w) X.A (.compLoop (.ListComp elt [⟨tg,iter,ifs,0⟩] sc pos) 0 (.ref it) (.ref s2.heap.objs.size) (compEnvC sc cl hp.objs.size X.env))
   (compPost (model X.prog X.w) X.A X.xe (some (assign (.Name y0 py0) X.env)) (fun _ s'=>SP X pins D0 .next s') (.ref s2.heap.objs.size) hp.objs.size) { s2 with heap:=h₁,toks:=s2.toks+([]:List (Str × Value)).length }:=by
  refine codeAny_loop rfl (fun n s'=>∃(i:Nat) (ys:List V) (its:List Value) (cap:Nat) (H':Hp),Inv (blk X (own++caps) sc cl { s2 with heap:=hp } H2 hp.objs.size (s2.heap.objs.size::fp)) pins (blkSt own.length κ σ) H' s'∧tn i s'.heap∧(∀b∈fp,H' b=none) ∧
   s'.heap.get? s2.heap.objs.size=some { cls:=.type "list",data:=.seq its.toArray cap }∧H' s2.heap.objs.size=none∧Vals ys its∧ys.length≤sizeLine∧W i n ys H') (fun n s3 hI=>?_) m0
   ⟨0,[],[],0,H2,I0,T.keep _ _ _ st2 fun b hb o e=>old _ _ (by rw [←ehp];exact Heap.get?_push_of_some _ e),fun b hb=>(f2 b hb).1,eD,I2.hok.fresh (Nat.le_refl _),.nil,Nat.zero_le _,w0⟩
  obtain⟨i,ys,its,cap,H3,I3,st3,fr3,eD3,nD3,rv,hz,w3⟩:=hI
  show wpAny _ X.A ((compTurn (.ListComp elt [⟨tg,iter,ifs,0⟩] sc pos) 0 (.ref it) (.ref s2.heap.objs.size) (compEnvC sc cl hp.objs.size X.env)).onRaise fun x=>do noteFrame x (compEnvC sc cl hp.objs.size X.env);theTreesLotGoes x) _ _ s3
  refine wpAny_noted ?_
  rw [compTurn_list]
  have I3':Inv (blk X (own++caps) sc cl { s2 with heap:=hp } H2 hp.objs.size (s2.heap.objs.size::fp)) (pins++[(s2.heap.objs.size,{ cls:=.type "list",data:=.seq its.toArray cap })]) (blkSt own.length κ σ) H3 s3:=by
   refine I3.pins_of fun p hp=>(List.mem_append.mp hp).elim (fun z=>I3.pin p (List.mem_append_right _ z)) fun z=>?_
   obtain rfl:=List.mem_singleton.mp z
   exact⟨eD3,nD3,hDC,stkD,fun v q=>by cases q⟩
  have fpk:∀{H':Hp},(∀b∈fp,H' b=none)→∀b∈fp,FpOk (blk X (own++caps) sc cl { s2 with heap:=hp } H2 hp.objs.size (s2.heap.objs.size::fp)) (pins++[(s2.heap.objs.size,{ cls:=.type "list",data:=.seq its.toArray cap })]) H' b:=fun {H'} hn b hb =>
   ⟨hn b hb,by show b≠hp.objs.size;rw [hsz];exact Nat.ne_of_lt (Nat.lt_succ_of_lt (hfp b hb)),stkF b hb,.inl (List.mem_cons_of_mem _ hb),fun x c q=>(f2 b hb).2.2.2.2.1 x c (S.subc q),fun p hp=>by
    rw [←List.append_assoc] at hp
    rcases List.mem_append.mp hp with z|z
    ·exact(f2 b hb).2.2.2.2.2 p z
    ·obtain rfl:=List.mem_singleton.mp z
     exact Nat.ne_of_gt (hfp b hb)⟩
  rcases turn i n ys H3 w3 with ⟨stop,fin⟩|⟨go,hlt,step⟩
  ·refine wpAny_bind (wpAny_standAt (wpAny_bind (thn (T.done (blk X (own++caps) sc cl { s2 with heap:=hp } H2 hp.objs.size (s2.heap.objs.size::fp)) rfl rfl rfl hcalm i _ s3 _ H3 _ I3' (fpk fr3) st3 stop) fun r s4 ⟨hr,I4⟩=>?_)))
   subst hr
   refine wpAny_pure ?_
   obtain⟨m,hm,_⟩:=I4.loc
   have eD4:=(I4.pin (s2.heap.objs.size,{ cls:=.type "list",data:=.seq its.toArray cap }) (List.mem_append_right _ (List.mem_append_right _ (List.mem_singleton.mpr rfl)))).1
   have I5:Inv X pins σ (upd H3 s2.heap.objs.size (.lst ys)) { s4 with heap:=s4.heap }:=Inv.unblock I2 f2 ehp.symm I4 eD4 nD3 rv hz (Heap.SameBut.refl ..)
   have neL:hp.objs.size≠X.env.locals:=by rw [hsz];exact Nat.ne_of_gt (Nat.lt_succ_of_lt I2.lt)
   have neC:∀x c,X.env.cells.lookup x=some c→c≠hp.objs.size:=fun x c q=>by
    obtain⟨v,z⟩:=I2.cell x c q
    rw [hsz]
    exact Nat.ne_of_lt (Nat.lt_succ_of_lt z.lt)
   have frC:upd H3 s2.heap.objs.size (.lst ys) hp.objs.size=none:=by rw [upd_ne (Ne.symm hDC)];exact I4.free
   show wpAny (model X.prog X.w) X.A (assign (.Name y0 py0) X.env (.ref s2.heap.objs.size)) _ X.xe s4
   refine wpAny_assign_Name (store_ok2 (v:=.ref s2.heap.objs.size) I5 hN hi0 hy0 rfl (fun s5 I6 ⟨a,sb,ha⟩=>?_) hf0)
   have hCa:hp.objs.size≠a:=by
    rcases ha with ha|ha
    ·rw [ha];exact neL
    ·exact Ne.symm (neC _ _ ha)
   refine⟨m,hm.sameBut sb hCa,fun h' sb'=>⟨_,_,I6.turned (t':=s5.toks) (fun b o hb e=>(sb'.2 b hb).trans e) frC neL (.inr ?_) neC (fun p hp'=>?_),fin _ nD3⟩⟩
   ·exact Nat.le_trans I2.sz (by rw [hsz];exact Nat.le_succ _)
   ·have:=Heap.lt_size (I2.pin p hp').1
    rw [hsz]
    exact Nat.ne_of_lt (Nat.lt_succ_of_lt this)
  ·refine wpAny_bind (wpAny_standAt (wpAny_bind (thn (T.item (blk X (own++caps) sc cl { s2 with heap:=hp } H2 hp.objs.size (s2.heap.objs.size::fp)) rfl rfl rfl hcalm i _ s3 _ H3 _ I3' (fpk fr3) st3 go) fun r s4 ⟨u,hr,h4⟩=>?_)))
   subst hr
   refine wpAny_bind (thn h4 fun _ s5 ⟨x,H5,I5,r5,y5,st5,fr5⟩=>?_)
   have I5':=I5.pinned (fpk fr5) (T.obj _ _ st5)
   refine wpAny_bind (wpAny_mono (hg _ _ _ _ _ s5 _ H5 x u _ I5' r5 (step x H5 y5)) (fun _ s6 ⟨σ6,H6,I6,eσ,q6⟩=>?_) fun _ _ z=>z.elim)
   refine wpAny_bind (wpAny_mono (hc _ _ _ _ _ s6 σ6 H6 _ I6 q6) (fun ok s7 ⟨H7,I7,q7⟩=>?_) fun _ _ z=>z.elim)
   have back:∀{s8:Shared} {H8:Hp},Inv (blk X (own++caps) sc cl { s2 with heap:=hp } H2 hp.objs.size (s2.heap.objs.size::fp)) ((pins++[(s2.heap.objs.size,{ cls:=.type "list",data:=.seq its.toArray cap })])++pinsAt fp s5.heap) σ6 H8 s8 →
     Inv (blk X (own++caps) sc cl { s2 with heap:=hp } H2 hp.objs.size (s2.heap.objs.size::fp)) pins (blkSt own.length κ σ) H8 s8∧tn (i+1) s8.heap∧(∀b∈fp,H8 b=none)∧s8.heap.get? s2.heap.objs.size=some { cls:=.type "list",data:=.seq its.toArray cap }∧H8 s2.heap.objs.size=none:=by
    intro s8 H8 I8
    have pk:∀b∈fp,∀o,s5.heap.get? b=some o→s8.heap.get? b=some o∧H8 b=none:=fun b hb o e=>by
     have z:=I8.pin (b,o) (List.mem_append_right _ (List.mem_append_right _ (mem_pinsAt hb e)))
     exact⟨z.1,z.2.1⟩
    have zD:=I8.pin (s2.heap.objs.size,{ cls:=.type "list",data:=.seq its.toArray cap }) (List.mem_append_right _ (List.mem_append_left _ (List.mem_append_right _ (List.mem_singleton.mpr rfl))))
    refine⟨(I8.pins_of fun p hp=>I8.pin p (List.mem_append_right _ (List.mem_append_left _ (List.mem_append_left _ hp)))).weak ?_ fun j v e=>?_,T.keep _ _ _ st5 fun b hb o e=>(pk b hb o e).1,fun b hb=>?_,zD.1,zD.2.1⟩
    ·exact I3.len.trans I8.len.symm
    ·have hge:own.length≤j:=by
      refine Nat.le_of_not_lt fun q=>?_
      unfold blkSt at e
      rw [List.getElem?_append_left (by rw [List.length_replicate];exact q),List.getElem?_replicate,if_pos q] at e
      cases e
     have z:=congrArg (fun l=>l[j - own.length]?) eσ
     simp only [List.getElem?_drop] at z
     rw [show own.length+(j - own.length)=j by omega] at z
     rw [z]
     exact e
    ·obtain⟨o,e,_⟩:=T.obj _ _ st5 b hb
     exact(pk b hb o e).2
   cases ok with
   |false =>
    obtain⟨m',hm,w7⟩:=(if_neg Bool.false_ne_true)▸q7
    obtain⟨I8,st8,fr8,e8,n8⟩:=back I7
    exact wpAny_pure ⟨rfl,m',hm,i+1,ys,its,cap,H7,I8,st8,fr8,e8,n8,rv,hz,w7⟩
   |true =>
    have q7':=(if_pos rfl)▸q7
    refine wpAny_bind (wpAny_bind (wpAny_mono (he _ _ _ _ _ s7 σ6 H7 _ I7 q7') (fun y s8 ⟨v8,H8,I8,r8,m',hm,w8⟩=>?_) fun _ _ z=>z.elim))
    obtain⟨I9,st9,fr9,e9,n9⟩:=back I8
    have hl:=rv.length
    refine wpAny_bind (wpAny_list_append_plain (items:=its.toArray) ⟨cap,e9⟩ (fun h' hl' sb=>?_) (by rw [List.size_toArray,←hl];exact hz))
    obtain⟨cap',e'⟩:=hl'
    refine wpAny_pure (wpAny_pure ⟨rfl,m',hm,i+1,ys++[v8],its++[y],cap',H8,?_,?_,fr9,?_,n9,Vals.append rv (.cons r8 .nil),?_,w8⟩)
    ·exact I9.turned (t':=s8.toks) (fun b o hb e=>(sb.2 b hb).trans e) n9 hDC (.inl List.mem_cons_self) cellD pinD
    ·exact T.keep _ _ _ st9 fun b hb o e=>(sb.2 b (Nat.ne_of_lt (hfp b hb))).trans e
    ·rw [e']
     congr 3
     simp
    ·rw [List.length_append]
     exact hlt
 exact codeAny_compStart_list loop (T.self _ 0 _ _ _ (T.keep _ _ _ st2 fun b hb o e=>old _ _ (by rw [←ehp];exact Heap.get?_push_of_some _ e)) loop)
theorem ps_comp{i0:Nat}{y0:Str}{py0 spos:Pos}{tg elt iter:Expr}{own caps:List Str}{κ:List Nat}{sc:Scope}{cl:List (Str × Addr)}{pos:Pos}{wi:TI}{g:TG}{te:TE}(hN:X.N.Nodup)(hi0:X.N[i0]?=some y0)(hy0:Loc X.env.scope y0)(hcalm:X.calm=true)(S:BlkSc X caps sc cl)(hκ:κ.map (fun k=>X.N[k]?)=caps.map some)
  (hi:PI X tg iter wi) (hg:∀s₀ H₀ C ex,PG (blk X (own++caps) sc cl s₀ H₀ C ex) tg g) (he:∀s₀ H₀ C ex,PE (blk X (own++caps) sc cl s₀ H₀ C ex) elt te)
  (hs:∀x,foldedSetIterable iter X.env x=pure x:=by intro _;rfl) (hsw:swapsWith (.ListComp elt [⟨tg,iter,[],0⟩] sc pos) (some (.Name y0 py0)) spos.line X.env=pure true:=by rfl)
  (hf0:X.fn y0=true∨X.env.scope.names.lookup y0=some .local:=by first|exact .inl rfl|exact .inr rfl|assumption) :
  PS X (.Assign [.Name y0 py0] (.ListComp elt [⟨tg,iter,[],0⟩] sc pos) spos) (tAsg (tComp own.length κ wi g tYes te) (gName i0)) :=
 ps_compG hN hi0 hy0 hcalm S hκ hi hg (fun s₀ H₀ C ex pins s σ H Q I h=>wpAny_tests_nil ⟨H,I,h⟩) he hs hsw hf0
theorem ps_comp_if{i0:Nat}{y0:Str}{py0 spos:Pos}{tg elt iter c:Expr}{own caps:List Str}{κ:List Nat}{sc:Scope}{cl:List (Str × Addr)}{pos:Pos}{wi:TI}{g:TG}{tc:TT}{te:TE}(hN:X.N.Nodup)(hi0:X.N[i0]?=some y0)(hy0:Loc X.env.scope y0)(hcalm:X.calm=true)(S:BlkSc X caps sc cl)(hκ:κ.map (fun k=>X.N[k]?)=caps.map some)
  (hi:PI X tg iter wi) (hg:∀s₀ H₀ C ex,PG (blk X (own++caps) sc cl s₀ H₀ C ex) tg g) (hc:∀s₀ H₀ C ex,PT (blk X (own++caps) sc cl s₀ H₀ C ex) c tc) (he:∀s₀ H₀ C ex,PE (blk X (own++caps) sc cl s₀ H₀ C ex) elt te)
  (hs:∀x,foldedSetIterable iter X.env x=pure x:=by intro _;rfl) (hsw:swapsWith (.ListComp elt [⟨tg,iter,[c],0⟩] sc pos) (some (.Name y0 py0)) spos.line X.env=pure true:=by rfl)
  (hf0:X.fn y0=true∨X.env.scope.names.lookup y0=some .local:=by first|exact .inl rfl|exact .inr rfl|assumption) :
  PS X (.Assign [.Name y0 py0] (.ListComp elt [⟨tg,iter,[c],0⟩] sc pos) spos) (tAsg (tComp own.length κ wi g tc te) (gName i0)) :=
 ps_compG hN hi0 hy0 hcalm S hκ hi hg (fun s₀ H₀ C ex pins s σ H Q I h=>wpAny_tests_one (hc s₀ H₀ C ex pins s σ H Q I h)) he hs hsw hf0
end
end L2
namespace L2
open PySem PySem.Spec PyProof.Rows
section
variable{X:Cx}{pins:List (Addr × Obj)}{σ:St}{H:Hp}{s:Shared}{h':Heap}
theorem Inv.turned2{t':Nat}{e j p:Addr}{o:HO}(I:Inv X pins σ H s)(k:∀b ob,b≠e→b≠j→s.heap.get? b=some ob→h'.get? b=some ob)(fe:FpOk X pins H e)(fj:FpOk X pins H j)(hp:s.heap.objs.size≤p)
  (new:ObjOk X.prog X.w (upd H p o) h' p o):Inv X pins σ (upd H p o) { s with heap:=h',toks:=t' }:=by
 have hn:H p=none:=I.hok.fresh hp
 have nn:∀b u,H b=some u→b≠e∧b≠j:=fun b u q=>⟨fun z=>(by rw [z,fe.1] at q;cases q),fun z=>(by rw [z,fj.1] at q;cases q)⟩
 have nc:∀b,b∉[e,j]→b≠e∧b≠j:=fun b hb=>⟨fun z=>hb (by simp [z]),fun z=>hb (by simp [z])⟩
 have lt:∀b ob,s.heap.get? b=some ob→b≠p:=fun b ob q z=>absurd (Nat.lt_of_lt_of_le (Heap.lt_size q) (by rw [z];exact hp)) (Nat.lt_irrefl _)
 refine I.step (g':=s.gens) (d':=s.drawn) (ch:=[e,j]) (fun b hb=>?_) (fun b ob _ _ hc q _=>k b ob (nc b hc).1 (nc b hc).2 q) (fun b ob _ _ hc q _=>⟨ob.slots,k b ob (nc b hc).1 (nc b hc).2 q⟩) (fun b ob hc q n=>by rw [upd_ne (lt b ob q)];exact n)
  (fun b ob hc q=>⟨ob,k b ob (nc b hc).1 (nc b hc).2 q⟩) (fun b xs q=>by rw [upd_ne (ne_of_none q hn)];exact q) (fun b ob u q=>by rw [upd_ne (ne_of_none q hn)];exact q) (fun b ps q=>⟨#[],by rw [upd_ne (ne_of_none q hn),q];simp⟩) (fun m hm=>?_) (fun b u q=>?_) I.bare
 ·rcases List.mem_cons.mp hb with rfl|hb
  ·exact⟨fe.2.2.2.1,fe.2.1,fe.2.2.2.2.1,fe.2.2.2.2.2⟩
  ·obtain rfl:=List.mem_singleton.mp hb
   exact⟨fj.2.2.2.1,fj.2.1,fj.2.2.2.2.1,fj.2.2.2.2.2⟩
 ·obtain⟨ob,es,ep,q,r⟩:=hm
  exact⟨ob,es,ep,k _ ob (Ne.symm fe.2.1) (Ne.symm fj.2.1) q,r⟩
 ·by_cases hb:b=p
  ·subst hb
   rw [upd_same] at q
   cases q
   exact new
  ·rw [upd_ne hb] at q
   refine(I.hok b u q).stay (fun c v hc z=>?_) (fun c z=>by rw [upd_ne (ne_of_none z hn)];exact z) fun c xs z=>by rw [upd_ne (ne_of_none z hn)];exact z
   rcases hc with hc|hc
   ·rw [hc] at z ⊢
    exact k b v (nn b u q).1 (nn b u q).2 z
   ·exact k c v (nn c _ hc).1 (nn c _ hc).2 z
end
section
variable{X:Cx}{tg:Expr}
end
section
variable{prog:Program}{w:World}{A:Around}{E:Value→Shared→Prop}{s:Shared}
open AutoSeq1 (wpAny_loadPart') in
end
section
variable{X:Cx}
end
end L2
namespace L2
open PySem PySem.Spec PyProof.Rows
theorem key_rel{P:Program}{w:World}{k:Key}{u:Value}(h:(mixKind P w).is k u=true):RelV (kV k) u:=by
 rw [mixKind_is] at h
 rcases keyIs_shape h with ⟨i,t,rfl,rfl⟩|⟨x,t,rfl,rfl⟩
 ·exact⟨t,rfl⟩
 ·exact⟨t,rfl⟩
section
variable{X:Cx}{pins:List (Addr × Obj)}{σ:St}{H H':Hp}{s:Shared}{h':Heap}
theorem Inv.laids{t':Nat}(I:Inv X pins σ H s)(k:∀b u,s.heap.get? b=some u→h'.get? b=some u)(old:∀b,b < s.heap.objs.size→H' b=H b)
  (new:∀b u,s.heap.objs.size≤b→H' b=some u→ObjOk X.prog X.w H' h' b u):Inv X pins σ H' { s with heap:=h',toks:=t' }:=by
 have lt:∀b u,H b=some u→b < s.heap.objs.size:=fun b u q=>Nat.lt_of_not_le fun z=>by rw [I.hok.fresh z] at q;cases q
 refine I.step (g':=s.gens) (d':=s.drawn) (ch:=[]) (fun _ z=>nomatch z) (fun b ob _ _ _ q _=>k b ob q) (fun b ob _ _ _ q _=>⟨ob.slots,k b ob q⟩) (fun b ob _ q n=>by rw [old b (Heap.lt_size q)];exact n)
  (fun b ob _ q=>⟨ob,k b ob q⟩) (fun b xs q=>by rw [old b (lt _ _ q)];exact q) (fun b ob u q=>by rw [old b (lt _ _ q)];exact q) (fun b ps q=>⟨#[],by rw [old b (lt _ _ q),q];simp⟩) (fun m hm=>?_) (fun b u q=>?_) I.bare
 ·obtain⟨ob,es,ep,q,r⟩:=hm
  exact⟨ob,es,ep,k _ ob q,r⟩
 ·by_cases hb:b < s.heap.objs.size
  ·rw [old b hb] at q
   exact(I.hok b u q).stay (fun c v _ z=>k c v z) (fun c z=>by rw [old c (lt _ _ z)];exact z) fun c xs z=>by rw [old c (lt _ _ z)];exact z
  ·exact new b u (Nat.le_of_not_lt hb) q
end
def layT(H:Hp):List Addr→List (Key × V)→Hp
 |a::as,p::ps=>upd (layT H as ps) a (.tup [kV p.1,p.2])
 |_,_=>H
theorem layT_old{H:Hp}{b:Addr}:∀{as:List Addr} {ps:List (Key × V)},b∉as→layT H as ps b=H b
 |[],_,_=>rfl
 |_::_,[],_=>rfl
 |a::as,p::ps,h=>by
  show upd (layT H as ps) a _ b=H b
  rw [upd_ne (fun e=>h (by rw [e];exact List.mem_cons_self))]
  exact layT_old fun z=>h (List.mem_cons_of_mem _ z)
theorem layT_at{H:Hp}:∀{as:List Addr} {ps:List (Key × V)} {b:Addr} {u:HO},b∈as→as.length=ps.length→layT H as ps b=some u→∃(j:Nat) (p:Key × V),as[j]?=some b∧ps[j]?=some p∧u=.tup [kV p.1,p.2]
 |[],_,_,_,h,_,_=>nomatch h
 |_::_,[],_,_,_,h,_=>nomatch h
 |a::as,p::ps,b,u,hb,hl,h=>by
  by_cases e:b=a
  ·subst e
   have h':upd (layT H as ps) b (.tup [kV p.1,p.2]) b=some u:=h
   rw [upd_same] at h'
   cases h'
   exact⟨0,p,rfl,rfl,rfl⟩
  ·have h':upd (layT H as ps) a (.tup [kV p.1,p.2]) b=some u:=h
   rw [upd_ne e] at h'
   have hb':b∈as:=(List.mem_cons.mp hb).resolve_left e
   obtain⟨j,p',h1,h2,h3⟩:=layT_at hb' (Nat.succ.inj hl) h'
   exact⟨j+1,p',h1,h2,h3⟩
theorem layT_pairs{H:Hp}:∀{as:List Addr} {ps:List (Key × V)},as.Pairwise (· < ·)→as.length=ps.length→Paired (fun(p:Key × V) (k:Addr)=>layT H as ps k=some (.tup [kV p.1,p.2])) ps as
 |[],[],_,_=>.nil
 |_::_,[],_,h=>nomatch h
 |[],_::_,_,h=>nomatch h
 |a::as,p::ps,hr,hl=>by
  cases hr with
  |cons h1 h2 =>
  refine .cons upd_same ?_
  have ih:=layT_pairs (H:=H) h2 (Nat.succ.inj hl)
  have go:∀{qs:List (Key × V)} {bs:List Addr},(∀b∈bs,a < b)→Paired (fun(p:Key × V) (k:Addr)=>layT H as ps k=some (.tup [kV p.1,p.2])) qs bs→Paired (fun(q:Key × V) (k:Addr)=>layT H (a::as) (p::ps) k=some (.tup [kV q.1,q.2])) qs bs:=fun {qs bs} hb z=>by
   induction z with
   |nil=>exact .nil
   |@cons x y xs ys e _ ih =>
    refine .cons ?_ (ih fun b hb'=>hb b (List.mem_cons_of_mem _ hb'))
    show upd (layT H as ps) a _ y=_
    rw [upd_ne (Nat.ne_of_gt (hb y List.mem_cons_self))]
    exact e
  exact go h1 ih
theorem pair_get{α β:Type}{F:α→β→Prop}:∀{as:List α} {bs:List β},Paired F as bs→∀{j:Nat} {a:α},as[j]?=some a→∃b,bs[j]?=some b∧F a b
 |_,_,.nil,j,a,h=>by simp at h
 |_,_,.cons x t,0,a,h=>by
  simp at h
  subst h
  exact⟨_,rfl,x⟩
 |_,_,.cons x t,j+1,a,h=>by
  simp at h
  obtain⟨b,hb,r⟩:=pair_get t h
  exact⟨b,by simpa using hb,r⟩
def itemsAt(v d:Addr)(h:Heap):Prop:=h.IsItemsView v d
section
variable{X:Cx}
def rItems:V→List V→Hp→VK→Prop:=fun x vs H Q=>∃d kvs,x=.ref d∧vs=[]∧H d=some (.dK kvs)∧∀v,H v=none→Q (.ref v) (upd H v (.ext (itemsAt v d)))
theorem mt_items:MtR X "dict.items" rItems:=by
 intro pins s σ H x vs v us Q I rx rv h
 obtain⟨d,kvs,rfl,rfl,hd,q⟩:=h
 cases rx
 cases rv
 obtain⟨z,hs,ys,rel,dd⟩:=dk_of I.hok hd
 refine call_meetsIn PySem.F.slot_dict_items dd.typeIs PySem.F.entry_dict_items (PySem.F.args_dict_items_1 _) (meets_dict_items (mixKind X.prog X.w) d hs) ⟨⟨ys,dd⟩,?_⟩
 have hv:(s.heap.push { cls:=.type "dict_items",data:=.fields #[.ref d] }).IsItemsView s.heap.objs.size d:=⟨_,Heap.get?_push_size _ rfl,rfl,rfl⟩
 refine⟨.ref s.heap.objs.size,_,I.laid (t':=s.toks) (o:=.ext (itemsAt s.heap.objs.size d)) (fun b o e=>Heap.get?_push_of_some _ e) (Nat.le_refl _) ⟨hv,⟨_,Heap.get?_push_size _ rfl⟩,fun h1 h2 p k=>?_⟩,rfl,q _ (I.hok.fresh (Nat.le_refl _))⟩
 obtain⟨o,ho,r⟩:=p
 exact⟨o,k o ho,r⟩
end
end L2
namespace L2
open PySem PySem.Spec PyProof.Rows
section
variable{X:Cx}{pins:List (Addr × Obj)}{σ:St}{H:Hp}{s:Shared}{d:Addr}{o:Obj}{u:HO}
theorem Inv.thaw(I:Inv X pins σ H s)(e:H d=some (.frz o u))(h0:∀o' u',X.H₀ d≠some (.frz o' u')):Inv X pins σ (upd H d u) s:=by
 have nd:∀b,H b=none→b≠d:=fun b n z=>by rw [z,e] at n;cases n
 have no:∀b v,H b=some v→(∀o u,v≠.frz o u)→b≠d:=fun b v q n z=>by rw [z,e] at q;cases q;exact n _ _ rfl
 refine⟨I.ok,I.os,I.bare,⟨I.base.keep,I.base.slot,fun b ob q n hx=>?_,I.base.there,fun b xs q=>?_,fun b ob v q=>?_,fun b ps q=>?_⟩,I.loc,I.cell,?_,fun x c q=>?_,fun p hp=>?_,fun b v q=>?_,I.len⟩
 ·have z:=I.base.free b ob q n hx
  rw [upd_ne (nd b z)]
  exact z
 ·have z:=I.base.tups b xs q
  rw [upd_ne (no b _ z (fun _ _=>nofun))]
  exact z
 ·have z:=I.base.frzs b ob v q
  rw [upd_ne (fun w=>h0 ob v (by rw [←w];exact q))]
  exact z
 ·obtain⟨more,z⟩:=I.base.tbls b ps q
  exact⟨more,by rw [upd_ne (no b _ z (fun _ _=>nofun))];exact z⟩
 ·rw [upd_ne (nd _ I.free)]
  exact I.free
 ·rw [upd_ne (nd _ (I.freeC x c q))]
  exact I.freeC x c q
 ·obtain⟨h1,h2,h3⟩:=I.pin p hp
  exact⟨h1,by rw [upd_ne (nd _ h2)];exact h2,h3⟩
 ·have own:∀a b,H b=some (.own a)→upd H d u b=some (.own a):=fun a b z=>by rw [upd_ne (no b _ z (fun _ _=>nofun))];exact z
  have tup:∀b xs,H b=some (.tup xs)→upd H d u b=some (.tup xs):=fun b xs z=>by rw [upd_ne (no b _ z (fun _ _=>nofun))];exact z
  by_cases hb:b=d
  ·subst hb
   rw [upd_same] at q
   cases q
   exact(I.hok b _ e).2.stay (fun _ _ _ z=>z) (own b) tup
  ·rw [upd_ne hb] at q
   exact(I.hok b v q).stay (fun _ _ _ z=>z) (own b) tup
end
def thawD(H₀:Hp)(D:Ends):Ends where
 nx:=fun σ H=>∃d o u,H d=some (.frz o u)∧(∀o' u',H₀ d≠some (.frz o' u'))∧D.nx σ (upd H d u)
 rt:=fun v H=>∃d o u,H d=some (.frz o u)∧(∀o' u',H₀ d≠some (.frz o' u'))∧D.rt v (upd H d u)
 bk:=D.bk
 ct:=D.ct
theorem ps_thaw{X:Cx}{st:Stmt}{t:TS}(h:PS X st t):PS X st (fun D σ H=>t (thawD X.H₀ D) σ H):=by
 intro pins s σ H D I q
 refine thn (h pins s σ H _ I q) fun f s1 z=>?_
 cases f with
 |next =>
  obtain⟨σ',H',I',d,o,u,e,h0,q'⟩:=z
  exact⟨σ',_,I'.thaw e h0,q'⟩
 |ret v =>
  obtain⟨σ',x,H',I',r,d,o,u,e,h0,q'⟩:=z
  exact⟨σ',x,_,I'.thaw e h0,r,q'⟩
 |brk=>exact z
 |cont=>exact z
def Itd(d:Addr)(o:Obj)(kvs:List (Key × V)):It :=
 ⟨fun i H=>H d=some (.frz o (.dK kvs))∧i < kvs.length,fun i H x H'=>∃a p,H a=none∧x=.ref a∧H'=upd H a (.tup [kV p.1,p.2])∧kvs[i]?=some p,fun i H=>H d=some (.frz o (.dK kvs))∧kvs.length≤i⟩
theorem turn_items{P:Program}{w:World}{K:PySem.W.Frag}{es:List Expr}{k:Nat}{pos:Pos}{d it:Addr}{o:Obj}{kvs:List (Key × V)}{ys:List (Key × Value)}{ep:Nat}(rel:KV kvs ys)(hat:∀h:Heap,h.get? d=some o→h.DictAt (mixKind P w) d ys ep) :
  Turn P w K (.Tuple es k pos) (Itd d o kvs) [it] it (fun i h=>∃ok ov,IsItemIter h it d i ys.length ep ok ov) where
 mem:=by simp
 obj:=fun i h st b hb=>by
  obtain rfl:b=it:=by simpa using hb
  obtain⟨ok,ov,e⟩:=st
  exact⟨_,e,fun v z=>by cases z⟩
 keep:=fun i h h' st k=>by
  obtain⟨ok,ov,e⟩:=st
  exact⟨ok,ov,k it (by simp) _ e⟩
 item:=by
  intro X hP hw hK hc i pins s σ H E I hf st hg
  subst hP hw hK
  obtain⟨ok,ov,st⟩:=st
  obtain⟨hd,hi⟩:=hg
  have fe:=hf it (by simp)
  obtain⟨f0,f1,f2,f3,f4,f5⟩:=id fe
  have ex:kvs[i]?=some kvs[i]:=List.getElem?_eq_getElem hi
  obtain⟨⟨k1,y⟩,hy,ek,ry⟩:=pair_get rel ex
  replace ek:kvs[i].1=k1:=ek
  replace ry:RelV kvs[i].2 y:=ry
  have lt:it < s.heap.objs.size:=Heap.lt_size st
  refine wpAny_pyNext_items_item st (hat _ (I.hok d _ hd).1) hy fun key h1 hkey io t1 hz k1'=>⟨_,rfl,?_⟩
  refine wpAny_letOwnedTupleGo_items io fun h2 i2 b2=>?_
  have t2:h2.get? s.heap.objs.size=some { cls:=.type "tuple",data:=.seq #[key,y] }:=(b2.2 _ (Nat.ne_of_gt lt)).trans t1
  have hn:H s.heap.objs.size=none:=I.hok.fresh (Nat.le_refl _)
  have I2:Inv X pins σ (upd H s.heap.objs.size (.tup [kV kvs[i].1,kvs[i].2])) { s with heap:=h2 } :=
   I.turned2 (t':=s.toks) (e:=it) (j:=it) (fun b ob x1 _ z=>(b2.2 b x1).trans (k1' b ob x1 z)) fe fe (Nat.le_refl _) ⟨by show 2≤sizeLine;decide,[key,y],.cons (by rw [ek];exact key_rel hkey) (.cons ry .nil),_,t2,rfl,_,rfl⟩
  refine⟨.ref s.heap.objs.size,_,I2,rfl,⟨_,kvs[i],hn,rfl,rfl,ex⟩,⟨_,_,i2⟩,fun b hb=>?_⟩
  obtain rfl:b=it:=by simpa using hb
  rw [upd_ne (Nat.ne_of_lt lt)]
  exact f0
 done:=by
  intro X hP hw hK hc i pins s σ H E I hf st hg
  subst hP hw hK
  obtain⟨ok,ov,st⟩:=st
  obtain⟨hd,hi⟩:=hg
  obtain⟨f0,f1,f2,f3,f4,f5⟩:=hf it (by simp)
  have hl:kvs.length=ys.length:=rel.length
  exact wpAny_pyNext_items_end (I.ok.hd hc) st (hat _ (I.hok d _ hd).1) (List.getElem?_eq_none (by omega)) fun h' eb=>⟨rfl,I.turned (t':=s.toks) (fun b o hb q=>eb b o hb q) f0 f1 f3 f4 f5⟩
 self:=fun _ _ _ _ _ st h=>by
  obtain⟨ok,ov,st⟩:=st
  exact PySem.W.kcp_self st h
section
variable{X:Cx}
def iItems(to:TE):TI:=fun σ H R=>to σ H fun x H1=>∃d kvs,x=.ref d∧H1 d=some (.dK kvs)∧∀o,R (Itd d o kvs) (upd H1 d (.frz o (.dK kvs)))
theorem pi_items{o:Expr}{to:TE}{es:List Expr}{k:Nat}{tp apos cpos:Pos}(ho:PE X o to) (hbase:attributeBase o "items" X.env (eval o X.env)=eval o X.env:=by rfl) (hline:(apos.endLine==cpos.line)=true:=by rfl) :
  PI X (.Tuple es k tp) (.Call (.Attribute o "items" apos) [] [] cpos) (iItems to):=by
 intro pins s σ H R I h
 refine wpAny_Call_method0_late hbase hline (thn (ho pins s σ H _ I h) fun v s1 ⟨x,H1,I1,r1,d,kvs,ex,hd,q⟩=>?_)
 subst ex
 obtain⟨h1,h2⟩:=tyV_is (T:="dict") I1 r1 (.inr (.inr (.inl ⟨rfl,.inl ⟨kvs,hd⟩⟩)))
 cases r1
 obtain⟨z,hs,ys,rel,dd⟩:=dk_of I1.hok hd
 refine⟨"dict","dict.items",PySem.F.plainAttrs_dict,PySem.F.slot_dict_items,PySem.F.type_dict_items,h1,h2,Calls.callWith_builtin rfl (PySem.evalArgs_none (call_meetsIn PySem.F.slot_dict_items dd.typeIs PySem.F.entry_dict_items (PySem.F.args_dict_items_1 _) (meets_dict_items (mixKind X.prog X.w) d hs) ⟨⟨ys,dd⟩,?_⟩))⟩
 have hv:(s1.heap.push { cls:=.type "dict_items",data:=.fields #[.ref d] }).IsItemsView s1.heap.objs.size d:=⟨_,Heap.get?_push_size _ rfl,rfl,rfl⟩
 obtain⟨ep,ob,en,e1,r1⟩:=dd.dictAt
 have hat:∀h:Heap,h.get? d=some ob→h.DictAt (mixKind X.prog X.w) d ys ep:=fun h e=>⟨ob,en,e,r1⟩
 refine wpAny_pyIter_items (s:={ s1 with heap:=s1.heap.push { cls:=.type "dict_items",data:=.fields #[.ref d] } }) hv (hat _ (Heap.get?_push_of_some _ e1)) ?_
 have hd2:((s1.heap.push { cls:=.type "dict_items",data:=.fields #[.ref d] }).push { cls:=.type "dict_itemiterator",data:=.fields #[.none,.bool false,.ref d,.int 0 0,.int ys.length 0,.int ep 0,.none,.none] }).get? d=some ob:=Heap.get?_push_of_some _ (Heap.get?_push_of_some _ e1)
 have I2:=I1.kept (t':=s1.toks) (h':=(s1.heap.push { cls:=.type "dict_items",data:=.fields #[.ref d] }).push { cls:=.type "dict_itemiterator",data:=.fields #[.none,.bool false,.ref d,.int 0 0,.int ys.length 0,.int ep 0,.none,.none] }) fun b u e=>Heap.get?_push_of_some _ (Heap.get?_push_of_some _ e)
 have I3:=I2.write (x:=d) (e:=d) (o:=.frz ob (.dK kvs)) (t':=s1.toks) (h':=(s1.heap.push { cls:=.type "dict_items",data:=.fields #[.ref d] }).push { cls:=.type "dict_itemiterator",data:=.fields #[.none,.bool false,.ref d,.int 0 0,.int ys.length 0,.int ep 0,.none,.none] }) (by rw [hd];trivial) (.inl rfl) (fun _ _ _ e=>e) ⟨ob,hd2⟩
  ⟨hd2,z,hs,ys,rel,dd.at fun o e=>Heap.get?_push_of_some _ (Heap.get?_push_of_some _ e)⟩
 have hn:H1 ((s1.heap.push { cls:=.type "dict_items",data:=.fields #[.ref d] }).objs.size)=none:=I1.hok.fresh (by rw [Heap.size_push];exact Nat.le_succ _)
 refine⟨_,[(s1.heap.push { cls:=.type "dict_items",data:=.fields #[.ref d] }).objs.size],_,_,_,rfl,I3,turn_items rel hat,⟨_,_,Heap.get?_push_size _ rfl⟩,fun b hb=>?_,q ob⟩
 obtain rfl:b=(s1.heap.push { cls:=.type "dict_items",data:=.fields #[.ref d] }).objs.size:=by simpa using hb
 refine I1.fpOk (by rw [Heap.size_push];exact Nat.le_succ _) ?_
 rw [upd_ne (fun e=>by rw [e,hd] at hn;cases hn)]
 exact hn
end
theorem for_items{d:Addr}{o:Obj}{kvs:List (Key × V)}{g:TG}{tb:TS}{D:Ends}{σ:St}{H:Hp}(Pv:Nat→St→Hp→Prop)(h0:Pv 0 σ H)(hl:∀i σ H,i≤kvs.length→Pv i σ H→H d=some (.frz o (.dK kvs)))
  (hs:∀i p a σ H,kvs[i]?=some p→H a=none→Pv i σ H→g (.ref a) σ (upd H a (.tup [kV p.1,p.2])) fun σ2 H2=>tb { D with nx:=Pv (i+1),ct:=Pv (i+1),bk:=D.nx } σ2 H2) (hd:∀σ H,Pv kvs.length σ H→D.nx σ H) :
  ∃W:Nat→Nat→St→Hp→Prop,(∃m,W 0 m σ H)∧∀i m σ H,W i m σ H →
   ((Itd d o kvs).stop i H∧D.nx σ H)∨((Itd d o kvs).go i H∧∃N:St→Hp→Prop,(∀σ' H',N σ' H'→∃m',m' < m∧W (i+1) m' σ' H')∧∀x H',(Itd d o kvs).yld i H x H'→g x σ H' fun σ2 H2=>tb { D with nx:=N,ct:=N,bk:=D.nx } σ2 H2):=by
 refine⟨fun i m σ H=>m=kvs.length - i∧i≤kvs.length∧Pv i σ H,⟨kvs.length,by simp,Nat.zero_le _,h0⟩,?_⟩
 rintro i m σ H ⟨rfl,hi,p⟩
 have q:=hl i σ H hi p
 by_cases hlt:i < kvs.length
 ·refine .inr ⟨⟨q,hlt⟩,Pv (i+1),fun σ' H' p'=>⟨kvs.length - (i+1),by omega,rfl,hlt,p'⟩,fun x H' y=>?_⟩
  obtain⟨b,z,hb,rfl,rfl,hz⟩:=y
  exact hs i z b σ H hz hb p
 ·obtain rfl:i=kvs.length:=by omega
  exact .inl ⟨⟨q,Nat.le_refl _⟩,hd σ H p⟩
end L2
namespace L2
open PySem PySem.Spec PyProof.Rows
section
variable{X:Cx}{tg:Expr}
end
end L2
namespace L2
open PySem PySem.Spec PyProof.Rows
section
variable{X:Cx}{tg:Expr}
end
theorem pe_thaw{X:Cx}{e:Expr}{t:TE}(h:PE X e t):PE X e (fun σ H Q=>t σ H fun v H'=>∃d o u,H' d=some (.frz o u)∧(∀o' u',X.H₀ d≠some (.frz o' u'))∧Q v (upd H' d u)) :=
 fun pins s σ H _ I q=>thn (h pins s σ H _ I q) fun _ _ ⟨x,_,I',r,_,_,_,e,h0,q'⟩=>⟨x,_,I'.thaw e h0,r,q'⟩
end L2
namespace L2
open PySem PySem.Spec PyProof.Rows
section
variable{X:Cx}
theorem call_isiT:CallR X (.builtin "isinstance") (fun xs H Q=>∃x y u t b,xs=[x,y]∧(∀u',RelV y u'→u'=u)∧TyOf X.K H x t∧PySem.W.kitOne X.K t u=some b∧Q (.bl b) H):=by
 intro pins s σ H xs us Q I rv h
 obtain⟨x,y,u,t,b,rfl,hu,ty,hk,q⟩:=h
 obtain⟨u1,u2,rfl,r1,r2⟩:=rv.two
 rw [hu u2 r2]
 exact isinst_ok I r1 ty hk fun tk=>⟨.bl b,H,I.tok _,rfl,q⟩
end
end L2
namespace L2
open PySem PySem.Spec PyProof.Rows
section
variable{X:Cx}{K:PySem.W.Frag}
theorem eqK(h:X.K=K)(hu:X.A.units+64 < cLine):OpR X (compareOp .Eq) (rEqD K false):=by subst h;exact op_eqD hu
theorem pg_two{i j:Nat}{x y:Str}{k:Nat}{px py pt:Pos}(hK:X.K=K)(hc:X.calm=true)(hN:X.N.Nodup)(hi:X.N[i]?=some x)(hx:Loc X.env.scope x)(hfx:X.fn x=true∨X.env.scope.names.lookup x=some .local)
  (hj:X.N[j]?=some y) (hy:Loc X.env.scope y) (hfy:X.fn y=true∨X.env.scope.names.lookup y=some .local):PG X (.Tuple [.Name x px,.Name y py] k pt) (gTup K 2 (gCons (gName i) (gCons (gName j) gNil))):=by
 subst hK
 exact pg_tup hc (pgs_cons (pg_name hN hi hx hfx) (pgs_cons (pg_name hN hj hy hfy) pgs_nil))
end
end L2
namespace L2
open PySem PySem.Spec PyProof.Rows
end L2
namespace L2
open PySem PySem.Spec PyProof.Rows
def excInI(K:PySem.W.Frag)(C:Addr)(bmB:List Value)(newId:String):Bool:=match K.lookup C with|some ⟨.type "type",_,.cls cd,sl⟩=>(match cd.mro,sl.toList with|.ref C'::bm,[_,_,_,_,some (.builtin n),_]=>C'==C&&n==newId&&!cd.hasDel&&PySem.W.tailIn K bmB bm|_,_=>false)|_=>false
structure ExcI(h:Heap)(C:Addr)(bmB:List Value)(newId:String):Prop where
 obj:∃bm N nm q bs hdct sn sub ab col dd k0 k1 k2 k3 k5,h.get? C=some (excClassObj nm q C N bs bm hdct sn sub ab col dd k0 k1 k2 k3 k5 newId)∧OwnTail h bmB bm
section
variable{prog:Program}{w:World}{A:Around}{E:Value→Shared→Prop}{h:Heap}{g:Array GenState}{d:Drawn}{t:Nat}{os:OsState}{K:PySem.W.Frag}{C fI:Addr}{us:List Value}
end
section
variable{prog:Program}{w:World}{A:Around}{E:Value→Shared→Prop}{s:Shared}{env:Env}{K:PySem.W.Frag}{C fI:Addr}
end
end L2
namespace L2
open PySem PySem.Spec PyProof.Rows
def cut(H:Hp)(x:Addr):Hp:=fun b=>if b=x then none else H b
section
variable{X:Cx}{pins:List (Addr × Obj)}{σ:St}{H:Hp}{s:Shared}{x:Addr}
end
section
variable{P:Program}{w:World}{K:PySem.W.Frag}{mg:Str→Option Value}{base:Heap}
structure MkX(K:PySem.W.Frag)(C fI:Addr):Prop where
 ex:excInI K C bmVE "ValueError.__new__"=true
 init:PySem.W.findIn K (.ref C) "__init__"=some (some (.ref fI))
 fn:PySem.W.typeIn K (.ref fI)=some (.type "function")
end
end L2
namespace L2
open PySem PySem.Spec PyProof.Rows Builtin Builtin.ObjectAttr
def refPass(l:List Value):Bool:=l.dropWhile (fun|.ref _=>true|_=>false)==bmVE
structure ExcSet(K:PySem.W.Frag)(C:Addr):Prop where
 sa:PySem.W.findIn K (.ref C) "__setattr__"=some (some (.builtin "object.__setattr__"))
 po:(PySem.W.clsIn K C).any (fun cd=>refPass cd.mro)=true
 hd:PySem.W.hasDictIn K C=true
 ob:PySem.W.mroIn K C (.type "object")=some true
section
variable{prog:Program}{w:World}{A:Around}{E:Value→Shared→Prop}{s:Shared}{K:PySem.W.Frag}{x C:Addr}{name:Str}{v:Value}
end
section
variable{X:Cx}{pins:List (Addr × Obj)}{σ:St}{H H0:Hp}{s s0:Shared}{dx:Addr}
end
section
variable{X:Cx}{o value:Expr}{f:Str}{pos pos':Pos}{ta tv:TE}
end
end L2
namespace L2
open PySem PySem.Spec PyProof.Rows Builtin Builtin.ObjectAttr
structure BaseI(K:PySem.W.Frag)(R:Addr):Prop where
 ga:PySem.W.specialIn K (.ref R) "__getattribute__"=some (some (.builtin "type.__getattribute__"))
 rd:PySem.W.readsIn K R (.type "type")=true
 fi:PySem.W.findCls K (.ref R) (.type "type") "__init__"=some (.val (.builtin "ValueError.__init__"))
section
variable{X:Cx}
end
section
variable{prog:Program}{w:World}{A:Around}{E:Value→Shared→Prop}{s:Shared}{K:PySem.W.Frag}{x D:Addr}{name:Str}{v:Value}
end
section
variable{X:Cx}{e:Expr}{f:Str}{pos:Pos}{ta:TE}
end
end L2
namespace L2
open PySem PySem.Spec PyProof.Rows
structure Shw(d:PyData)(n m:Nat):Prop where
 sh:d.showable=true
 nd:d.hasDict=false
 dp:d.depth≤m
 ln:d.shown.length≤n
structure Shws(ds:List PyData)(n m:Nat):Prop where
 sh:PyData.showableAll ds=true
 nd:PyData.hasDictAll ds=false
 dp:PyData.depthAll ds≤m
 ln:piled (PyData.shownAll ds)≤n
section
variable{X:Cx}{k:Nat}{pos:Pos}{e:Expr}{te:TE}
end
end L2
namespace L2
open PySem PySem.Spec PyProof.Rows
section
variable{α β:Type}
variable{P:Shared→Prop}
end
section
variable{X:Cx}{st:Stmt}{rest:List Stmt}{t u:TS}{pos:Pos}
end
section
variable{X:Cx}
end
end L2
local macro_rules
 |`(sortPriv% $n:ident)=>do
  if n.getId==`rn then return Lean.mkCIdent (Lean.mkPrivateNameCore `PySem.Builtin.Int.W0All `PySem.Builtin.readNumeral)
  if n.getId==`vl then return Lean.mkCIdent (Lean.mkPrivateNameCore `PySem.Builtin.Int.W0All `PySem.Builtin.Numeral.value)
  if n.getId==`nd then return Lean.mkCIdent (Lean.mkPrivateNameCore `PySem.Builtin.Int.W0All `PySem.Builtin.numeralDigits?)
  if n.getId==`bl then return Lean.mkCIdent (Lean.mkPrivateNameCore `PySem.Builtin.Int.W0All `PySem.Builtin.isBlank)
  Lean.Macro.throwUnsupported
namespace L2
open PySem
section
variable{prog:Program}{w:World}{A:Around}{E:Value→Shared→Prop}{s:Shared}
end
end L2
namespace L2
open PySem PySem.Spec PyProof.Rows
section
variable{X:Cx}{pos:Pos}{e:Expr}{es:List Expr}{te:TE}
end
end L2
namespace L2
open PySem PySem.Spec PyProof.Rows
section
variable{prog:Program}{w:World}{A:Around}{R:Result→Shared→Prop}{I S:Addr}{fp wr:List Addr}{n:Nat}{P:Nat→Value→Prop}{St:Nat→Heap→Prop}{d:Value}
end
section
variable{X:Cx}{e:Expr}{es:List Expr}{kws:List Keyword}{t tk:TA}{p pos:Pos}
end
end L2
namespace L2
open PySem PySem.Spec PyProof.Rows
structure DKt(K:PySem.W.Frag)(w:World)(a:Addr)(ps:List (Str × Int)):Prop where
 ns:(a==sysModules)=false
 at_:∀(P:Program) (h:Heap),K.In h→∃vs:List (Key × Value),KV (ps.map fun p=>((Sum.inr p.1:Key),V.int p.2)) vs∧h.DictOf (mixKind P w) a vs
section
variable{X:Cx}{o i:Expr}{pos:Pos}{td ty:TE}
end
end L2
namespace L2
open PySem PySem.Spec PyProof.Rows
section
variable{P:Program}{w:World}{K:PySem.W.Frag}{mg:Str→Option Value}{base:Heap}
end
end L2
namespace L2
open PySem PySem.Spec PyProof.Rows
section
variable{prog:Program}{w:World}{A:Around}{E:Value→Shared→Prop}{s:Shared}
end
end L2
namespace L2
open PySem PySem.Spec PyProof.Rows
theorem dt_raw{P:Program}{w:World}{H:Hp}{h:Heap}{a:Addr}{kvs:List (List Key × V)}{es:Array DictEntry}{ep:Nat}(x:ObjOk P w H h a (.dT kvs))(r:RawD h a es ep):kvs.length=es.size∧∀(i:Nat) (p:List Key × V),kvs[i]?=some p→∃(k:Addr) (v:Value) (hi:i < es.size),es[i].key=.ref k∧es[i].val=v∧H k=some (.tup (p.1.map kV))∧RelV p.2 v:=by
 obtain⟨z,hd,ys,rel,o,es2,ep2,e,ex,dt,eqs,_⟩:=x
 obtain⟨o',e',_,dt'⟩:=r
 rw [e] at e'
 cases e'
 rw [dt] at dt'
 cases dt'
 have hl2:kvs.length=ys.length:=Paired.length rel
 have hlen:es.size=ys.length:=by
  have:=congrArg List.length eqs
  rw [List.length_map] at this
  simpa using this
 refine⟨by rw [hl2,hlen],fun i p hp=>?_⟩
 obtain⟨q,hq,h1,h2,h3⟩:=pair_get rel hp
 have hi:i < es.size:=by
  rw [hlen]
  exact(List.getElem?_eq_some_iff.mp hq).1
 have e1:es.toList[i]?=some es[i]:=by simp [hi]
 rw [eqs,List.getElem?_map,hq] at e1
 have e2:=Option.some.inj e1
 exact⟨q.2.1,q.2.2,hi,by rw [←e2];rfl,by rw [←e2];rfl,h2,h3⟩
section
variable{X:Cx}
end
end L2
namespace L2
open PySem PySem.Spec PyProof.Rows
section
variable{X:Cx}
end
end L2
namespace L2
open PySem PySem.Spec PyProof.Rows PySem.Calls
section
variable{prog:Program}{w:World}{K:Type}[DecidableEq K]{knd:HeapKind prog w K}{A:Around}{E:Value→Shared→Prop}{s:Shared}
end
section
variable{X:Cx}
end
end L2
namespace L2
open PySem PySem.Spec PyProof.Rows PySem.W
section
variable{prog:Program}{w:World}{A:Around}{E:Value→Shared→Prop}{s:Shared}
structure RawG(es:Array DictEntry)(lo:Addr)(h:Heap)(as:List Addr):Prop where
 rise:as.Pairwise (· < ·)
 up:∀a∈as,lo < a
 at':∀(j:Nat) (a:Addr),as[j]?=some a→∃en,es[j]?=some en∧h.get? a=some { cls:=.type "tuple",data:=.seq #[en.key,en.val] }
end
section
variable{prog:Program}{w:World}{A:Around}{s:Shared}{R:Result→Shared→Prop}{es:Array DictEntry}{ep:Nat}
end
section
variable{prog:Program}{w:World}{A:Around}{E:Value→Shared→Prop}{s:Shared}{r d:Addr}{es:Array DictEntry}{ep:Nat}
end
end L2
namespace L2
open PySem PySem.Spec PyProof.Rows
section
variable{X:Cx}
end
section
variable{prog:Program}{w:World}{A:Around}{E:Value→Shared→Prop}{s:Shared}
end
section
variable{X:Cx}{l:Expr}{tl:TE}{p p2 pos pos2:Pos}
end
end L2
namespace L2
open PySem PySem.Spec PyProof.Rows
section
variable{X:Cx}
end
end L2
namespace L2
open PySem PySem.Spec PyProof.Rows
theorem upl_entry:entryFor table "dict.update.loop"=some Builtin.«dict.update.loop»:=entryFor_of_tree (by kernel_rfl)
theorem upl_plain:plainId "dict.update.loop"=true:=by decide +kernel
theorem nokeys_list:typeLookup (.type "list") "keys"=pure none:=by rw [typeLookup_type,builtinLookup_eq_fast];kernel_rfl
section
variable{prog:Program}{w:World}{A:Around}{E:Value→Shared→Prop}{s:Shared}{a:Addr}{xs:Array Value}{k:Nat}{sl:Array (Option Value)}
theorem listKeys_none{Q:Option Value→Shared→Prop} (hx:s.heap.get? a=some { cls:=.type "list",dict:=none,data:=.seq xs k,slots:=sl }) (hA:A.handled=none)
  (h:∀h' tk,(∀b o,s.heap.get? b=some o→h'.get? b=some o)→Q none { s with heap:=h',toks:=tk }):wpAny (model prog w) A (getAttr? (.ref a) "keys") Q E s:=by
 obtain⟨hp,g,d,tk,os⟩:=s
 have hT:∀tk',(⟨hp,g,d,tk',os⟩:Shared).TypeIs (.ref a) "list":=fun _=>⟨_,hx,rfl⟩
 have f1:=sub_AttributeError
 have f3:=F.slot_list_getattribute.lookup
 have f4:=F.slot_list_getattribute.bind (.ref a)
 have f5:=am_list_getattr_none
 unfold getAttr? getAttrBy? getAttrBy
 repeat (any_goals (first|assumption|exact hT _|((with_reducible show wpAny _ _ (call (Value.builtin "list.__getattribute__") _ _) _ _ _);refine call_meets F.slot_list_getattribute (hT _) am_entry_list_getattribute (F.args_list_getattribute_2 _ _) (meets_getattribute_miss_list a xs k sl "keys" _ nokeys_list (by decide +kernel)) ⟨hx,hA,fun h' tk' e hx'=>?_⟩)|wp_step))
 obtain⟨t',u',he⟩:=hx'.there
 show wpAny _ _ (getattributeRaised _ _ _ _ _ _ _) _ _ _
 unfold getattributeRaised
 repeat (any_goals (first|assumption|wp_step))
 exact h _ _ hx'.of.keeps
end
section
variable{X:Cx}{pins:List (Addr × Obj)}{σ:St}
end
end L2
namespace L2
open PySem PySem.Spec PyProof.Rows
section
variable{prog:Program}{w:World}{A:Around}{E:Value→Shared→Prop}{s:Shared}{K:Type}[DecidableEq K]{knd:HeapKind prog w K}
end
section
variable{X:Cx}
end
end L2
namespace L2
open PySem PySem.Spec PyProof.Rows
section
variable{M:Model}{A:Around}{E:Value→Shared→Prop}{s:Shared}
theorem leaves_any{base:Heap}{env:Env}{outer:List Env}{L e:Addr}{cls a0 fl:Value}{Q:Unit→Shared→Prop}(hfr:A.frames=some (env::outer))(hf:env.frame=some L)(k1:base.StaysIn s.heap)(k2:base.get? e=none)(k3:s.heap.FunFrames base (env::outer))(k4:s.heap.TracedAtW base e cls a0 fl)
  (hQ:∀h',Heap.FlyingW base outer e cls a0 h'→s.heap.UpToSlots h'→Q () { s with heap:=h' }):wpAny M A (leaving env (.ref e)) Q E s:=by
 by_cases hfl:(fl==rawInt L)=true
 ·have hfl':fl=rawInt L:=by simpa using hfl
  rw [hfl'] at k4
  unfold leaving
  refine wpAny_bind (wpAny_noteFrame_againW hf k4 ?_)
  refine wpAny_landsW ⟨k1,k2,k3,k4⟩ fun h' hF up=>?_
  obtain⟨j1,j2,⟨_,_,j3⟩,j4⟩:=hF
  exact hQ h' ⟨j1,j2,j3,j4⟩ up
 ·obtain⟨oe,vs,T,oT,ts,he,⟨hcls,h0⟩,hd,h1,hnT,hTe,hT,hdT,h3⟩:=k4
  subst hcls
  unfold leaving noteFrame
  simp only [hf]
  refine wpAny_bind (wpAny_bind (wpAny_field he hd h1 ?_))
  rw [if_pos (show(Value.ref T != Value.none)=true from by simp)]
  refine wpAny_bind (wpAny_field hT hdT h3 ?_)
  rw [if_neg hfl]
  refine wpAny_bind (wpAny_setField hT hdT (Array.getElem?_eq_some_iff.mp h3).1 ?_)
  have other:∀b,b≠T→(s.heap.update T (Obj.mapFields (·.setIfInBounds 3 Value.none))).get? b=s.heap.get? b:=fun b hb=>Heap.get?_update_other _ _ (Ne.symm hb)
  have noRecord:∀b o,s.heap.get? b=some o→(∀vs,o.data≠.fields vs)→b≠T:=fun b o hb hnf q=>by
   rw [q,hT] at hb;injection hb with hb;subst hb;exact hnf ts hdT
  refine wpAny_newEntryW hfr (k3.of_keeps fun b o hb hnf=>⟨o,(other b (noRecord b o hb hnf)).trans hb,rfl⟩) hf ((other e (Ne.symm hTe)).trans he)
   (fun b o hbo=>(other b fun q=>by rw [q,hnT] at hbo;cases hbo).trans (k1 b o hbo)) k2 hd (Array.getElem?_eq_some_iff.mp h1).1 h0
   fun h' ⟨x1,x2,x3,x4⟩=>hQ h' ⟨x1,k2,x2.2.2,x3⟩ fun b o hb hnf=>x4 b o ((other b (noRecord b o hb hnf)).trans hb) hnf
theorem setFlight_any{base:Heap}{l:List Env}{e:Addr}{cls a0 fl:Value}{fr:Option Addr}{Q:Unit→Shared→Prop}
  (hkb:base.StaysIn s.heap) (hl:s.heap.FunFrames base l) (ht:s.heap.TracedAtW base e cls a0 fl)
  (h:∀h',base.StaysIn h'→h'.FunFrames base l→h'.TracedAtW base e cls a0 (fr.elim Value.none fun f=>rawInt f)→(∀b o,s.heap.get? b=some o→(∀vs,o.data≠.fields vs)→h'.get? b=some o)→Q () { s with heap:=h' }) :
  wpAny M A (setFlight (.ref e) fr) Q E s:=by
 obtain⟨oe,vs,T,oT,ts,he,hcls,hd,h1,hnT,hTe,hT,hdT,h3⟩:=ht
 have hsz3:3 < ts.size:=(Array.getElem?_eq_some_iff.mp h3).1
 have other:∀b,b≠T→(s.heap.update T (Obj.mapFields (·.setIfInBounds 3 (fr.elim Value.none fun f=>rawInt f)))).get? b=s.heap.get? b :=
  fun b hb=>Heap.get?_update_other _ _ (Ne.symm hb)
 have noRecord:∀b o,s.heap.get? b=some o→(∀vs,o.data≠.fields vs)→b≠T:=fun b o hb hnf q=>by
  rw [q,hT] at hb;injection hb with hb;subst hb;exact hnf ts hdT
 unfold setFlight
 refine wpAny_bind (wpAny_field he hd h1 ?_)
 rw [if_pos (show(Value.ref T != Value.none)=true from by simp)]
 refine wpAny_setField hT hdT hsz3 (h _ (fun b o hbo=>(other b fun q=>by rw [q,hnT] at hbo;cases hbo).trans (hkb b o hbo))
  (hl.of_keeps fun b o hb hnf=>⟨o,(other b (noRecord b o hb hnf)).trans hb,rfl⟩) ?_ fun b o hb hnf=>(other b (noRecord b o hb hnf)).trans hb)
 exact⟨oe,vs,T,_,_,(other e (Ne.symm hTe)).trans he,hcls,hd,h1,hnT,hTe,Heap.get?_update_self _ hT (Obj.isFreed_of_fields (Obj.data_mapFields hdT _)),Obj.data_mapFields hdT _,by simp [hsz3]⟩
end
theorem frames_but{B h1 h2:Heap}{C:Addr}(sb:Heap.SameBut C h1 h2):∀{l:List Env},h1.FunFrames B l→C∉frs l→h2.FunFrames (PySem.W.hideAll B [C]) l
 |[],_,_=>trivial
 |env::r,⟨hk,⟨L,o,hf,hn,ho,hd⟩,hr⟩,hne=>by
  have eq:frs (env::r)=L::frs r:=by
   unfold frs
   rw [List.filterMap_cons,hf]
  rw [eq] at hne
  refine⟨hk,⟨L,o,hf,?_,(sb.2 L fun z=>hne (by rw [z];exact .head _)).trans ho,hd⟩,frames_but sb hr fun z=>hne (.tail _ z)⟩
  cases q:(PySem.W.hideAll B [C]).get? L with
  |none=>rfl
  |some u=>rw [PySem.W.of_hideAll _ q] at hn;cases hn
section
variable{X:Cx}{pins:List (Addr × Obj)}{σ:St}{H H':Hp}{s s':Shared}{x C:Addr}{cls:Value}{d:Option Addr}
theorem Fly.comp{m0:Str→Option Value}{cenv0:Env}(I:Inv X pins σ H s)(hst:X.stack=X.env::X.outer)(hfr:X.env.frame=some X.env.locals)(hex:X.ex=[])(f:Fly X.prog X.w X.stack H s x cls H' s')(hdi:DictIs x d s')
  (hC0:X.s₀.heap.get? C=none) (hCs:s.heap.Ns C m0) (hCn:H C=none) (hCf:C∉frs X.stack) (hcf:cenv0.frame=X.env.frame)
  (hxe:∀s,wpAny (model X.prog X.w) X.A (leaving X.env (.ref x)) (fun _ s''=>Fly X.prog X.w X.outer X.H₀ X.s₀ x cls H' s''∧DictIs x d s'') (fun _ _=>False) s→X.xe (.ref x) s) {Qe:Value→Shared→Prop} {acc:Value} :
  notedBy (model X.prog X.w) X.A cenv0 (fun x' s''=>compPost (model X.prog X.w) X.A X.xe none Qe acc C (.error x') s'') (.ref x) s':=by
 obtain⟨B,a0,fl,c1,c2⟩:=f.fl
 rw [hst] at fl
 have nx:∀b:Addr,b∉X.ex:=fun b=>by rw [hex];simp
 obtain⟨oC,es,ep,hoC,hdC,rC⟩:=hCs
 have keepC:s'.heap.get? C=some oC:=f.un.keep C oC hoC hCn hCf (by simp)
 have hCH':H' C=none:=f.un.free C oC hoC hCn (by simp)
 obtain⟨uC,huC⟩:=c2 C oC hoC hCf
 have hxC:x≠C:=fun z=>by have q:=fl.2.1;rw [z,huC] at q;cases q
 unfold notedBy
 rw [show noteFrame (.ref x) cenv0=noteFrame (.ref x) X.env from by unfold noteFrame PySem.frameOf;rw [hcf]]
 refine wpAny_mono (Keeps.note.wpAny (Q:=fun _ s''=>∃h1,s''={ s' with heap:=h1 }∧Heap.HeldW B (X.env::X.outer) x cls a0 X.env.locals h1∧s'.heap.UpToSlots h1) (E:=fun _ _=>False) hdi (wpAny_looks_onW (by rw [I.ok.frames,hst]) hfr fl fun h1 hh up=>⟨h1,rfl,hh,up⟩)) (fun _ s'' ⟨⟨h1,e1,hh,up⟩,hdi1⟩=>?_) (fun _ _ z=>z.1.elim)
 subst e1
 refine⟨m0,up.ns ⟨oC,es,ep,keepC,hdC,rC⟩,fun h2 sb cenv _=>?_⟩
 obtain⟨g1,g2,g3,g4⟩:=hh
 have stB:(PySem.W.hideAll B [C]).StaysIn h2:=fun b o e=>by
  have hb:b≠C:=fun z=>by rw [z,PySem.W.hideAll_none _ (.head _)] at e;cases e
  exact(sb.2 b hb).trans (g1 b o (PySem.W.of_hideAll _ e))
 have nB:∀b,B.get? b=none→(PySem.W.hideAll B [C]).get? b=none:=fun b hb=>by
  cases q:(PySem.W.hideAll B [C]).get? b with
  |none=>rfl
  |some u=>rw [PySem.W.of_hideAll _ q] at hb;cases hb
 have fr2:h2.FunFrames (PySem.W.hideAll B [C]) (X.env::X.outer):=frames_but sb g3 (by rw [←hst];exact hCf)
 obtain⟨oe,vs,T,oT,ts,he,hcl,hd,q1,hnT,hTe,hT,hdT,q3⟩:=g4
 have hTC:T≠C:=fun z=>by rw [z,huC] at hnT;cases hnT
 have tr2:h2.TracedAtW (PySem.W.hideAll B [C]) x cls a0 (rawInt X.env.locals):=⟨oe,vs,T,oT,ts,(sb.2 x hxC).trans he,hcl,hd,q1,nB T hnT,hTe,(sb.2 T hTC).trans hT,hdT,q3⟩
 have hdi2:DictIs x d { s' with heap:=h2 }:=by
  obtain⟨ob,e,hb⟩:=hdi1
  exact⟨ob,(sb.2 x hxC).trans e,hb⟩
 unfold PySem.passOn
 refine wpAny_bind (wpAny_field (s:={ s' with heap:=h2 }) ((sb.2 x hxC).trans he) hd q1 ?_)
 rw [if_neg (show ¬((Value.ref T==Value.none)=true) from by simp)]
 refine wpAny_bind (wpAny_mono (Keeps.flight.wpAny (Q:=fun _ s3=>∃h3 fl3,s3={ s' with heap:=h3 }∧(PySem.W.hideAll B [C]).StaysIn h3∧h3.FunFrames (PySem.W.hideAll B [C]) (X.env::X.outer)∧h3.TracedAtW (PySem.W.hideAll B [C]) x cls a0 fl3∧h2.UpToSlots h3) (E:=fun _ _=>False) hdi2 (setFlight_any stB fr2 tr2 fun h3 j1 j2 j3 j4=>⟨h3,_,rfl,j1,j2,j3,fun b o e hn=>⟨o.slots,j4 b o e hn⟩⟩)) (fun _ s3 ⟨⟨h3,fl3,e3,j1,j2,j3,j4⟩,hdi3⟩=>?_) (fun _ _ z=>z.1.elim))
 subst e3
 refine wpAny_throw (hxe _ ?_)
 refine wpAny_mono (Keeps.leave.wpAny (Q:=fun _ s4=>Fly X.prog X.w X.outer X.H₀ X.s₀ x cls H' s4) (E:=fun _ _=>False) hdi3 (leaves_any (by rw [I.ok.frames,hst]) hfr j1 (nB x g2) j2 j3 fun h4 fl4 up4=>?_)) (fun _ s4 z=>z) (fun _ _ z=>z.1)
 have st:∀b o,B.get? b=some o→b≠C→h4.get? b=some o:=fun b o e hb=>fl4.1 b o (PySem.W.hideAll_get _ e (by simpa using hb))
 have same:∀b u v,B.get? b=some u→s'.heap.get? b=some v→u=v:=fun b u v h1 h2=>by
  have h3:=fl.1 b u h1
  rw [h2] at h3
  exact(Option.some.inj h3).symm
 have oldC:∀b o,X.s₀.heap.get? b=some o→b≠C:=fun b o e z=>by rw [z,hC0] at e;cases e
 have trkC:∀b o,H' b=some o→b≠C:=fun b o e z=>by rw [z,hCH'] at e;cases e
 have upAll:∀b o,b≠C→s'.heap.get? b=some o→(∀vs,o.data≠.fields vs)→∃sl,h4.get? b=some { o with slots:=sl }:=fun b o hb e hn=>by
  obtain⟨s1,e1⟩:=up b o e hn
  obtain⟨s2,e2⟩:=j4 b _ ((sb.2 b hb).trans e1) hn
  obtain⟨s3,e3⟩:=up4 b _ e2 hn
  exact⟨s3,e3⟩
 have slot:∀b o,X.s₀.heap.get? b=some o→X.H₀ b=none→b∈X.fs→∃sl,h4.get? b=some { o with slots:=sl }:=fun b o e n hb=>by
  obtain⟨sl,e1⟩:=I.base.slot b o e n hb (nx b)
  obtain⟨sl2,e2⟩:=f.un.any e1 (I.base.free b o e n (nx b)) (by simp)
  obtain⟨_,of,ho,hnf⟩:=I.ok.funs.mem hb
  rw [e] at ho
  cases ho
  obtain⟨sl3,e3⟩:=upAll b _ (oldC b o e) e2 hnf
  exact⟨sl3,e3⟩
 refine⟨f.os.trans I.os,f.bare,⟨fun b o e n hb _=>?_,fun b o e n hb _=>slot b o e n hb,fun b o e n _=>?_,fun b o e _=>?_,fun b xs e=>f.un.tups b xs (I.base.tups b xs e),fun b o u e=>f.un.frzs b o u (I.base.frzs b o u e),fun b ps e=>?_⟩,fun a o e=>?_,⟨_,a0,fl4,fun b o e=>?_,fun b o e hb=>?_⟩,f.free⟩
 ·have e1:=I.base.keep b o e n hb (nx b)
  have n1:=I.base.free b o e n (nx b)
  have hb':=I.notSt (I.oldL e) hb
  have e2:=f.un.keep b o e1 n1 hb' (by simp)
  obtain⟨u,hu⟩:=c2 b o e1 hb'
  exact same b u o hu e2▸st b u hu (oldC b o e)
 ·obtain⟨o',e1⟩:=I.base.there b o e (nx b)
  exact f.un.free b o' e1 (I.base.free b o e n (nx b)) (by simp)
 ·by_cases hb:b∈X.fs
  ·obtain⟨sl,e1⟩:=slot b o e (I.ok.frf b hb) hb
   exact⟨_,e1⟩
  ·obtain⟨o',e1⟩:=I.base.there b o e (nx b)
   obtain⟨u,hu⟩:=c2 b o' e1 (I.notSt (I.oldL e) hb)
   exact⟨u,st b u hu (oldC b o e)⟩
 ·obtain⟨m1,e1⟩:=I.base.tbls b ps e
  obtain⟨m2,e2⟩:=f.un.tbls b _ e1
  exact⟨m1++m2,by rw [e2,Array.append_assoc]⟩
 ·refine(f.hok a o e).stay (fun b u hb q=>?_) (fun _ q=>q) fun _ _ q=>q
  have t:∃o',H' b=some o':=by
   rcases hb with z|z
   ·exact⟨o,by rw [z];exact e⟩
   ·exact⟨_,z⟩
  obtain⟨o',e'⟩:=t
  obtain⟨v,hv⟩:=c1 b o' e'
  exact same b v u hv q▸st b v hv (trkC b o' e')
 ·obtain⟨u,hu⟩:=c1 b o e
  exact⟨u,PySem.W.hideAll_get _ hu (by simpa using trkC b o e)⟩
 ·obtain⟨o',e1⟩:=I.base.there b o e (nx b)
  obtain⟨u,hu⟩:=c2 b o' e1 (I.notSt (I.oldL e) hb)
  exact⟨u,PySem.W.hideAll_get _ hu (by simpa using oldC b o e)⟩
theorem Inv.unblock0{own caps:List Str}{sc:Scope}{cl:List (Str × Addr)}{fp:List Addr}{H':Hp}{s4:Shared}{σ':St}{pins':List (Addr × Obj)}{hp:Heap}{ol:Obj}(I:Inv X pins σ H s)
  (f2:∀b∈fp,FpOk X pins H b) (ehp:hp=s.heap.push ol)
  (J:Inv (blk X (own++caps) sc cl { s with heap:=hp } H hp.objs.size (s.heap.objs.size::fp)) pins' σ' H' s4):Inv X pins σ H' s4:=by
 have up:∀b o,s.heap.get? b=some o→hp.get? b=some o:=fun b o e=>by rw [ehp];exact Heap.get?_push_of_some _ e
 have neD:∀b o,s.heap.get? b=some o→b≠s.heap.objs.size:=fun b o e=>Nat.ne_of_lt (Heap.lt_size e)
 have nex:∀b o,s.heap.get? b=some o→b∉fp→b∉s.heap.objs.size::fp:=fun b o e hb z=>(List.mem_cons.mp z).elim (neD b o e) hb
 have u:=J.base
 refine I.call' (ch:=fp) J.os ⟨fun b o e n hb hx=>u.keep b o (up _ _ e) n hb (nex b o e hx),fun b o e n hb hx=>u.slot b o (up _ _ e) n hb (nex b o e hx),fun b o e n hx=>u.free b o (up _ _ e) n (nex b o e hx),fun b o e hx=>u.there b o (up _ _ e) (nex b o e hx),u.tups,u.frzs,u.tbls⟩ J.hok J.bare fun b hb=>?_
 obtain⟨_,f1,_,f3,f4,f5⟩:=f2 b hb
 exact⟨f3,f1,f4,f5⟩
end
section
variable{X:Cx}
theorem pe_compGX{tg elt iter:Expr}{ifs:List Expr}{own caps:List Str}{κ:List Nat}{sc:Scope}{cl:List (Str × Addr)}{pos:Pos}{wi:TI}{g:TG}{tc:TT}{te:TE}{E:XK}(hst:X.stack=X.env::X.outer)(hfr:X.env.frame=some X.env.locals)(hex:X.ex=[])(hpn:X.pn=[])
  (hxe:∀(x:Addr) (cls:Value) (d:Option Addr) (H':Hp) (s:Shared),E cls d H'→wpAny (model X.prog X.w) X.A (leaving X.env (.ref x)) (fun _ s''=>Fly X.prog X.w X.outer X.H₀ X.s₀ x cls H' s''∧DictIs x d s'') (fun _ _=>False) s→X.xe (.ref x) s) (hcalm:X.calm=true) (S:BlkSc X caps sc cl) (hκ:κ.map (fun k=>X.N[k]?)=caps.map some)
  (hi:PI X tg iter wi) (hg:∀s₀ H₀ C ex xe,PG ((blk X (own++caps) sc cl s₀ H₀ C ex).wish xe) tg g)
  (hc:∀s₀ H₀ C ex xe (pins:List (Addr × Obj)) (s:Shared) (σ:St) (H:Hp) (Q:Bool→Hp→Prop),Inv ((blk X (own++caps) sc cl s₀ H₀ C ex).wish xe) pins σ H s→tc σ H Q →
   wpAny (model X.prog X.w) X.A (forIn ifs true fun c r=>if r=true then do let ok ←isTrue c (compEnvC sc cl C X.env) (eval c (compEnvC sc cl C X.env));pure (ForInStep.yield ok) else pure (ForInStep.yield r)) (TP ((blk X (own++caps) sc cl s₀ H₀ C ex).wish xe) pins σ Q) (fun _ _=>False) s)
  (he:∀s₀ H₀ C ex xe,Passes (CX1 X.prog X.w) ((blk X (own++caps) sc cl s₀ H₀ C ex).wish xe) E→PE ((blk X (own++caps) sc cl s₀ H₀ C ex).wish xe) elt te)
  (hs:∀x,foldedSetIterable iter X.env x=pure x:=by intro _;rfl):PE X (.ListComp elt [⟨tg,iter,ifs,0⟩] sc pos) (tComp own.length κ wi g tc te):=by
 intro pins s σ H Q I h
 rw [eval_ListComp]
 refine wpAny_comprehension_free (use:=none) rfl hs S.clos S.kind S.names (thn (hi pins s σ H _ I h) fun v s1 h1=>thn h1 fun itv s2 h2=>?_)
 obtain⟨it,fp,tn,J,H2,e,I2,T,st2,f2,W,⟨m0,w0⟩,turn⟩:=h2
 subst e
 have hfp:∀b∈fp,b < s2.heap.objs.size:=fun b hb=>by
  obtain⟨o,e,_⟩:=T.obj _ _ st2 b hb
  exact Heap.lt_size e
 refine wpAny_newObj_type (wpAny_newFunctionEnv S.nocell (fun y hy=>nomatch hy) (fun h₁ hns hsb=>?_) S.kind)
 generalize ehp:s2.heap.push { cls:=.type "list",dict:=none,data:=.seq ([]:List Value).toArray }=hp at hns hsb ⊢
 have hsz:hp.objs.size=s2.heap.objs.size+1:=by rw [←ehp,Heap.size_push]
 have hDC:s2.heap.objs.size≠hp.objs.size:=by rw [hsz];exact Nat.ne_of_lt (Nat.lt_succ_self _)
 have old:∀b o,hp.get? b=some o→h₁.get? b=some o:=fun b o e=>(hsb.2 b (Nat.ne_of_lt (Heap.lt_size e))).trans (Heap.get?_push_of_some _ e)
 have eD:h₁.get? s2.heap.objs.size=some { cls:=.type "list",data:=.seq ([]:List Value).toArray }:=old _ _ (by rw [←ehp];exact Heap.get?_push_size _ rfl)
 obtain⟨xe0,hx0⟩:∃xe0,xe0=notedBy (model X.prog X.w) X.A (compEnvC sc cl hp.objs.size X.env) (fun x s'=>compPost (model X.prog X.w) X.A X.xe none (EP X pins σ Q) (.ref s2.heap.objs.size) hp.objs.size (.error x) s'):=⟨_,rfl⟩
 have I0:=(Inv.block (own:=own) (h₁:=h₁) (tk:=s2.toks+([]:List (Str × Value)).length) S hκ I2 f2 hfp ehp.symm hns old).wish xe0
 have stkD:s2.heap.objs.size∉frs X.stack:=fun z=>(List.mem_cons.mp (I2.stkSub _ z)).elim (Nat.ne_of_gt I2.lt) (I2.nofs (Nat.le_refl _))
 have cellD:∀x c,cl.lookup x=some c→c≠s2.heap.objs.size:=fun x c q=>by
  obtain⟨v,z⟩:=I2.cell x c (S.subc q)
  exact Nat.ne_of_lt z.lt
 have pinD:∀p∈X.pn++pins,p.1≠s2.heap.objs.size:=fun p hp=>Nat.ne_of_lt (Heap.lt_size (I2.pin p hp).1)
 have stkF:∀b∈fp,b∉frs X.stack:=fun b hb z=>(List.mem_cons.mp (I2.stkSub _ z)).elim (f2 b hb).2.1 (f2 b hb).2.2.1
 have hps:Passes (CX1 X.prog X.w) ((blk X (own++caps) sc cl { s2 with heap:=hp } H2 hp.objs.size (s2.heap.objs.size::fp)).wish xe0) E:=by
  intro pins' σ' H1 s1 e s' J z
  obtain⟨x,cls,d,H',rfl,fl,hdi,hE⟩:=z
  obtain⟨m,hm,_⟩:=J.loc
  have hsz0:X.s₀.heap.objs.size≤s2.heap.objs.size:=I2.sz
  rw [hx0]
  exact Fly.comp (C:=hp.objs.size) (cenv0:=compEnvC sc cl hp.objs.size X.env) (Inv.unblock0 I2 f2 ehp.symm J.unwish) hst hfr hex fl hdi (by
   cases q:X.s₀.heap.get? hp.objs.size with
   |none=>rfl
   |some o=>exact absurd (Nat.lt_of_lt_of_le (Heap.lt_size q) hsz0) (by rw [hsz];exact Nat.not_lt.mpr (Nat.le_succ _))) hm J.free (fun z=>by
    have:=(List.mem_cons.mp (I2.stkSub _ z)).elim (fun e=>Nat.ne_of_gt (Nat.lt_trans I2.lt (by rw [hsz];exact Nat.lt_succ_self _)) e) (I2.nofs (by rw [hsz];exact Nat.le_succ _))
    exact this) rfl (fun s h=>hxe x cls d H' s hE h)
 have loop:codeAny (model X.prog X.w) X.A (.compLoop (.ListComp elt [⟨tg,iter,ifs,0⟩] sc pos) 0 (.ref it) (.ref s2.heap.objs.size) (compEnvC sc cl hp.objs.size X.env))
   (compPost (model X.prog X.w) X.A X.xe none (EP X pins σ Q) (.ref s2.heap.objs.size) hp.objs.size) { s2 with heap:=h₁,toks:=s2.toks+([]:List (Str × Value)).length }:=by
  refine codeAny_loop rfl (fun n s'=>∃(i:Nat) (ys:List V) (its:List Value) (cap:Nat) (H':Hp),Inv ((blk X (own++caps) sc cl { s2 with heap:=hp } H2 hp.objs.size (s2.heap.objs.size::fp)).wish xe0) pins (blkSt own.length κ σ) H' s'∧tn i s'.heap∧(∀b∈fp,H' b=none) ∧
   s'.heap.get? s2.heap.objs.size=some { cls:=.type "list",data:=.seq its.toArray cap }∧H' s2.heap.objs.size=none∧Vals ys its∧ys.length≤sizeLine∧W i n ys H') (fun n s3 hI=>?_) m0
   ⟨0,[],[],0,H2,I0,T.keep _ _ _ st2 fun b hb o e=>old _ _ (by rw [←ehp];exact Heap.get?_push_of_some _ e),fun b hb=>(f2 b hb).1,eD,I2.hok.fresh (Nat.le_refl _),.nil,Nat.zero_le _,w0⟩
  obtain⟨i,ys,its,cap,H3,I3,st3,fr3,eD3,nD3,rv,hz,w3⟩:=hI
  show wpAny _ X.A ((compTurn (.ListComp elt [⟨tg,iter,ifs,0⟩] sc pos) 0 (.ref it) (.ref s2.heap.objs.size) (compEnvC sc cl hp.objs.size X.env)).onRaise fun x=>do noteFrame x (compEnvC sc cl hp.objs.size X.env);theTreesLotGoes x) _ _ s3
  refine wpAny_noted ?_
  rw [compTurn_list]
  have I3':Inv ((blk X (own++caps) sc cl { s2 with heap:=hp } H2 hp.objs.size (s2.heap.objs.size::fp)).wish xe0) (pins++[(s2.heap.objs.size,{ cls:=.type "list",data:=.seq its.toArray cap })]) (blkSt own.length κ σ) H3 s3:=by
   refine I3.pins_of fun p hp=>(List.mem_append.mp hp).elim (fun z=>I3.pin p (List.mem_append_right _ z)) fun z=>?_
   obtain rfl:=List.mem_singleton.mp z
   exact⟨eD3,nD3,hDC,stkD,fun v q=>by cases q⟩
  have fpk:∀{H':Hp},(∀b∈fp,H' b=none)→∀b∈fp,FpOk ((blk X (own++caps) sc cl { s2 with heap:=hp } H2 hp.objs.size (s2.heap.objs.size::fp)).wish xe0) (pins++[(s2.heap.objs.size,{ cls:=.type "list",data:=.seq its.toArray cap })]) H' b:=fun {H'} hn b hb =>
   ⟨hn b hb,by show b≠hp.objs.size;rw [hsz];exact Nat.ne_of_lt (Nat.lt_succ_of_lt (hfp b hb)),stkF b hb,.inl (List.mem_cons_of_mem _ hb),fun x c q=>(f2 b hb).2.2.2.2.1 x c (S.subc q),fun p hp=>by
    rw [←List.append_assoc] at hp
    rcases List.mem_append.mp hp with z|z
    ·exact(f2 b hb).2.2.2.2.2 p z
    ·obtain rfl:=List.mem_singleton.mp z
     exact Nat.ne_of_gt (hfp b hb)⟩
  rcases turn i n ys H3 w3 with ⟨stop,fin⟩|⟨go,hlt,step⟩
  ·refine wpAny_bind (wpAny_standAt (wpAny_bind (thn (T.done ((blk X (own++caps) sc cl { s2 with heap:=hp } H2 hp.objs.size (s2.heap.objs.size::fp)).wish xe0) rfl rfl rfl hcalm i _ s3 _ H3 _ I3' (fpk fr3) st3 stop) fun r s4 ⟨hr,I4⟩=>?_)))
   subst hr
   refine wpAny_pure ?_
   obtain⟨m,hm,_⟩:=I4.loc
   refine⟨m,hm,fun h' sb=>?_⟩
   have eD4:=(I4.pin (s2.heap.objs.size,{ cls:=.type "list",data:=.seq its.toArray cap }) (List.mem_append_right _ (List.mem_append_right _ (List.mem_singleton.mpr rfl)))).1
   exact⟨.ref s2.heap.objs.size,_,Inv.unblock I2 f2 ehp.symm I4.unwish eD4 nD3 rv hz sb,rfl,fin _ nD3⟩
  ·refine wpAny_bind (wpAny_standAt (wpAny_bind (thn (T.item ((blk X (own++caps) sc cl { s2 with heap:=hp } H2 hp.objs.size (s2.heap.objs.size::fp)).wish xe0) rfl rfl rfl hcalm i _ s3 _ H3 _ I3' (fpk fr3) st3 go) fun r s4 ⟨u,hr,h4⟩=>?_)))
   subst hr
   refine wpAny_bind (thn h4 fun _ s5 ⟨x,H5,I5,r5,y5,st5,fr5⟩=>?_)
   have I5':=I5.pinned (fpk fr5) (T.obj _ _ st5)
   refine wpAny_bind (wpAny_mono (hg _ _ _ _ _ _ s5 _ H5 x u _ I5' r5 (step x H5 y5)) (fun _ s6 ⟨σ6,H6,I6,eσ,q6⟩=>?_) fun _ _ z=>hx0▸z)
   refine wpAny_bind (wpAny_mono (hc _ _ _ _ _ _ s6 σ6 H6 _ I6 q6) (fun ok s7 ⟨H7,I7,q7⟩=>?_) fun _ _ z=>z.elim)
   have back:∀{s8:Shared} {H8:Hp},Inv ((blk X (own++caps) sc cl { s2 with heap:=hp } H2 hp.objs.size (s2.heap.objs.size::fp)).wish xe0) ((pins++[(s2.heap.objs.size,{ cls:=.type "list",data:=.seq its.toArray cap })])++pinsAt fp s5.heap) σ6 H8 s8 →
     Inv ((blk X (own++caps) sc cl { s2 with heap:=hp } H2 hp.objs.size (s2.heap.objs.size::fp)).wish xe0) pins (blkSt own.length κ σ) H8 s8∧tn (i+1) s8.heap∧(∀b∈fp,H8 b=none)∧s8.heap.get? s2.heap.objs.size=some { cls:=.type "list",data:=.seq its.toArray cap }∧H8 s2.heap.objs.size=none:=by
    intro s8 H8 I8
    have pk:∀b∈fp,∀o,s5.heap.get? b=some o→s8.heap.get? b=some o∧H8 b=none:=fun b hb o e=>by
     have z:=I8.pin (b,o) (List.mem_append_right _ (List.mem_append_right _ (mem_pinsAt hb e)))
     exact⟨z.1,z.2.1⟩
    have zD:=I8.pin (s2.heap.objs.size,{ cls:=.type "list",data:=.seq its.toArray cap }) (List.mem_append_right _ (List.mem_append_left _ (List.mem_append_right _ (List.mem_singleton.mpr rfl))))
    refine⟨(I8.pins_of fun p hp=>I8.pin p (List.mem_append_right _ (List.mem_append_left _ (List.mem_append_left _ hp)))).weak ?_ fun j v e=>?_,T.keep _ _ _ st5 fun b hb o e=>(pk b hb o e).1,fun b hb=>?_,zD.1,zD.2.1⟩
    ·exact I3.len.trans I8.len.symm
    ·have hge:own.length≤j:=by
      refine Nat.le_of_not_lt fun q=>?_
      unfold blkSt at e
      rw [List.getElem?_append_left (by rw [List.length_replicate];exact q),List.getElem?_replicate,if_pos q] at e
      cases e
     have z:=congrArg (fun l=>l[j - own.length]?) eσ
     simp only [List.getElem?_drop] at z
     rw [show own.length+(j - own.length)=j by omega] at z
     rw [z]
     exact e
    ·obtain⟨o,e,_⟩:=T.obj _ _ st5 b hb
     exact(pk b hb o e).2
   cases ok with
   |false =>
    obtain⟨m',hm,w7⟩:=(if_neg Bool.false_ne_true)▸q7
    obtain⟨I8,st8,fr8,e8,n8⟩:=back I7
    exact wpAny_pure ⟨rfl,m',hm,i+1,ys,its,cap,H7,I8,st8,fr8,e8,n8,rv,hz,w7⟩
   |true =>
    have q7':=(if_pos rfl)▸q7
    refine wpAny_bind (wpAny_bind (wpAny_mono (he _ _ _ _ _ hps _ s7 σ6 H7 _ I7 q7') (fun y s8 ⟨v8,H8,I8,r8,m',hm,w8⟩=>?_) fun _ _ z=>hx0▸z))
    obtain⟨I9,st9,fr9,e9,n9⟩:=back I8
    have hl:=rv.length
    refine wpAny_bind (wpAny_list_append_plain (items:=its.toArray) ⟨cap,e9⟩ (fun h' hl' sb=>?_) (by rw [List.size_toArray,←hl];exact hz))
    obtain⟨cap',e'⟩:=hl'
    refine wpAny_pure (wpAny_pure ⟨rfl,m',hm,i+1,ys++[v8],its++[y],cap',H8,?_,?_,fr9,?_,n9,Vals.append rv (.cons r8 .nil),?_,w8⟩)
    ·exact I9.turned (t':=s8.toks) (fun b o hb e=>(sb.2 b hb).trans e) n9 hDC (.inl List.mem_cons_self) cellD pinD
    ·exact T.keep _ _ _ st9 fun b hb o e=>(sb.2 b (Nat.ne_of_lt (hfp b hb))).trans e
    ·rw [e']
     congr 3
     simp
    ·rw [List.length_append]
     exact hlt
 exact codeAny_compStart_list loop (T.self _ 0 _ _ _ (T.keep _ _ _ st2 fun b hb o e=>old _ _ (by rw [←ehp];exact Heap.get?_push_of_some _ e)) loop)
end
section
variable{P:Program}{w:World}{K:PySem.W.Frag}{mg:Str→Option Value}{base:Heap}{N:List Str}{qual:Str}{scope:Scope}{f:Addr}{cd:Value}{A:Around}{outer:List Env}{s:Shared}{H:Hp}{E:XK}
theorem pe_compX{tg elt iter:Expr}{own caps:List Str}{κ:List Nat}{sc:Scope}{cl:List (Str × Addr)}{pos:Pos}{wi:TI}{g:TG}{te:TE}(S:BlkSc (cxOf (CX1 P w) P w K mg base N qual scope f cd A outer s H E) caps sc cl)(hκ:κ.map (fun k=>N[k]?)=caps.map some)
  (hi:PI (cxOf (CX1 P w) P w K mg base N qual scope f cd A outer s H E) tg iter wi) (hg:∀s₀ H₀ C ex xe,PG ((blk (cxOf (CX1 P w) P w K mg base N qual scope f cd A outer s H E) (own++caps) sc cl s₀ H₀ C ex).wish xe) tg g)
  (he:∀s₀ H₀ C ex xe,Passes (CX1 P w) ((blk (cxOf (CX1 P w) P w K mg base N qual scope f cd A outer s H E) (own++caps) sc cl s₀ H₀ C ex).wish xe) E→PE ((blk (cxOf (CX1 P w) P w K mg base N qual scope f cd A outer s H E) (own++caps) sc cl s₀ H₀ C ex).wish xe) elt te)
  (hs:∀x,foldedSetIterable iter (envOfC qual scope s.heap.objs.size f cd) x=pure x:=by intro _;rfl):PE (cxOf (CX1 P w) P w K mg base N qual scope f cd A outer s H E) (.ListComp elt [⟨tg,iter,[],0⟩] sc pos) (tComp own.length κ wi g tYes te) :=
 pe_compGX (X:=cxOf (CX1 P w) P w K mg base N qual scope f cd A outer s H E) (E:=E) rfl rfl rfl rfl (fun x cls d H' s hE h=>wpAny_mono h (fun _ s'' z=>⟨x,cls,d,H',rfl,z.1,z.2,hE⟩) (fun _ _ z=>z.elim)) rfl S hκ hi hg (fun s₀ H₀ C ex xe pins s σ H Q I h=>wpAny_tests_nil ⟨H,I,h⟩) he hs
end
end L2
namespace L2
open PySem PySem.Spec PyProof.Rows
section
variable{X:Cx}
end
def putsK(acc:List (Key × V))(ps:List (Key × V)):List (Key × V):=ps.foldl (fun r p=>putK r p.1 p.2) acc
section
variable{X:Cx}{pins:List (Addr × Obj)}{σ:St}
theorem uplK_run{A:Around}(hh:A.handled=none)(hu:A.units+2 < cLine){l it d:Addr}{R:Result→Shared→Prop}{as:List Addr}{ps:List (Key × V)}{H:Hp}(hd:H d=none)(hdi:d≠it)(hl:H l=some (.lst (as.map V.ref)))
  (hps:Paired (fun(p:Key × V) (a:Addr)=>H a=some (.tup [kV p.1,p.2])) ps as) (fo:FpOk X pins H it):∀(n i:Nat) (s:Shared) (acc:List (Key × V)) (t:Tok),as.length - i=n→i≤as.length →
   Inv X pins σ (upd H d (.dK acc)) s→s.heap.IsListIter it l i→acc.length+n < sizeLine→(∀s',Inv X pins σ (upd H d (.dK (putsK acc (ps.drop i)))) s'→R (.ok (.ret .none)) s') →
   codeAny (model X.prog X.w) A (.builtin "dict.update.loop" ⟨[.ref d,.ref it,.int i t,.none],[]⟩) R s:=by
 have hlen:ps.length=as.length:=hps.length
 have hnd:∀{b:Addr} {o:HO},H b=some o→b≠d:=fun e z=>by rw [z,hd] at e;cases e
 obtain⟨f0,f1,f2,f3,f4,f5⟩:=fo
 intro n
 induction n with
 |zero =>
  intro i s acc t hn hi I st hz hR
  have hl':upd H d (.dK acc) l=some (.lst (as.map V.ref)):=by rw [upd_ne (hnd hl)];exact hl
  obtain⟨its,rv,p,_⟩:=I.list (a:=l) (xs:=as.map V.ref) (.inl (.inl hl'))
  have hlv:=rv.length
  rw [List.length_map] at hlv
  refine codeAny_builtin upl_entry ?_
  rw [Around.under_plainId upl_plain]
  refine(show wpAny _ A.in1 (pyNext (.ref it) >>= _) _ _ s from wpAny_bind (wpAny_pyNext_list_end hh st p.isList (by simp;omega) fun h' eb=>?_))
  have I1:=I.turned (t':=s.toks) (h':=h') (fun b o hb e=>eb b o hb e) (by rw [upd_ne (Ne.symm hdi)];exact f0) f1 f3 f4 f5
  have e:ps.drop i=[]:=List.drop_eq_nil_of_le (by omega)
  rw [e] at hR
  exact(show wpAny _ _ (Builtin.Dict.addKeywords d [] >>= _) _ _ _ from wpAny_bind (wpAny_pure (wpAny_pure (hR _ I1))))
 |succ n ih =>
  intro i s acc t hn hi I st hz hR
  have hl':upd H d (.dK acc) l=some (.lst (as.map V.ref)):=by rw [upd_ne (hnd hl)];exact hl
  obtain⟨its,rv,p,_⟩:=I.list (a:=l) (xs:=as.map V.ref) (.inl (.inl hl'))
  have hia:i < as.length:=by omega
  have hip:i < ps.length:=by omega
  obtain⟨a,ha,hak⟩:=pair_get hps (List.getElem?_eq_getElem hip)
  obtain⟨u,hu',ru⟩:=rv.get (show(as.map V.ref)[i]?=some (V.ref a) by rw [List.getElem?_map,ha];rfl)
  cases ru
  refine codeAny_builtin upl_entry ?_
  rw [Around.under_plainId upl_plain]
  refine(show wpAny _ A.in1 (pyNext (.ref it) >>= _) _ _ s from wpAny_bind (wpAny_pyNext_list_item st p.isList (x:=.ref a) (by simpa using hu') fun h' st' sb=>?_))
  have I1:=I.turned (t':=s.toks) (h':=h') (fun b o hb e=>(sb.2 b hb).trans e) (by rw [upd_ne (Ne.symm hdi)];exact f0) f1 f3 f4 f5
  obtain⟨kvs2,rkv,⟨ob,eo,co,nn,od⟩,_⟩:=I1.tuple (a:=a) (xs:=[kV ps[i].1,ps[i].2]) (.inl (.inl (by rw [upd_ne (hnd hak)];exact hak)))
  obtain⟨u1,u2,ekv,r1,r2⟩:=vals2 rkv
  subst ekv
  refine(show wpAny _ A.in1 (holding [.ref a] _ >>= _) _ _ _ from wpAny_bind (wpAny_holding ?_))
  refine wpAny_bind (wpAny_tryCatch ?_)
  unfold Builtin.Dict.pairItems
  refine wpAny_bind (wpAny_typeOf (T:="tuple") ⟨ob,eo,co⟩ ?_)
  rw [if_pos (by decide)]
  refine wpAny_bind (wpAny_seqItems eo od (wpAny_pure ?_))
  refine(show wpAny _ A.in1 (holding [u1,u2] (dictSet d u1 u2)) _ _ _ from wpAny_holding ?_)
  obtain⟨z,hds,xs,rel,dd⟩:=dk_of I1.hok (upd_same (H:=H) (a:=d) (o:=.dK acc))
  have hz2:xs.length≤sizeLine:=by rw [←rel.length];exact z
  have hlp:(putK acc ps[i].1 ps[i].2).length≤acc.length+1:=length_putK acc _ _
  refine wpAny_dictSet_pairs (hsz:=hz2) (kV_is r1) dd fun h2 dd' hs=>?_
  have I2:=d_write (t':=s.toks+1) (ob:=.dK (putK acc ps[i].1 ps[i].2)) I1 (by rw [upd_same];exact True.intro) hs (let ⟨q,_,_,hq,_⟩:=dd';⟨q,hq⟩) (dk_new (by omega) hds (rel.put ps[i].1 r2) dd')
  rw [upd_upd] at I2
  refine wpAny_pure ⟨plainId_quiet upl_plain _,ih (i+1) _ (putK acc ps[i].1 ps[i].2) 0 (by omega) (by omega) I2 (st'.at fun o e=>(hs.2 it (Ne.symm hdi)).trans e) (by omega) fun s' I'=>hR s' ?_⟩
  rw [List.drop_eq_getElem_cons hip]
  exact I'
theorem call_dict_pairsK(hc:X.calm=true)(hu:X.A.units+8 < cLine):CallR X (.type "dict") (fun xs H Q=>∃l as ps,xs=[.ref l]∧H l=some (.lst (as.map V.ref))∧Paired (fun(p:Key × V) (a:Addr)=>H a=some (.tup [kV p.1,p.2])) ps as∧ps.length < sizeLine ∧
  ∀d,H d=none→Q (.ref d) (upd H d (.dK (putsK [] ps)))):=by
 intro pins s σ H xs us Q I r h
 obtain⟨l,as,ps,rfl,hl,hps,hz,q⟩:=h
 obtain⟨u,rfl,ru⟩:=vals1 r
 cases ru
 have hlen:ps.length=as.length:=hps.length
 refine callType_codes (Q₁:=fun obj s₁=>obj=.ref s.heap.objs.size∧s₁={ s with heap:=s.heap.push { cls:=.type "dict",data:=.dict #[] } }) F.kt_called_dict (F.kt_typeCall_dict_1 _) F.entry_dict_init (kt_code_dict_new _ ⟨rfl,rfl⟩) ?_
 rintro obj s₁ ⟨rfl,rfl⟩
 have hdn:H s.heap.objs.size=none:=I.hok.fresh (Nat.le_refl _)
 have gd:(s.heap.push { cls:=.type "dict",data:=.dict #[] }).get? s.heap.objs.size=some { cls:=.type "dict",data:=.dict #[] }:=Heap.get?_push_size _ rfl
 have I1:Inv X pins σ (upd H s.heap.objs.size (.dK [])) { s with heap:=s.heap.push { cls:=.type "dict",data:=.dict #[] } }:=I.laid (a:=s.heap.objs.size) (o:=.dK []) (t':=s.toks) (fun _ _ q=>Heap.get?_push_of_some _ q) (Nat.le_refl _) (dk_empty s.heap I.big)
 have hld:l≠s.heap.objs.size:=fun z=>by rw [z,hdn] at hl;cases hl
 obtain⟨its,rv,p,_⟩:=I1.list (a:=l) (xs:=as.map V.ref) (.inl (.inl (by rw [upd_ne hld];exact hl)))
 refine⟨⟨_,gd,rfl⟩,F.args_dict_init_2 _ _,?_⟩
 unfold Builtin.«dict.__init__»
 refine wpAny_bind ?_
 unfold Builtin.Dict.selfAndRest
 refine wpAny_bind (wpAny_notOrdered_dict (show Shared.TypeIs _ (.ref s.heap.objs.size) "dict" from⟨_,gd,rfl⟩) ?_)
 refine(show wpAny _ _ (pure (s.heap.objs.size,[Value.ref l])) _ _ _ from wpAny_pure ?_)
 show wpAny _ _ (Builtin.Dict.updateFrom "dict.__init__" s.heap.objs.size (.ref l) [] .none) _ _ _
 unfold Builtin.Dict.updateFrom
 refine wpAny_bind (wpAny_typeOf p.isList.typeIs ?_)
 rw [if_pos (by decide)]
 obtain⟨⟨cl,dc,da,sl⟩,n0,gl,e1,e2,e3⟩:=id p
 simp only at e1 e2 e3
 subst e1 e2 e3
 refine wpAny_bind (listKeys_none gl (I.ok.hd hc) fun h' tk hk=>?_)
 rw [if_pos (by decide)]
 have I2:=I1.kept (t':=tk) (h':=h') fun b o e=>hk b o e
 have le:s.heap.objs.size < h'.objs.size:=Heap.lt_size (hk _ _ gd)
 refine wpAny_bind (wpAny_rule ?_)
 refine wpAny_bind (wpAny_pyIter_list (p.isList.at fun o e=>hk l o e) ?_)
 have I3:=I2.kept (t':=tk) (h':=h'.push { cls:=.type "list_iterator",data:=.fields #[.ref l,.int 0 0] }) fun b o e=>Heap.get?_push_of_some _ e
 have fo:FpOk X pins H h'.objs.size:=I2.fpOk (Nat.le_refl _) (I.hok.fresh (Nat.le_of_lt le))
 refine wpAny_pure ⟨plainId_quiet upl_plain _,uplK_run (X:=X) (pins:=pins) (σ:=σ) (A:=X.A.in1) (I.ok.hd hc) (by show X.A.units+1+2 < cLine;omega) hdn (Nat.ne_of_lt le) hl hps fo as.length 0 _ [] 0 (Nat.sub_zero _) (Nat.zero_le _) I3 ⟨_,Heap.get?_push_size _ rfl,rfl,rfl⟩ (by rw [List.length_nil];omega) fun s' I'=>⟨rfl,.ref s.heap.objs.size,_,I',rfl,?_⟩⟩
 rw [List.drop_zero]
 exact q _ hdn
end
end L2
namespace HT
open PySem PySem.Spec PyProof.Rows
section
variable{prog:Program}{w:World}{A:Around}{E:Value→Shared→Prop}{s:Shared}
end
end HT
namespace L2
open PySem PySem.Spec PyProof.Rows
section
variable{X:Cx}
theorem call_isiTup:CallR X (.builtin "isinstance") (fun xs H Q=>∃a ys,xs=[.ref a,.ty "tuple"]∧SqT X.K H a ys∧Q (.bl true) H):=by
 intro pins s σ H xs us Q I rv h
 obtain⟨a,ys,rfl,hq,q⟩:=h
 obtain⟨u,v,rfl,r1,r2⟩:=rv.two
 cases r2
 cases (show u=Value.ref a from r1)
 obtain⟨its,_,⟨o,h1,h2,_⟩,_⟩:=I.tuple hq
 exact PySem.W.kia_one (t:=.type "tuple") (b:=true) PySem.W.kitx_tuple I.kIn ⟨o,h1,h2⟩ rfl (fun z=>nomatch z) fun tk=>⟨.bl true,H,I.tok _,rfl,q⟩
theorem call_isiTA:CallR X (.builtin "isinstance") (fun xs H Q=>∃x,xs=[x,.ty "tuple"]∧((∃z,x=.str z∧Q (.bl false) H)∨(∃i,x=.int i∧Q (.bl false) H)∨∃a ys,x=.ref a∧SqT X.K H a ys∧Q (.bl true) H)):=by
 intro pins s σ H xs us Q I rv h
 obtain⟨x,rfl,h⟩:=h
 rcases h with ⟨z,rfl,q⟩|⟨i,rfl,q⟩|⟨a,ys,rfl,hq,q⟩
 ·obtain⟨u,v,rfl,r1,r2⟩:=rv.two
  cases r2
  exact isinst_ok (t:=.type "str") (b:=false) I r1 (.str z) rfl fun tk=>⟨.bl false,H,I.tok _,rfl,q⟩
 ·obtain⟨u,v,rfl,r1,r2⟩:=rv.two
  cases r2
  exact isinst_ok (t:=.type "int") (b:=false) I r1 (.int i) rfl fun tk=>⟨.bl false,H,I.tok _,rfl,q⟩
 ·exact call_isiTup pins s σ H _ us Q I rv ⟨a,ys,rfl,hq,q⟩
end
end L2
namespace L2
open PySem PySem.Spec PyProof.Rows
end L2
namespace L2
open PySem PySem.Spec PyProof.Rows
section
variable{X:Cx}{tg:Expr}
end
end L2
namespace HT
open PySem PySem.Spec PyProof.Rows
section
variable{prog:Program}{w:World}{K:Type}[DecidableEq K]{knd:KeyKind prog w K}{A:Around}{E:Value→Shared→Prop}{s:Shared}{r d:Addr}{kvs:List (K × Value)}{ep:Nat}
theorem run_collect{Q:Value→Shared→Prop}(hno:A.handled=none)(hv:s.heap.IsItemsView r d)(hd:Heap.DictAt knd s.heap d kvs ep)(hl:kvs.length≤sizeLine)
  (hQ:∀(h':Heap) (tk:Nat) (acc:Array Value) (c:Nat) (as:List Addr),(∀b o,s.heap.get? b=some o→h'.get? b=some o)→h'.get? s.heap.objs.size=some { cls:=.type "list",data:=.seq acc c }→as.length=kvs.length→PySem.W.KdxG knd kvs s.heap.objs.size h' as→acc.toList=as.map Value.ref→Q (.ref s.heap.objs.size) { s with heap:=h',toks:=tk }) :
  wpAny (model prog w) A (runValue (.builtin "proto.collect" ⟨[.ref r],[]⟩)) Q E s:=by
 refine wpAny_runValue (codeAny_builtin PySem.F.entry_proto_collect ?_)
 show wpAny _ _ (newList [] >>= _) _ _ s
 refine wpAny_bind (wpAny_newList ?_)
 refine wpAny_pure ⟨plainId_quiet PySem.F.plain_list_iadd _,codeAny_builtin PySem.F.entry_list_iadd ?_⟩
 rw [Around.under_plainId PySem.F.plain_list_iadd]
 show wpAny _ A.in1 (Builtin.List.listExtendWith (.ref s.heap.objs.size) (.ref r) (.ref s.heap.objs.size)) _ _ _
 obtain⟨ov,hov,rv⟩:=id hv
 have nr:s.heap.objs.size≠r:=Nat.ne_of_gt (Heap.lt_size hov)
 have nd:d≠s.heap.objs.size:=Nat.ne_of_lt hd.lt_size
 refine PySem.W.kdx_extend (knd:=knd) (A:=A) (R:=fun r s'=>match r with|.ok (.ret v)=>Q v s'|.ok _=>False|.error e=>E e s') (s:={ s with heap:=s.heap.push { cls:=.type "list",data:=.seq #[] } }) hno ⟨ov,Heap.get?_push_of_some _ hov,rv⟩ (hd.push _) s.heap.objs.size nr nd _ 0 (Heap.get?_push_size _ rfl) (fun h' tk acc c as hk hS hlen hG hacc=>?_) hl
 refine hQ h' tk acc c as (fun b o e=>hk b o (Nat.ne_of_lt (Heap.lt_size e)) (Heap.get?_push_of_some _ e)) hS hlen ⟨hG.rise,fun a ha=>?_,hG.pairs⟩ hacc
 have h1:=hG.above a ha
 have e:(s.heap.push { cls:=.type "list",data:=.seq #[] }).objs.size=s.heap.objs.size+1:=by simp [Heap.push]
 have h2:(s.heap.push { cls:=.type "list",data:=.seq #[] }).objs.size < a:=h1
 rw [e] at h2
 exact Nat.lt_of_succ_lt h2
theorem collect_items{Q:List Value→Shared→Prop}(hno:A.handled=none)(hv:s.heap.IsItemsView r d)(hd:Heap.DictAt knd s.heap d kvs ep)(hl:kvs.length≤sizeLine)
  (hQ:∀(h':Heap) (tk:Nat) (as:List Addr),(∀b o,s.heap.get? b=some o→h'.get? b=some o)→s.heap.objs.size < h'.objs.size→as.length=kvs.length→PySem.W.KdxG knd kvs s.heap.objs.size h' as→Q (as.map Value.ref) { s with heap:=h',toks:=tk }) :
  wpAny (model prog w) A (collect (.ref r)) Q E s:=by
 unfold collect
 refine wpAny_bind (run_collect hno hv hd hl fun h' tk acc c as hk hS hlen hG hacc=>?_)
 refine wpAny_bind (wpAny_load hS ?_)
 refine wpAny_pure ?_
 rw [hacc]
 exact hQ h' tk as hk (Heap.lt_size hS) hlen hG
theorem code_tuple_new_items{Q:Value→Shared→Prop}(hno:A.handled=none)(hv:s.heap.IsItemsView r d)(hd:Heap.DictAt knd s.heap d kvs ep)(hl:kvs.length≤sizeLine)
  (hQ:∀(h':Heap) (tk:Nat) (as:List Addr),(∀b o,s.heap.get? b=some o→h'.get? b=some o)→s.heap.objs.size < h'.objs.size→as.length=kvs.length→PySem.W.KdxG knd kvs s.heap.objs.size h' as→Q (.ref h'.objs.size) { s with heap:=h'.push { cls:=.type "tuple",data:=.seq (as.map Value.ref).toArray },toks:=tk }) :
  codeAny (model prog w) A (.call (.builtin "tuple.__new__") ⟨[.type "tuple",.ref r],[]⟩) (wants Q E) s:=by
 refine codeAny_of_tree ?_
 show wpAny _ _ (checkBuiltinCall "tuple.__new__" ⟨[.type "tuple",.ref r],[]⟩ >>= _) _ _ s
 refine wpAny_bind (wpAny_of_eq (PySem.F.newCall_tuple_1 _) ?_)
 refine wpAny_pure ⟨plainId_quiet PySem.F.plain_tuple_new _,codeAny_builtin PySem.F.entry_tuple_new ?_⟩
 rw [Around.under_plainId PySem.F.plain_tuple_new]
 unfold Builtin.«tuple.__new__»
 refine wpAny_bind (wpAny_of_eq (a:=true) rfl ?_)
 refine wpAny_ite_false (by decide) ?_
 refine wpAny_bind (wpAny_of_eq sub_tuple_self ?_)
 refine wpAny_ite_false (by decide) ?_
 refine wpAny_ite_false (by decide +kernel) ?_
 refine wpAny_bind (wpAny_of_eq madeHere_tuple ?_)
 refine wpAny_bind (wpAny_of_eq init_tuple_lookup ?_)
 refine wpAny_ite_true (by decide) ?_
 refine wpAny_bind (wpAny_of_eq (a:=()) rfl ?_)
 refine wpAny_bind (wpAny_of_eq (a:=()) rfl ?_)
 refine wpAny_ite_true (by decide) ?_
 unfold Builtin.Tuple.tupleIsExact
 obtain⟨ov,hov,rc,rd⟩:=id hv
 refine wpAny_bind (wpAny_bind (wpAny_typeOf (T:="dict_items") ⟨ov,hov,rc⟩ (wpAny_pure ?_)))
 refine wpAny_ite_false (by decide) ?_
 refine wpAny_bind (collect_items (A:=A.in1) hno hv hd hl fun h' tk as hk hsz hlen hG=>?_)
 refine wpAny_bind (wpAny_pure ?_)
 show wpAny _ _ (Builtin.Tuple.tupleExact _ >>= _) _ _ _
 unfold Builtin.Tuple.tupleExact
 refine wpAny_bind (wpAny_newObj_type ?_ ?_)
 ·exact wpAny_pure (hQ h' tk as hk hsz hlen hG)
 ·have e:(as.map Value.ref).toArray.size≤sizeLine:=by
   rw [List.size_toArray,List.length_map,hlen]
   exact hl
  exact e
theorem call_tuple_items{Q:Value→Shared→Prop}(hno:A.handled=none)(hv:s.heap.IsItemsView r d)(hd:Heap.DictAt knd s.heap d kvs ep)(hl:kvs.length≤sizeLine)
  (hQ:∀(h':Heap) (tk:Nat) (as:List Addr),(∀b o,s.heap.get? b=some o→h'.get? b=some o)→s.heap.objs.size < h'.objs.size→as.length=kvs.length→PySem.W.KdxG knd kvs s.heap.objs.size h' as→Q (.ref h'.objs.size) { s with heap:=h'.push { cls:=.type "tuple",data:=.seq (as.map Value.ref).toArray },toks:=tk }) :
  wpAny (model prog w) A (call (.type "tuple") [.ref r]) Q E s:=by
 refine callType_codes (Q₁:=fun obj s₁=>s₁.TypeIs obj "tuple"∧Q obj s₁) PySem.F.called_tuple (PySem.F.typeCall_tuple_1 _) PySem.F.entry_object_init (code_tuple_new_items (A:=A.in1) hno hv hd hl fun h' tk as hk hsz hlen hG=>⟨⟨_,Heap.get?_push_size _ rfl,rfl⟩,hQ h' tk as hk hsz hlen hG⟩) ?_
 rintro obj s₁ ⟨h1,h2⟩
 exact⟨h1,PySem.F.args_object_init_2 _ _,object_init_meets (newId:="tuple.__new__") init_tuple_lookup PySem.F.called_tuple.made (by decide) prog w A.in1 _ s₁ ⟨h1,rfl,h2⟩⟩
end
end HT
namespace L2
open PySem PySem.Spec PyProof.Rows
section
variable{X:Cx}
theorem mt_dclear:MtR X "dict.clear" (fun x vs H Q=>∃d kvs,x=.ref d∧vs=[]∧H d=some (.dK kvs)∧Q .non (upd H d (.dK []))):=by
 intro pins s σ H x vs v us Q I rx rv h
 obtain⟨d,kvs,rfl,rfl,hd,q⟩:=h
 cases rx
 cases rv
 exact d_clear I hd fun s' I'=>⟨.non,_,I',rfl,q⟩
theorem call_tuple_itemsV(hc:X.calm=true):CallR X (.type "tuple") (fun xs H Q=>∃v d kvs,xs=[.ref v]∧H v=some (.ext (itemsAt v d))∧H d=some (.dK kvs) ∧
  ∀(H2:Hp) (as:List Addr) (l:Addr),(∀b u,H b=some u→H2 b=some u)→H l=none→(∀a∈as,H a=none)→H2 l=some (.tup (as.map V.ref))→Paired (fun(p:Key × V) (k:Addr)=>H2 k=some (.tup [kV p.1,p.2])) kvs as→Q (.ref l) H2):=by
 intro pins s σ H xs us Q I r h
 obtain⟨v,d,kvs,rfl,hv,hd,q⟩:=h
 obtain⟨u,rfl,ru⟩:=vals1 r
 cases ru
 obtain⟨z,hs,ys,rel,dd⟩:=dk_of I.hok hd
 obtain⟨ep,dat⟩:=dd.dictAt
 have hview:s.heap.IsItemsView v d:=(I.hok v _ hv).1
 have hl2:kvs.length=ys.length:=rel.length
 refine HT.call_tuple_items (knd:=mixKind X.prog X.w) (I.ok.hd hc) hview dat (by rw [←hl2];exact z) fun h' tk as hk hsz0 hlen hG=>?_
 have hlen':as.length=kvs.length:=by rw [hlen,hl2]
 have hge:∀a∈as,s.heap.objs.size≤a:=fun a ha=>Nat.le_of_lt (hG.above a ha)
 have hlt:∀a∈as,a < h'.objs.size:=fun a ha=>by
  obtain⟨j,hj⟩:=List.getElem?_of_mem ha
  obtain⟨_,_,_,_,_,h5⟩:=hG.pairs j a hj
  exact Heap.lt_size h5
 have hnS:h'.objs.size∉as:=fun ha=>Nat.lt_irrefl _ (hlt _ ha)
 have hsz:s.heap.objs.size≤h'.objs.size:=Nat.le_of_lt hsz0
 have vr:∀ks:List Addr,Vals (ks.map V.ref) (ks.map Value.ref):=fun ks=>by
  induction ks with
  |nil=>exact .nil
  |cons k ks ih=>exact .cons rfl ih
 have old:∀b,b < s.heap.objs.size→upd (layT H as kvs) h'.objs.size (.tup (as.map V.ref)) b=H b:=fun b hb=>by
  rw [upd_ne (Nat.ne_of_lt (Nat.lt_of_lt_of_le hb hsz))]
  exact layT_old fun ha=>absurd (hge b ha) (Nat.not_le_of_lt hb)
 have I2:Inv X pins σ (upd (layT H as kvs) h'.objs.size (.tup (as.map V.ref))) { s with heap:=h'.push { cls:=.type "tuple",data:=.seq (as.map Value.ref).toArray },toks:=tk }:=by
  refine I.laids (t':=tk) (fun b o e=>Heap.get?_push_of_some _ (hk b o e)) old fun b u hb hu=>?_
  by_cases e:b=h'.objs.size
  ·subst e
   rw [upd_same] at hu
   cases hu
   exact⟨by rw [List.length_map,hlen'];exact z,as.map Value.ref,vr as,IsTup.new _ _⟩
  ·rw [upd_ne e] at hu
   by_cases ha:b∈as
   ·obtain⟨j,p,h1,h2,rfl⟩:=layT_at ha hlen' hu
    obtain⟨key,k,x,h3,h4,h5⟩:=hG.pairs j b h1
    have hp:p.1=k∧RelV p.2 x:=by
     have:=pair_get rel h2
     obtain⟨y,hy,e1,e2⟩:=this
     rw [h3] at hy
     cases hy
     exact⟨e1,e2⟩
    refine⟨by show 2≤sizeLine;decide,[key,x],.cons (by rw [hp.1];exact key_rel h4) (.cons hp.2 .nil),_,Heap.get?_push_of_some _ h5,rfl,_,rfl⟩
   ·rw [layT_old ha] at hu
    rw [I.hok.fresh hb] at hu
    cases hu
 refine⟨.ref h'.objs.size,_,I2,rfl,q _ as h'.objs.size (fun b u hb=>?_) (I.hok.fresh hsz) (fun a ha=>I.hok.fresh (hge a ha)) upd_same ?_⟩
 ·have lt:b < s.heap.objs.size:=Nat.lt_of_not_le fun z=>by rw [I.hok.fresh z] at hb;cases hb
  rw [old b lt]
  exact hb
 ·have go:∀{qs:List (Key × V)} {bs:List Addr},(∀b∈bs,b∈as)→Paired (fun(p:Key × V) (k:Addr)=>layT H as kvs k=some (.tup [kV p.1,p.2])) qs bs→Paired (fun(q:Key × V) (k:Addr)=>upd (layT H as kvs) h'.objs.size (.tup (as.map V.ref)) k=some (.tup [kV q.1,q.2])) qs bs:=fun {qs bs} hb z=>by
   induction z with
   |nil=>exact .nil
   |@cons x y xs ys e _ ih =>
    refine .cons ?_ (ih fun b hb'=>hb b (List.mem_cons_of_mem _ hb'))
    rw [upd_ne (fun z=>hnS (by rw [←z];exact hb y List.mem_cons_self))]
    exact e
  exact go (fun _ z=>z) (layT_pairs hG.rise hlen')
end
end L2
namespace HT
open PySem PySem.Spec PyProof.Rows
theorem noFill_tuple_mul:fillsNumberSlot (.type "tuple") "mul"=pure false :=
 PySem.fillsNumberSlot_seq (id:="tuple.__mul__") (r:=some (.builtin "tuple.__rmul__")) PySem.F.slot_tuple_mul.lookup (by decide +kernel) PySem.F.slot_tuple_rmul.lookup (by decide +kernel)
theorem repeat_tuple:seqRepeat? (.type "tuple")=pure (some (.builtin "tuple.__mul__")):=by
 unfold seqRepeat?
 rw [PySem.seqSlot_of (T:="tuple") (name:="__mul__") (id:="tuple.__mul__") PySem.F.slot_tuple_mul.lookup (by decide +kernel),PySem.seqSlot_of (T:="tuple") (name:="__rmul__") (id:="tuple.__rmul__") PySem.F.slot_tuple_rmul.lookup (by decide +kernel)]
 rfl
theorem int_rmul_tuple(a:Int)(t:Tok)(l:Addr)(dc:Option Addr)(items:Array Value)(n:Nat)(sl:Array (Option Value)) :
  Meets (Builtin.«int.__rmul__» ⟨[.int a t,.ref l],[]⟩) (fun _ R s=>s.heap.get? l=some { cls:=.type "tuple",dict:=dc,data:=.seq items n,slots:=sl }∧R (.ok (.ret Value.notImplemented)) s) :=
 .of_wp fun prog w A R s h=>by obtain⟨hp,g,d,tk,os⟩:=s;obtain⟨hl,h⟩:=h;wp_walk;exact⟨_,rfl,h⟩
section
variable{prog:Program}{w:World}{A:Around}{E:Value→Shared→Prop}{s:Shared}
theorem tuple_mul{a:Addr}{items:Array Value}{k:Int}{t:Tok}{Q:Value→Shared→Prop}(ht:IsTup s.heap a items)(h0:0≤k)(h1:k≤1000)(hz:items.size*k.toNat≤1000)(hn:items.isEmpty=false)
    (hq:(k=1→Q (.ref a) s)∧(k≠1→Q (.ref s.heap.objs.size) { s with heap:=s.heap.push { cls:=.type "tuple",data:=.seq ((List.replicate k.toNat items).foldl (·++·) #[]) } })) :
    wpAny (model prog w) A (call (.builtin "tuple.__mul__") [.ref a,.int k t]) Q E s:=by
  refine wpAny_call_entry PySem.F.slot_tuple_mul ht.typeIs PySem.F.entry_tuple_mul ?_ (PySem.F.args_tuple_mul_2 _ _)
  show wpAny _ _ (asIndex (.int k t) >>= _) _ _ s
  refine wpAny_bind (wpAny_of_eq (a:=k) rfl ?_)
  refine wpAny_ite_false (by have a1:¬k < -(2 ^ 63):=by omega
                             have a2:¬k≥2 ^ 63:=by omega
                             simp
                             omega) ?_
  refine wpAny_bind (tupleItemsOf_ ht ?_)
  by_cases c:k=1
  · refine wpAny_ite_true (by rw [c];simp) ?_
    unfold Builtin.Tuple.tupleIsExact
    refine wpAny_bind (wpAny_bind (wpAny_typeOf ht.typeIs (wpAny_pure ?_)))
    refine wpAny_ite_true (by decide) ?_
    refine wpAny_bind (wpAny_rule ?_)
    exact wpAny_pure ⟨_,rfl,hq.1 c⟩
  · refine wpAny_ite_false (by rw [hn];simp [c]) ?_
    by_cases c0:k=0
    · refine wpAny_ite_true (by rw [c0];simp) ?_
      unfold Builtin.Tuple.tupleExact
      refine wpAny_bind (wpAny_newObj_type ?_ ?_)
      · refine wpAny_pure ⟨_,rfl,?_⟩
        have:=hq.2 c
        rw [c0] at this
        exact this
      · exact Nat.zero_le _
    · refine wpAny_ite_false (by have a1:¬k≤0:=by omega
                                 rw [hn]
                                 simp [a1]) ?_
      refine wpAny_ite_false ?_ ?_
      · have hk:((k.toNat:Nat):Int)=k:=Int.toNat_of_nonneg h0
        have h2:((items.size*k.toNat:Nat):Int)≤1000:=by exact_mod_cast hz
        have h3:(items.size:Int)*k≤1000:=by
          rw [←hk]
          push_cast at h2
          exact h2
        refine decide_eq_false (p:=(items.size:Int)*k > (2 ^ 63 - 1) / 8) ?_
        omega
      have hs:(1000:Nat) < sizeLine:=L2.small1000 (Nat.le_refl _)
      refine wpAny_ite_false ?_ ?_
      · have hk:((k.toNat:Nat):Int)=k:=Int.toNat_of_nonneg h0
        have h2:((items.size*k.toNat:Nat):Int)≤1000:=by exact_mod_cast hz
        have h3:(items.size:Int)*k≤1000:=by
          rw [←hk]
          push_cast at h2
          exact h2
        refine decide_eq_false fun hh=>?_
        have h4:(items.size:Int)*k > ((sizeLine:Nat):Int):=of_decide_eq_true hh
        omega
      unfold Builtin.Tuple.tupleExact
      refine wpAny_bind (wpAny_newObj_type ?_ ?_)
      · exact wpAny_pure ⟨_,rfl,hq.2 c⟩
      · have e:=L2.foldl_rep items.toList k.toNat []
        show((List.replicate k.toNat items).foldl (·++·) #[]).size≤sizeLine
        have e2:(List.replicate k.toNat items).foldl (·++·) #[]=(List.replicate k.toNat items.toList).flatten.toArray:=e
        rw [e2,List.size_toArray,L2.len_rep,Array.length_toList,Nat.mul_comm]
        omega
end
end HT
namespace L2
open PySem PySem.Spec PyProof.Rows
section
variable{X:Cx}
def rMulT(K:PySem.W.Frag):R2:=fun x y H Q=>∃a k xs,x=.ref a∧y=.int k∧SqT K H a xs∧xs≠[]∧0≤k∧k≤1000∧xs.length*k.toNat≤1000∧∀p H',Same H H'→SqT K H' p (List.replicate k.toNat xs).flatten→Q (.ref p) H'
theorem op_mulT:OpR X (binaryOp .Mult) (rMulT X.K):=by
 intro pins s σ H x y v u Q I rx ry h
 obtain⟨a,k,xs,rfl,rfl,hq,hne,h0,h1,hz,q⟩:=h
 cases rx
 obtain⟨t,rfl⟩:=ry
 obtain⟨its,r,ht,z⟩:=I.tuple hq
 have hl:=r.length
 obtain⟨⟨cls,dc,da,sl⟩,e,ec,n,ed⟩:=id ht
 simp only at ec ed
 subst ec
 subst ed
 refine wpAny_binaryOp_repeat_ref (T:="tuple") (U:="int") (by decide) ⟨_,e,rfl⟩ (fun s'=>typeIs_int s' k t) HT.noFill_tuple_mul PySem.F.fills_int_mul PySem.F.slot_int_rmul HT.repeat_tuple PySem.F.slot_int_index.lookup
  (call_meets PySem.F.slot_int_rmul (typeIs_int s k t) PySem.F.entry_int_rmul (PySem.F.args_int_rmul_2 _ _) (HT.int_rmul_tuple k t a dc its.toArray n sl)
   ⟨e,rfl,⟨_,e,rfl⟩,HT.tuple_mul ht h0 h1 (by rw [List.size_toArray,←hl];exact hz) ?_ ⟨fun c=>?_,fun c=>?_⟩⟩)
 ·cases its with
  |nil =>
   exfalso
   cases xs with
   |nil=>exact hne rfl
   |cons _ _=>cases hl
  |cons _ _=>rfl
 ·refine⟨.ref a,H,I,rfl,q a H (Same.refl _) ?_⟩
  rw [c]
  show SqT X.K H a (List.replicate 1 xs).flatten
  simpa using hq
 ·have e2:(List.replicate k.toNat its.toArray).foldl (·++·) #[]=(List.replicate k.toNat its).flatten.toArray:=by
   have:=foldl_rep its k.toNat []
   rw [List.nil_append] at this
   exact this
  rw [e2]
  have hsz:(List.replicate k.toNat xs).flatten.length≤sizeLine:=by
   rw [len_rep,Nat.mul_comm]
   exact Nat.le_of_lt (small1000 hz)
  have I2:Inv X pins σ (upd H s.heap.objs.size (.tup (List.replicate k.toNat xs).flatten)) { s with heap:=s.heap.push { cls:=.type "tuple",data:=.seq (List.replicate k.toNat its).flatten.toArray } } :=
   I.laid (t':=s.toks) (fun b o e=>Heap.get?_push_of_some _ e) (Nat.le_refl _) (show ObjOk X.prog X.w _ _ _ (.tup _) from⟨hsz,_,r.rep k.toNat,IsTup.new _ _⟩)
  exact⟨.ref s.heap.objs.size,_,I2,rfl,q _ _ (fun b o hb=>by rw [upd_ne (fun e=>by rw [e,I.hok.fresh (Nat.le_refl _)] at hb;cases hb)];exact hb) (SqT.of upd_same)⟩
end
end L2
namespace L2
open PySem PySem.Spec PyProof.Rows
section
variable{X:Cx}
end
end L2
namespace L2
open PySem PySem.Spec PyProof.Rows
section
variable{P:Program}{w:World}
theorem Fly.thaw{outer:List Env}{H H':Hp}{s s':Shared}{x d:Addr}{cls:Value}{o:Obj}{u:HO}(f:Fly P w outer H s x cls H' s')(e:H' d=some (.frz o u))(h0:∀o' u',H d≠some (.frz o' u')):Fly P w outer H s x cls (upd H' d u) s':=by
 have nd:∀b,H' b=none→b≠d:=fun b n z=>by rw [z,e] at n;cases n
 have no:∀b v,H' b=some v→(∀o u,v≠.frz o u)→b≠d:=fun b v q n z=>by rw [z,e] at q;cases q;exact n _ _ rfl
 obtain⟨B,a0,fl,c1,c2⟩:=f.fl
 refine⟨f.os,f.bare,⟨f.un.keep,f.un.slot,fun b ob q n hx=>?_,f.un.there,fun b xs q=>?_,fun b ob v q=>?_,fun b ps q=>?_⟩,fun b v q=>?_,⟨B,a0,fl,fun b v q=>?_,c2⟩,?_⟩
 ·have z:=f.un.free b ob q n hx
  rw [upd_ne (nd b z)]
  exact z
 ·have z:=f.un.tups b xs q
  rw [upd_ne (no b _ z (fun _ _=>nofun))]
  exact z
 ·have z:=f.un.frzs b ob v q
  rw [upd_ne (fun w=>h0 ob v (by rw [←w];exact q))]
  exact z
 ·obtain⟨more,z⟩:=f.un.tbls b ps q
  exact⟨more,by rw [upd_ne (no b _ z (fun _ _=>nofun))];exact z⟩
 ·have own:∀a b,H' b=some (.own a)→upd H' d u b=some (.own a):=fun a b z=>by rw [upd_ne (no b _ z (fun _ _=>nofun))];exact z
  have tup:∀b xs,H' b=some (.tup xs)→upd H' d u b=some (.tup xs):=fun b xs z=>by rw [upd_ne (no b _ z (fun _ _=>nofun))];exact z
  by_cases hb:b=d
  ·subst hb
   rw [upd_same] at q
   cases q
   exact(f.hok b _ e).2.stay (fun _ _ _ z=>z) (own b) tup
  ·rw [upd_ne hb] at q
   exact(f.hok b v q).stay (fun _ _ _ z=>z) (own b) tup
 ·by_cases hb:b=d
  ·subst hb
   exact c1 b _ e
  ·rw [upd_ne hb] at q
   exact c1 b v q
 ·rw [upd_ne (nd _ f.free)]
  exact f.free
variable{K:PySem.W.Frag}{mg:Str→Option Value}{base:Heap}{N:List Str}{qual:Str}{scope:Scope}{f:Addr}{cd:Value}{A:Around}{outer:List Env}{s:Shared}{H:Hp}{E:XK}
theorem passF:Passes (CX1 P w) (cxOf (CX1 P w) P w K mg base N qual scope f cd A outer s H E) (fun c dd H'=>∃d o u,H' d=some (.frz o u)∧(∀o' u',H d≠some (.frz o' u'))∧E c dd (upd H' d u)):=fun pins σ H1 s1 e s' I h=>by
 obtain⟨x,cls,dd,H',rfl,fl,hd,d,o,u,e1,e2,q⟩:=h
 exact Fly.leave I rfl rfl rfl fl hd fun s'' g gd=>⟨x,cls,dd,_,rfl,g.thaw e1 e2,gd,q⟩
end
end L2
namespace L2
open PySem PySem.Spec PyProof.Rows
def ItkT(d:Addr)(o:Obj)(kvs:List (List Key × V))(as:List Addr):It :=
 ⟨fun i H=>H d=some (.frz o (.dT kvs))∧i < kvs.length,fun i H x H'=>H'=H∧∃a,as[i]?=some a∧x=.ref a,fun i H=>H d=some (.frz o (.dT kvs))∧kvs.length≤i⟩
theorem turn_keysT{P:Program}{w:World}{K:PySem.W.Frag}{tg:Expr}{d it:Addr}{o:Obj}{kvs:List (List Key × V)}{as:List Addr}{en:Array DictEntry}{ep:Nat}(hn:kvs.length=en.size)(hk:∀(i:Nat) (hi:i < en.size),∃a,as[i]?=some a∧en[i].key=.ref a)(hat:∀h:Heap,h.get? d=some o→RawD h d en ep) :
  Turn P w K tg (ItkT d o kvs as) [it] it (fun i h=>h.IsKeyIter it d i en.size ep) where
 mem:=by simp
 obj:=fun i h st b hb=>by
  obtain rfl:b=it:=by simpa using hb
  obtain⟨o,e,c,hd⟩:=st
  exact⟨o,e,fun v z=>by rw [hd] at z;cases z⟩
 keep:=fun i h h' st k=>by
  obtain⟨o,e,r⟩:=st
  exact⟨o,k it (by simp) _ e,r⟩
 item:=by
  intro X hP hw hK hc i pins s σ H E I hf st hg
  subst hP hw hK
  obtain⟨hd,hi⟩:=hg
  obtain⟨f0,f1,f2,f3,f4,f5⟩:=hf it (by simp)
  have hi':i < en.size:=by rw [←hn];exact hi
  obtain⟨a,ha,hka⟩:=hk i hi'
  refine raw_item st (hat _ (I.hok d _ hd).1) hi' fun h' st' sb=>?_
  have I1:Inv X pins σ H { s with heap:=h' }:=I.turned (t':=s.toks) (fun b o hb e=>(sb.2 b hb).trans e) f0 f1 f3 f4 f5
  obtain⟨o',e,c,dt⟩:=id st'
  rw [hka]
  exact⟨_,rfl,go_of (s:={ s with heap:=h' }) e c dt (by decide) ⟨.ref a,H,I1,rfl,⟨rfl,a,ha,rfl⟩,st',fun b hb=>(hf b hb).1⟩⟩
 done:=by
  intro X hP hw hK hc i pins s σ H E I hf st hg
  subst hP hw hK
  obtain⟨hd,hi⟩:=hg
  obtain⟨f0,f1,f2,f3,f4,f5⟩:=hf it (by simp)
  exact raw_end (I.ok.hd hc) st (hat _ (I.hok d _ hd).1) (by omega) fun h' eb=>⟨rfl,I.turned (t':=s.toks) (fun b o hb q=>eb b o hb q) f0 f1 f3 f4 f5⟩
 self:=fun _ _ _ _ _ st h=>wpAny_pyIter_keyiter st h
section
variable{X:Cx}{tg:Expr}
def iKeysT(to:TE):TI:=fun σ H R=>to σ H fun x H1=>∃d kvs,x=.ref d∧H1 d=some (.dT kvs)∧∀o as,Paired (fun(p:List Key × V) (a:Addr)=>H1 a=some (.tup (p.1.map kV))) kvs as→R (ItkT d o kvs as) (upd H1 d (.frz o (.dT kvs)))
theorem keys_of{H:Hp}:∀{kvs:List (List Key × V)} {xs:List (List Key × Addr × Value)},KT H kvs xs→Paired (fun(p:List Key × V) (a:Addr)=>H a=some (.tup (p.1.map kV))) kvs (xs.map fun q=>q.2.1)
 |_,_,.nil=>.nil
 |_,_,.cons h t=>.cons h.2.1 (keys_of t)
theorem pi_keysT{o:Expr}{to:TE}(ho:PE X o to):PI X tg o (iKeysT to):=by
 intro pins s σ H R I h
 refine thn (ho pins s σ H _ I h) fun v s1 ⟨x,H1,I1,r1,d,kvs,ex,hd,q⟩=>?_
 subst ex
 cases r1
 have hob:=I1.hok d _ hd
 obtain⟨z,hs,ys,rel,ob,en,ep,e1,ex,dt,eqs,nd⟩:=id hob
 have raw:RawD s1.heap d en ep:=⟨ob,e1,ex,dt⟩
 have hn:kvs.length=en.size:=(dt_raw hob raw).1
 have hat:∀h:Heap,h.get? d=some ob→RawD h d en ep:=fun h e=>⟨ob,e,ex,dt⟩
 have hk:∀(i:Nat) (hi:i < en.size),∃a,(ys.map fun q=>q.2.1)[i]?=some a∧en[i].key=.ref a:=fun i hi=>by
  have e1:en.toList[i]?=some en[i]:=by simp [hi]
  rw [eqs,List.getElem?_map] at e1
  obtain⟨q,hq,e2⟩:=Option.map_eq_some_iff.mp e1
  exact⟨q.2.1,by rw [List.getElem?_map,hq];rfl,by rw [←e2];rfl⟩
 refine raw_iter hs raw ?_
 have hd2:(s1.heap.push { cls:=.type "dict_keyiterator",data:=.fields #[.ref d,.int 0 0,.int en.size 0,.int ep 0] }).get? d=some ob:=Heap.get?_push_of_some _ e1
 have I2:=I1.kept (t':=s1.toks) (h':=s1.heap.push { cls:=.type "dict_keyiterator",data:=.fields #[.ref d,.int 0 0,.int en.size 0,.int ep 0] }) fun b u e=>Heap.get?_push_of_some _ e
 have I3:=I2.write (x:=d) (e:=d) (o:=.frz ob (.dT kvs)) (t':=s1.toks) (h':=s1.heap.push { cls:=.type "dict_keyiterator",data:=.fields #[.ref d,.int 0 0,.int en.size 0,.int ep 0] }) (by rw [hd];trivial) (.inl rfl) (fun _ _ _ e=>e) ⟨ob,hd2⟩
  ⟨hd2,z,hs,ys,Paired.mapP rel (fun p q ⟨a1,a2,a3⟩=>⟨a1,by rw [upd_ne (fun e=>by rw [e,hd] at a2;cases a2)];exact a2,a3⟩),ob,en,ep,hd2,ex,dt,eqs,nd⟩
 have hnn:H1 s1.heap.objs.size=none:=I1.hok.fresh (Nat.le_refl _)
 refine⟨_,[s1.heap.objs.size],_,_,_,rfl,I3,turn_keysT hn hk hat,⟨_,Heap.get?_push_size _ rfl,rfl,rfl⟩,fun b hb=>?_,q ob _ (keys_of rel)⟩
 obtain rfl:b=s1.heap.objs.size:=by simpa using hb
 refine I1.fpOk (Nat.le_refl _) ?_
 rw [upd_ne (fun e=>by rw [e,hd] at hnn;cases hnn)]
 exact hnn
def rInsert:V→List V→Hp→VK→Prop:=fun x vs H Q=>∃l n xs y,x=.ref l∧vs=[.int ((n:Nat):Int),y]∧H l=some (.lst xs)∧n≤xs.length∧xs.length < sizeLine∧Q .non (upd H l (.lst (xs.take n++y::xs.drop n)))
theorem Vals.takeV:∀{xs:List V} {us:List Value} (n:Nat),Vals xs us→Vals (xs.take n) (us.take n)
 |_,_,0,_=>.nil
 |_,_,_+1,.nil=>.nil
 |_,_,n+1,.cons a b=>.cons a (takeV n b)
theorem Vals.dropV:∀{xs:List V} {us:List Value} (n:Nat),Vals xs us→Vals (xs.drop n) (us.drop n)
 |_,_,0,h=>h
 |_,_,_+1,.nil=>.nil
 |_,_,n+1,.cons _ b=>dropV n b
theorem mt_insert:MtM X "list.insert" rInsert:=by
 intro pins s σ H x vs v us Q I rx rv h
 obtain⟨l,n,xs,y,rfl,rfl,hH,hn,hz,q⟩:=h
 cases rx
 obtain⟨u,u2,rfl,ru,ru2⟩:=rv.two
 obtain⟨tk,rfl⟩:=ru
 obtain⟨z,its,m,r,hl,e⟩:=I.lstM hH
 have hln:xs.length=its.length:=r.length
 have hsl:sizeLine < 2 ^ 63:=by decide
 have h3:(n:Int) < 2 ^ 63:=by
  have h4:sizeLine < 2 ^ 63:=hsl
  have h5:n < 2 ^ 63:=Nat.lt_of_le_of_lt hn (Nat.lt_trans hz h4)
  exact_mod_cast h5
 have h2:Builtin.List.listFitsIndex (n:Int)=true:=by
  unfold Builtin.List.listFitsIndex
  rw [Bool.and_eq_true]
  exact⟨decide_eq_true (Int.le_trans (by decide:-(2 ^ 63:Int)≤0) (Int.natCast_nonneg n)),decide_eq_true h3⟩
 have h6:¬(!Builtin.List.listFitsIndex (n:Int))=true:=by
  rw [h2]
  exact Bool.false_ne_true
 have h7:its.toArray.size≤sizeLine:=by
  rw [List.size_toArray]
  omega
 have hM:=@AutoSeq1.list_insert_list_int_val_1 l its.toArray m (n:Int) tk u2 h6 h7
 refine call_meets F.slot_list_insert ⟨_,e,rfl⟩ F.entry_list_insert (F.args_list_insert_3 _ _ _) @hM ⟨e,?_⟩
 refine⟨.non,_,I.lset (its':=its.take n++u2::its.drop n) hH e ?_ ((Vals.takeV n r).append (.cons ru2 (Vals.dropV n r))) ?_,rfl,q⟩
 ·have h0:¬((n:Int) < 0):=by omega
  have h1:min n its.length=n:=by omega
  simp [h0,h1,List.extract_eq_drop_take]
  exact List.take_of_length_le (by rw [List.length_drop];omega)
 ·rw [List.length_append,List.length_cons,List.length_take,List.length_drop]
  omega
end
theorem comp_kT{d:Addr}{o:Obj}{kvs:List (List Key × V)}{as:List Addr}{n:Nat}{κ:List Nat}{g:TG}{tc:TT}{te:TE}{σ:St}{H:Hp}{Q:VK}(hl:kvs.length=as.length)(hz:as.length≤1000)(hd:H d=some (.frz o (.dT kvs)))(R:Nat→List V→Hp→Prop)(h0:R 0 [] H)(hlen:∀i ys H2,R i ys H2→ys.length≤i)
  (hs:∀i a ys H2 (N:List V→Hp→Prop),(∀ys' H',Same H H'→R (i+1) ys' H'→N ys' H')→as[i]?=some a→Same H H2→R i ys H2→g (.ref a) (blkSt n κ σ) H2 fun σ4 H4=>σ4.drop n=(blkSt n κ σ).drop n∧tc σ4 H4 fun b H5=>if b=true then te σ4 H5 fun v H6=>N (ys++[v]) H6 else N ys H5)
  (hQ:∀ys H2 D,Same H H2→R as.length ys H2→H2 D=none→Q (.ref D) (upd H2 D (.lst ys))):CompRun n κ g tc te σ (ItkT d o kvs as) H Q:=by
 refine comp_by (J:=ItkT d o kvs as) (xs:=as.map V.ref) (fun i ys H3=>Same H H3∧R i ys H3) ⟨Same.refl _,h0⟩ (by rw [List.length_map];exact Nat.le_of_lt (small1000 hz)) ?_ ?_ ?_ ?_ ?_ ?_
 ·rintro i ys H3 ⟨_,h⟩
  exact hlen i ys H3 h
 ·rintro i u ys H3 hu ⟨s3,_⟩
  have:=(List.getElem?_eq_some_iff.mp hu).1
  rw [List.length_map] at this
  exact⟨s3 _ _ hd,by omega⟩
 ·rintro i ys u H3 H' hn ⟨s3,_⟩ hy
  obtain⟨rfl,a,ha,rfl⟩:=hy
  exact⟨rfl,by rw [List.getElem?_map,ha];rfl⟩
 ·rintro ys H3 ⟨s3,_⟩
  exact⟨s3 _ _ hd,by rw [List.length_map];omega⟩
 ·rintro i u ys H3 N hN hu ⟨s3,h⟩
  rw [List.getElem?_map] at hu
  obtain⟨a,ha,rfl⟩:=Option.map_eq_some_iff.mp hu
  exact hs i a ys H3 N (fun ys' H' a b=>hN ys' H' ⟨a,b⟩) ha s3 h
 ·rintro ys H3 D ⟨s3,h⟩ hD
  rw [List.length_map] at h
  exact hQ ys H3 D s3 h hD
end L2
namespace K41
open PySem L2 Kk
def top(i:Nat):Stmt:=PySem.Challenge.pw_sealhouse_k41_full_faces.main.body.getD i (.Pass ⟨0,0,0,0⟩)
abbrev sWords:Stmt:=top 8
abbrev sNames:Stmt:=top 9
abbrev sPut:Stmt:=top 10
abbrev sBounded:Stmt:=top 11
abbrev sNormal:Stmt:=top 12
abbrev sToldKind:Stmt:=top 13
abbrev sFullFace:Stmt:=top 18
abbrev sTakeItem:Stmt:=top 19
abbrev sTakeOpened:Stmt:=top 20
abbrev sAddOnce:Stmt:=top 21
abbrev sCell:Stmt:=top 23
abbrev sWordL:Stmt:=top 24
abbrev sMix:Stmt:=top 25
abbrev sPutL:Stmt:=top 26
abbrev sAlike:Stmt:=top 27
abbrev sSame:Stmt:=top 28
abbrev sSize:Stmt:=top 29
abbrev sKnown:Stmt:=top 30
abbrev sKindL:Stmt:=top 31
abbrev sGreat:Stmt:=top 32
abbrev sClash:Stmt:=top 33
abbrev sLate:Stmt:=top 34
abbrev sWrong:Stmt:=top 35
abbrev sOpenL:Stmt:=top 36
abbrev sAddL:Stmt:=top 37
abbrev sItems:Stmt:=top 38
abbrev sAsked:Stmt:=top 39
abbrev sLetBy:Stmt:=top 40
abbrev sLaw:Stmt:=top 41
theorem small{n:Nat}(h:n≤1000):n≤sizeLine:=Nat.le_of_lt (small1000 h)
theorem same_new{H:Hp}{p:Addr}(h:H p=none)(o:HO):Same H (upd H p o):=fun b u q=>by rw [upd_ne (ne_of_none q h)];exact q
def sumW(ks:List Kd):Nat:=(ks.map Kd.words).sum
theorem words_pos(k:Kd):0 < k.words:=by
 have:=words_leaves k
 have:=leaves_pos k
 omega
theorem sumW_app(a b:List Kd):sumW (a++b)=sumW a+sumW b:=by
 unfold sumW
 rw [List.map_append,List.sum_append]
theorem sumW_one(k:Kd):sumW [k]=k.words:=Nat.add_zero _
theorem len_sumW:∀ks:List Kd,ks.length≤sumW ks
 |[]=>Nat.le_refl _
 |k::ks=>by
  have h1:=len_sumW ks
  have h2:=words_pos k
  show ks.length+1≤k.words+sumW ks
  omega
theorem snoc{K:PySem.W.Frag}{H:Hp}:∀{us:List V} {v:V} {ks:List Kd},KdsAt K H (us++[v]) ks→∃ls k,ks=ls++[k]∧KdsAt K H us ls∧KdAt K H v k
 |[],v,_,.cons a .nil=>⟨[],_,rfl,.nil,a⟩
 |u::us,v,_,.cons a b=>by
  obtain⟨ls,k,rfl,h1,h2⟩:=snoc (us:=us) b
  exact⟨_::ls,k,rfl,.cons a h1,h2⟩
theorem snoc_get{us:List V}{v:V}:(us++[v])[(us++[v]).length - 1]?=some v:=by simp
theorem one{K:PySem.W.Frag}{H:Hp}{v:V}{k:Kd}(h:KdAt K H v k):KdsAt K H [v] [k]:=.cons h .nil
def spWords(K:PySem.W.Frag):Sp:=fun vs H Q _=>∃(x:V) (k:Kd),vs=[x]∧KdAt K H x k∧k.words≤900∧∀H',Same H H'→Q (.int k.words) H'
section
variable{P:Program}{w:World}{K:PySem.W.Frag}{mg:Str→Option Value}{base:Heap}
theorem scWords:FnScope ["kind","words","left","here"] ["kind"] (defScope sWords):=⟨rfl,rfl,rfl,by decide +kernel,rfl,by decide +kernel,by decide +kernel⟩
theorem ok_words{f:Addr}{fd:FuncData} (F:Fun K "words_in" "words_in" sWords f fd) (ml:mg "len"=none):FnOk P w K mg base CX0 1 f fd ["kind"] (spWords K):=by
 refine F.ok scWords (fun vs H Q E h=>?_) (fun cdv A outer s H vs Q E hr h=>?_)
 ·obtain⟨x,k,rfl,_⟩:=h
  rfl
 obtain⟨x,k,rfl,hk,h9,q⟩:=h
 refine⟨_,pss_cons (ps_set (i:=1) scWords.nd rfl (Or.inl rfl) pe_int)
  (pss_cons (ps_set (i:=2) scWords.nd rfl (Or.inl rfl) (pe_lst (pa_cons (pv 0) pa_nil)))
  (pss_cons (ps_while PassesOwn.never (pt_cmpR op_gt (pe_callB call_len_seq rfl ml PySem.boot_len (pa_cons (pv 2) pa_nil)) pe_int (nomark _))
   (pss_cons (ps_set (i:=3) scWords.nd rfl (Or.inl rfl) (pe_bm0 PySem.F.plainAttrs_list PySem.F.slot_list_pop PySem.F.type_list_pop mt_pop (pv 2)))
   (pss_cons (ps_aug (i:=1) scWords.nd rfl (Or.inl rfl) pe_int ip_add)
   (pss_one (ps_if (pt_cmpR op_eq (pe_ix ix_tup (pv 3) pe_int (fun _ _=>rfl)) pe_str (nomark _))
    (pss_cons (ps_expr (pe_bm PySem.F.plainAttrs_list PySem.F.slot_list_append PySem.F.type_list_append mt_append (pv 2) (pa_cons (pe_ix ix_tup (pv 3) pe_int (fun _ _=>rfl)) pa_nil)))
    (pss_one (ps_expr (pe_bm PySem.F.plainAttrs_list PySem.F.slot_list_append PySem.F.type_list_append mt_append (pv 2) (pa_cons (pe_ix ix_tup (pv 3) pe_int (fun _ _=>rfl)) pa_nil))))) pss_nil)))))
  (pss_one (ps_ret (pv 1))))),?_⟩
 refine⟨_,rfl,(by show 1≤sizeLine;decide),fun l hl=>?_⟩
 have sL:∀o,Same H (upd H l o):=same_new hl
 refine while_by (fun σ H2=>∃(vs:List V) (ks:List Kd) (n:Nat) (h:Option V),σ=[some x,some (.int n),some (.ref l),h]∧H2=upd H l (.lst vs)∧KdsAt K H vs ks∧n+sumW ks=k.words)
  (fun σ _=>match σ with|[_,some (.int n),_,_]=>k.words - n.toNat|_=>0) ⟨[x],[k],0,none,rfl,rfl,one hk,by rw [sumW_one];omega⟩ ?_ ?_
 ·rintro σ H2 ⟨vs,ks,n,h,rfl,rfl,hv,hn⟩
  refine⟨_,rfl,l,_,rfl,.inl (SqL.of upd_same),_,_,rfl,rfl,_,rfl,?_⟩
  refine ite2 (fun c=>?_) (fun c=>?_)
  ·have c':(0:Int) < (vs.length:Int):=of_decide_eq_true c
   have hne:vs≠[]:=fun e=>by rw [e] at c';exact absurd c' (by decide)
   obtain⟨us,v,rfl⟩:∃us v,vs=us++[v]:=⟨_,_,(List.dropLast_concat_getLast hne).symm⟩
   obtain⟨ls,j,rfl,hu,hj⟩:=snoc hv
   rw [sumW_app,sumW_one] at hn
   have hjp:=words_pos j
   refine⟨_,rfl,?_,l,_,v,rfl,rfl,upd_same,snoc_get,?_⟩
   ·exact .inl ⟨rfl,_,SqL.of upd_same⟩
   rw [upd_upd,List.dropLast_concat]
   have hl2:=len_sumW ls
   have hul:=hu.length
   refine⟨_,rfl,_,_,rfl,rfl,?_⟩
   have e1:((n:Int)+1)=((n+1:Nat):Int):=by omega
   cases hj with
   |@num p m t =>
    refine⟨_,rfl,_,_,_,_,rfl,rfl,(sL _).tup t,(show atI [V.str "num",.int m] 0=some (.str "num") from rfl),rfl,_,rfl,ite2 (fun c=>absurd c (by decide +kernel)) (fun _=>?_)⟩
    have hw:(Kd.num m).words=1:=rfl
    rw [hw] at hn
    refine⟨⟨us,ls,n+1,_,by rw [←e1]<;>rfl,rfl,hu,by omega⟩,?_⟩
    show k.words - ((n:Int)+1).toNat < k.words - (n:Int).toNat
    omega
   |@name p q t h =>
    refine⟨_,rfl,_,_,_,_,rfl,rfl,(sL _).tup h,(show atI [V.str "name",.str q,.str t] 0=some (.str "name") from rfl),rfl,_,rfl,ite2 (fun c=>absurd c (by decide +kernel)) (fun _=>?_)⟩
    have hw:(Kd.name q t).words=1:=rfl
    rw [hw] at hn
    refine⟨⟨us,ls,n+1,_,by rw [←e1]<;>rfl,rfl,hu,by omega⟩,?_⟩
    show k.words - ((n:Int)+1).toNat < k.words - (n:Int).toNat
    omega
   |@pair p y z a b t ha hb =>
    have hw:(Kd.pair a b).words=1+a.words+b.words:=rfl
    rw [hw] at hn hjp
    have h1:=words_pos a
    have h2:=words_pos b
    refine⟨_,rfl,_,_,_,_,rfl,rfl,(sL _).tup t,(show atI [V.str "pair",y,z] 0=some (.str "pair") from rfl),rfl,_,rfl,ite2 (fun _=>?_) (fun c=>absurd (by decide +kernel) c)⟩
    refine⟨_,rfl,.inl ⟨rfl,_,SqL.of upd_same⟩,_,rfl,_,_,_,_,rfl,rfl,(sL _).tup t,(show atI [V.str "pair",y,z] 1=some y from rfl),l,_,_,rfl,rfl,upd_same,Nat.lt_of_lt_of_le (Nat.lt_succ_self _) (small (by omega)),?_⟩
    rw [upd_upd]
    refine⟨_,rfl,.inl ⟨rfl,_,SqL.of upd_same⟩,_,rfl,_,_,_,_,rfl,rfl,(sL _).tup t,(show atI [V.str "pair",y,z] 2=some z from rfl),l,_,_,rfl,rfl,upd_same,Nat.lt_of_lt_of_le (Nat.lt_succ_self _) (small (by rw [List.length_append];show us.length+1+1≤1000;omega)),?_⟩
    rw [upd_upd]
    refine⟨⟨us++[y]++[z],ls++[a]++[b],n+1,_,by rw [←e1]<;>rfl,rfl,(hu.append (one ha)).append (one hb),by rw [sumW_app,sumW_app,sumW_one,sumW_one];omega⟩,?_⟩
    show k.words - ((n:Int)+1).toNat < k.words - (n:Int).toNat
    omega
  ·have c':¬(0:Int) < (vs.length:Int):=of_decide_eq_false (Bool.eq_false_iff.mpr c)
   have hv0:vs=[]:=List.length_eq_zero_iff.mp (by omega)
   subst hv0
   cases hv
   have e:n=k.words:=hn
   subst e
   exact⟨_,rfl,q _ (sL _)⟩
 ·rintro σ H2 Q1 Q2 hq ⟨v,e1,a,xs,e2,hs,i,j,e3,e4,b,e5,h⟩
  exact⟨v,e1,a,xs,e2,hs,i,j,e3,e4,b,e5,hq _ _ h⟩
end
theorem while_rel{c:TT}{tb:TS}{D:Ends}{σ:St}{H:Hp}(W:Nat→St→Hp→Prop)(m:Nat)(h0:W m σ H)
  (hs:∀m σ H,W m σ H→c σ H fun b H1=>if b=true then tb { D with nx:=fun σ' H'=>∃m',m' < m∧W m' σ' H',ct:=fun σ' H'=>∃m',m' < m∧W m' σ' H',bk:=D.nx } σ H1 else D.nx σ H1)
  (mono:∀σ H Q Q',(∀b H1,Q b H1→Q' b H1)→c σ H Q→c σ H Q'):tWhile c tb D σ H:=by
 refine⟨W,⟨m,h0⟩,fun m σ H p=>mono σ H _ _ (fun b H1 q=>?_) (hs m σ H p)⟩
 cases b with
 |true=>exact⟨_,fun σ' H' z=>z,q⟩
 |false=>exact q
def Kd.names:Kd→List (Str × Str)
 |.num _=>[]
 |.name q t=>[(q,t)]
 |.pair a b=>Kd.names a++Kd.names b
def addN(acc:List (Str × Str))(n:Str × Str):List (Str × Str):=if n∈acc then acc else acc++[n]
def firsts(acc l:List (Str × Str)):List (Str × Str):=l.foldl addN acc
def restN(ks:List Kd):List (Str × Str):=(ks.reverse.map Kd.names).flatten
theorem restN_snoc(ls:List Kd)(j:Kd):restN (ls++[j])=Kd.names j++restN ls:=by
 unfold restN
 rw [List.reverse_concat,List.map_cons,List.flatten_cons]
def keyN(n:Str × Str):List Key:=[.inr n.1,.inr n.2]
theorem keyN_inj{m n:Str × Str}(h:keyN m=keyN n):m=n:=by
 cases m;cases n
 simp [keyN] at h
 exact Prod.ext h.1 h.2
theorem put_keys{kvs:List (List Key × V)}{dn:List (Str × Str)}{n:Str × Str}{v:V}(h:kvs.map (·.1)=dn.map keyN):(putK kvs (keyN n) v).map (·.1)=(addN dn n).map keyN:=by
 have e:(kvs.any fun kv=>decide (kv.1=keyN n))=true↔n∈dn:=by
  rw [List.any_eq_true]
  constructor
  ·rintro⟨p,hp,q⟩
   have m:p.1∈kvs.map (·.1):=List.mem_map.mpr ⟨p,hp,rfl⟩
   rw [h] at m
   obtain⟨z,hz,ez⟩:=List.mem_map.mp m
   exact keyN_inj (ez.trans (of_decide_eq_true q))▸hz
  ·intro hn
   have m:keyN n∈dn.map keyN:=List.mem_map.mpr ⟨n,hn,rfl⟩
   rw [←h] at m
   obtain⟨p,hp,ep⟩:=List.mem_map.mp m
   exact⟨p,hp,decide_eq_true ep⟩
 unfold putK addN
 by_cases hn:n∈dn
 ·rw [if_pos (e.mpr hn),if_pos hn,←h,List.map_map]
  refine List.map_congr_left fun p _=>?_
  show(if p.1=keyN n then (p.1,v) else p).1=p.1
  split<;>rfl
 ·rw [if_neg (fun z=>hn (e.mp z)),if_neg hn,List.map_append,List.map_append,h]
  rfl
theorem addN_len(dn:List (Str × Str))(n:Str × Str):(addN dn n).length≤dn.length+1:=by
 unfold addN
 split
 ·omega
 ·rw [List.length_append]
  exact Nat.le_refl _
theorem paired_names{H:Hp}:∀{kvs:List (List Key × V)} {dn:List (Str × Str)} {as:List Addr},kvs.map (·.1)=dn.map keyN →
  Paired (fun(p:List Key × V) (k:Addr)=>H k=some (.tup (p.1.map kV))) kvs as→Paired (fun(n:Str × Str) (a:Addr)=>H a=some (.tup [.str n.1,.str n.2])) dn as
 |[],[],_,_,.nil=>.nil
 |p::kvs,n::dn,_,h,.cons a b=>by
  have h1:p.1=keyN n:=(List.cons.inj h).1
  rw [h1] at a
  exact .cons a (paired_names (List.cons.inj h).2 b)
theorem paired_same{H H':Hp}(e:Same H H'):∀{dn:List (Str × Str)} {as:List Addr},Paired (fun(n:Str × Str) (a:Addr)=>H a=some (.tup [.str n.1,.str n.2])) dn as→Paired (fun(n:Str × Str) (a:Addr)=>H' a=some (.tup [.str n.1,.str n.2])) dn as
 |_,_,.nil=>.nil
 |_,_,.cons a b=>.cons (e _ _ a) (paired_same e b)
theorem sput{H H2:Hp}{a:Addr}{o:HO}(e:Same H H2)(h:H a=none):Same H (upd H2 a o):=fun b u q=>by rw [upd_ne (ne_of_none q h)];exact e b u q
def spNames(K:PySem.W.Frag):Sp:=fun vs H Q _=>∃(x:V) (k:Kd),vs=[x]∧KdAt K H x k∧k.words≤900 ∧
 ∀H' l (as:List Addr),Same H H'→H l=none→H' l=some (.lst (as.map V.ref))→Paired (fun(n:Str × Str) (a:Addr)=>H' a=some (.tup [.str n.1,.str n.2])) (firsts [] (Kd.names k)) as→Q (.ref l) H'
theorem bootList:bootBuiltins "list"=some (.type "list"):=by decide +kernel
section
variable{P:Program}{w:World}{K:PySem.W.Frag}{mg:Str→Option Value}{base:Heap}
theorem scNames:FnScope ["kind","met","left","here"] ["kind"] (defScope sNames):=⟨rfl,rfl,rfl,by decide +kernel,rfl,by decide +kernel,by decide +kernel⟩
theorem ok_names{f:Addr}{fd:FuncData} (F:Fun K "names_in" "names_in" sNames f fd) (ml:mg "len"=none) (mi:mg "list"=none):FnOk P w K mg base CX0 1 f fd ["kind"] (spNames K):=by
 refine F.ok scNames (fun vs H Q E h=>?_) (fun cdv A outer s H vs Q E hr h=>?_)
 ·obtain⟨x,k,rfl,_⟩:=h
  rfl
 obtain⟨x,k,rfl,hk,h9,q⟩:=h
 have hu:=Nat.lt_of_le_of_lt (Nat.add_le_add_left (show 1≤64 by decide) _) hr.units
 refine⟨_,pss_cons (ps_set (i:=1) scNames.nd rfl (Or.inl rfl) pe_dnewT)
  (pss_cons (ps_set (i:=2) scNames.nd rfl (Or.inl rfl) (pe_lst (pa_cons (pv 0) pa_nil)))
  (pss_cons (ps_while PassesOwn.never (pt_cmpR op_gt (pe_callB call_len_seq rfl ml PySem.boot_len (pa_cons (pv 2) pa_nil)) pe_int (nomark _))
   (pss_cons (ps_set (i:=3) scNames.nd rfl (Or.inl rfl) (pe_bm0 PySem.F.plainAttrs_list PySem.F.slot_list_pop PySem.F.type_list_pop mt_pop (pv 2)))
   (pss_one (ps_if (pt_cmpR op_eq (pe_ix ix_tup (pv 3) pe_int (fun _ _=>rfl)) pe_str (nomark _))
    (pss_cons (ps_expr (pe_bm PySem.F.plainAttrs_list PySem.F.slot_list_append PySem.F.type_list_append mt_append (pv 2) (pa_cons (pe_ix ix_tup (pv 3) pe_int (fun _ _=>rfl)) pa_nil)))
    (pss_one (ps_expr (pe_bm PySem.F.plainAttrs_list PySem.F.slot_list_append PySem.F.type_list_append mt_append (pv 2) (pa_cons (pe_ix ix_tup (pv 3) pe_int (fun _ _=>rfl)) pa_nil)))))
    (pss_one (ps_if (pt_cmpR op_eq (pe_ix ix_tup (pv 3) pe_int (fun _ _=>rfl)) pe_str (nomark _))
     (pss_one (ps_dput hu (pv 1) (pe_tup (pa_cons (pe_ix ix_tup (pv 3) pe_int (fun _ _=>rfl)) (pa_cons (pe_ix ix_tup (pv 3) pe_int (fun _ _=>rfl)) pa_nil))) pe_bl rfl)) pss_nil))))))
  (pss_one (ps_ret (pe_callTy (call_list_dT rfl) rfl mi bootList (pa_cons (pv 1) pa_nil)))))),?_⟩
 refine fun d hd=>⟨_,rfl,(by show 1≤sizeLine;decide),fun l hl=>?_⟩
 have hdl:d≠l:=fun e=>by rw [e] at hl;rw [upd_same] at hl;cases hl
 have hl0:H l=none:=by rw [upd_ne (Ne.symm hdl)] at hl;exact hl
 refine while_rel (fun m σ H2=>∃(vs:List V) (ks:List Kd) (kvs:List (List Key × V)) (dn:List (Str × Str)) (h:Option V),σ=[some x,some (.ref d),some (.ref l),h]∧Same H H2∧H2 l=some (.lst vs)∧H2 d=some (.dT kvs) ∧
   KdsAt K H vs ks∧kvs.map (·.1)=dn.map keyN∧firsts dn (restN ks)=firsts [] (Kd.names k)∧dn.length+sumW ks≤k.words∧m=sumW ks) (sumW [k])
  ⟨[x],[k],[],[],none,rfl,sput (same_new hd _) hl0,upd_same,by rw [upd_ne hdl];exact upd_same,one hk,rfl,by show firsts [] (Kd.names k++[])=_;rw [List.append_nil],by rw [sumW_one];show 0+_≤_;omega,rfl⟩ ?_ ?_
 ·rintro m σ H2 ⟨vs,ks,kvs,dn,h,rfl,sH,hL,hD,hv,hkeys,hf,hn,rfl⟩
  refine⟨_,rfl,l,_,rfl,.inl (SqL.of hL),_,_,rfl,rfl,_,rfl,?_⟩
  refine ite2 (fun c=>?_) (fun c=>?_)
  ·have c':(0:Int) < (vs.length:Int):=of_decide_eq_true c
   have hne:vs≠[]:=fun e=>by rw [e] at c';exact absurd c' (by decide)
   obtain⟨us,v,rfl⟩:∃us v,vs=us++[v]:=⟨_,_,(List.dropLast_concat_getLast hne).symm⟩
   obtain⟨ls,j,rfl,hus,hj⟩:=snoc hv
   rw [restN_snoc] at hf
   rw [sumW_app,sumW_one] at hn ⊢
   have hjp:=words_pos j
   refine⟨_,rfl,.inl ⟨rfl,_,SqL.of hL⟩,l,_,v,rfl,rfl,hL,snoc_get,?_⟩
   rw [List.dropLast_concat]
   have hl2:=len_sumW ls
   have hul:=hus.length
   have sH1:Same H (upd H2 l (.lst us)):=sput sH hl0
   have hD1:upd H2 l (.lst us) d=some (.dT kvs):=by rw [upd_ne hdl];exact hD
   cases hj with
   |@num p m t =>
    refine⟨_,rfl,_,_,_,_,rfl,rfl,sH1.tup t,(show atI [V.str "num",.int m] 0=some (.str "num") from rfl),rfl,_,rfl,ite2 (fun c=>absurd c (by decide +kernel)) (fun _=>?_)⟩
    refine⟨_,rfl,_,_,_,_,rfl,rfl,sH1.tup t,(show atI [V.str "num",.int m] 0=some (.str "num") from rfl),rfl,_,rfl,ite2 (fun c=>absurd c (by decide +kernel)) (fun _=>?_)⟩
    exact⟨sumW ls,by omega,us,ls,kvs,dn,_,rfl,sH1,upd_same,hD1,hus,hkeys,hf,by omega,rfl⟩
   |@name p n t h =>
    refine⟨_,rfl,_,_,_,_,rfl,rfl,sH1.tup h,(show atI [V.str "name",.str n,.str t] 0=some (.str "name") from rfl),rfl,_,rfl,ite2 (fun c=>absurd c (by decide +kernel)) (fun _=>?_)⟩
    refine⟨_,rfl,_,_,_,_,rfl,rfl,sH1.tup h,(show atI [V.str "name",.str n,.str t] 0=some (.str "name") from rfl),rfl,_,rfl,ite2 (fun _=>?_) (fun c=>absurd (by decide +kernel) c)⟩
    refine⟨_,rfl,_,rfl,_,_,_,_,rfl,rfl,sH1.tup h,(show atI [V.str "name",.str n,.str t] 1=some (.str n) from rfl),_,rfl,_,_,_,_,rfl,rfl,sH1.tup h,(show atI [V.str "name",.str n,.str t] 2=some (.str t) from rfl),(by show 2≤sizeLine;decide),fun b hb=>?_⟩
    have hbd:d≠b:=ne_of_none hD1 hb
    have hbl:l≠b:=ne_of_none upd_same hb
    have hb0:H b=none:=by
     cases e:H b with
     |none=>rfl
     |some o=>rw [sH1 b o e] at hb;cases hb
    have hlen:kvs.length=dn.length:=by have:=congrArg List.length hkeys;rw [List.length_map,List.length_map] at this;exact this
    have hw:(Kd.name n t).words=1:=rfl
    rw [hw] at hn
    refine⟨d,_,rfl,DPut.t (k:=keyN (n,t)) (by rw [upd_ne hbd];exact hD1) (by rw [upd_same]<;>rfl) (Nat.lt_of_lt_of_le (Nat.lt_succ_self _) (small (by omega))),?_⟩
    have al:=addN_len dn (n,t)
    refine⟨sumW ls,by omega,us,ls,_,addN dn (n,t),_,rfl,sput (sput sH1 hb0) hd,?_,upd_same,hus,put_keys hkeys,hf,by omega,rfl⟩
    rw [upd_ne (Ne.symm hdl),upd_ne hbl,upd_same]
   |@pair p y z a b t ha hb =>
    have hw:(Kd.pair a b).words=1+a.words+b.words:=rfl
    rw [hw] at hn hjp ⊢
    have h1:=words_pos a
    have h2:=words_pos b
    refine⟨_,rfl,_,_,_,_,rfl,rfl,sH1.tup t,(show atI [V.str "pair",y,z] 0=some (.str "pair") from rfl),rfl,_,rfl,ite2 (fun _=>?_) (fun c=>absurd (by decide +kernel) c)⟩
    refine⟨_,rfl,.inl ⟨rfl,_,SqL.of upd_same⟩,_,rfl,_,_,_,_,rfl,rfl,sH1.tup t,(show atI [V.str "pair",y,z] 2=some z from rfl),l,_,_,rfl,rfl,upd_same,Nat.lt_of_lt_of_le (Nat.lt_succ_self _) (small (by omega)),?_⟩
    rw [upd_upd]
    refine⟨_,rfl,.inl ⟨rfl,_,SqL.of upd_same⟩,_,rfl,_,_,_,_,rfl,rfl,(sput sH hl0).tup t,(show atI [V.str "pair",y,z] 1=some y from rfl),l,_,_,rfl,rfl,upd_same,Nat.lt_of_lt_of_le (Nat.lt_succ_self _) (small (by rw [List.length_append];show us.length+1+1≤1000;omega)),?_⟩
    rw [upd_upd]
    have es:sumW (ls++[b]++[a])=sumW ls+b.words+a.words:=by rw [sumW_app,sumW_app,sumW_one,sumW_one]
    refine⟨sumW (ls++[b]++[a]),by rw [es];omega,us++[z]++[y],ls++[b]++[a],kvs,dn,_,rfl,sput sH hl0,upd_same,by rw [upd_ne hdl];exact hD,(hus.append (one hb)).append (one ha),hkeys,?_,by rw [es];omega,rfl⟩
    rw [restN_snoc,restN_snoc,←List.append_assoc]
    exact hf
  ·have c':¬(0:Int) < (vs.length:Int):=of_decide_eq_false (Bool.eq_false_iff.mpr c)
   have hv0:vs=[]:=List.length_eq_zero_iff.mp (by omega)
   subst hv0
   cases hv
   refine⟨_,rfl,d,kvs,rfl,hD,fun as o ho pr=>?_⟩
   have ef:dn=firsts [] (Kd.names k):=hf
   subst ef
   have so:Same H2 (upd H2 o (.lst (as.map V.ref))):=same_new ho _
   have ho0:H o=none:=by
    cases e:H o with
    |none=>rfl
    |some u=>rw [sH o u e] at ho;cases ho
   refine q _ o as (fun b u e=>so b u (sH b u e)) ho0 upd_same (paired_same so (paired_names hkeys pr))
 ·rintro σ H2 Q1 Q2 hq ⟨v,e1,a,xs,e2,hs,i,j,e3,e4,b,e5,h⟩
  exact⟨v,e1,a,xs,e2,hs,i,j,e3,e4,b,e5,hq _ _ h⟩
end
end K41
namespace K41
open PySem L2 Kk
theorem at_int{ns:List Int}{i:Int}(h0:0≤i)(h1:i < ns.length):∃v:Int,atI (ns.map V.int) i=some (.int v):=by
 have hk:i.toNat < List.length ns:=by omega
 have e:i=((i.toNat:Nat):Int):=by omega
 have q:atI (ns.map V.int) ((i.toNat:Nat):Int)=some (.int ns[i.toNat]):=atI_nat (by simp [hk])
 rw [←e] at q
 exact⟨_,q⟩
theorem at_ex{α:Type}{xs:List α}{i:Int}(h0:0≤i)(h1:i < xs.length):∃v,atI xs i=some v:=by
 have hk:i.toNat < xs.length:=by omega
 have e:i=((i.toNat:Nat):Int):=by omega
 have q:atI xs ((i.toNat:Nat):Int)=some xs[i.toNat]:=atI_nat (by simp)
 rw [←e] at q
 exact⟨_,q⟩
theorem sok_iff(z:Str):PyData.strOk z=true↔∀c∈z.cps.toList,c < 0x110000:=by
 unfold PyData.strOk
 rw [Array.all_eq_true_iff_forall_mem]
 simp
theorem sok_app{a b:Str}(ha:PyData.strOk a=true)(hb:PyData.strOk b=true):PyData.strOk (a++b)=true:=by
 rw [sok_iff] at *
 intro c hc
 have hc':c∈(a.cps++b.cps).toList:=hc
 rw [Array.toList_append] at hc'
 rcases List.mem_append.mp hc' with h|h
 ·exact ha c h
 ·exact hb c h
theorem sok_at{z:Str}{i:Int}{g:Nat}(h:PyData.strOk z=true)(hm:atI z.cps.toList i=some g):PyData.strOk ⟨#[g]⟩=true:=by
 rw [sok_iff] at *
 intro c hc
 have:c=g:=by simpa using hc
 subst this
 unfold atI at hm
 obtain⟨j,_,e⟩:=Option.bind_eq_some_iff.mp hm
 exact h c (List.mem_of_getElem? e)
def Kd.sok:Kd→Bool
 |.num _=>true
 |.name q t=>PyData.strOk q&&PyData.strOk t
 |.pair a b=>Kd.sok a&&Kd.sok b
theorem len_app(a b:Str):(a++b).length=a.length+b.length:=by
 show Array.size (a.cps++b.cps)=_
 rw [Array.size_append]<;>rfl
section
variable{P:Program}{w:World}{K:PySem.W.Frag}{mg:Str→Option Value}{base:Heap}
theorem same_trans{H H1 H2:Hp}(a:Same H H1)(b:Same H1 H2):Same H H2:=fun x o e=>b x o (a x o e)
end
end K41
namespace K41
open PySem L2 Kk
theorem sqt_upd{K:PySem.W.Frag}{H:Hp}{l a:Addr}{ys xs:List V}{o:HO}(h:H l=some (.lst ys))(t:SqT K H a xs):SqT K (upd H l o) a xs:=by
 rcases t with (t|⟨o',t⟩)|t
 ·exact .inl (.inl (by rw [upd_ne (fun e=>by rw [e,h] at t;cases t)];exact t))
 ·exact .inl (.inr ⟨o',by rw [upd_ne (fun e=>by rw [e,h] at t;cases t)];exact t⟩)
 ·exact .inr t
theorem kd_keep{K:PySem.W.Frag}{H H':Hp}(e:∀a xs,SqT K H a xs→SqT K H' a xs):∀{x:V} {k:Kd},KdAt K H x k→KdAt K H' x k
 |_,_,.num h=>.num (e _ _ h)
 |_,_,.name h=>.name (e _ _ h)
 |_,_,.pair h a b=>.pair (e _ _ h) (kd_keep e a) (kd_keep e b)
theorem kds_keep{K:PySem.W.Frag}{H H':Hp}(e:∀a xs,SqT K H a xs→SqT K H' a xs):∀{xs:List V} {ks:List Kd},KdsAt K H xs ks→KdsAt K H' xs ks
 |_,_,.nil=>.nil
 |_,_,.cons a b=>.cons (kd_keep e a) (kds_keep e b)
theorem sql_same{K:PySem.W.Frag}{H H':Hp}{a:Addr}{xs:List V}(e:Same H H')(h:SqL K H a xs):SqL K H' a xs:=by
 rcases h with (h|⟨o,h⟩)|h
 ·exact .inl (.inl (e _ _ h))
 ·exact .inl (.inr ⟨o,e _ _ h⟩)
 ·exact .inr h
end K41
namespace K41
open PySem L2 Kk
def flat(ks:List Kd):List Kd:=(ks.map Kd.leaves).flatten
end K41
namespace K41
open PySem L2 Kk
theorem call_isi{X:Cx}:CallR X (.builtin "isinstance") (fun xs H Q=>∃x T t b,xs=[x,.ty T]∧TyOf X.K H x t∧PySem.W.kitOne X.K t (.type T)=some b∧Q (.bl b) H):=by
 intro pins s σ H xs us Q I rv h
 obtain⟨x,T,t,b,rfl,ty,e,q⟩:=h
 obtain⟨u,v,rfl,r1,r2⟩:=rv.two
 cases r2
 exact isinst_ok I r1 ty e fun tk=>⟨.bl b,H,I.tok _,rfl,q⟩
theorem kit_ii(K:PySem.W.Frag):PySem.W.kitOne K (.type "int") (.type "int")=some true:=rfl
theorem kit_ib(K:PySem.W.Frag):PySem.W.kitOne K (.type "int") (.type "bool")=some false:=rfl
theorem bootInt:bootBuiltins "int"=some (.type "int"):=by decide +kernel
theorem bootTuple:bootBuiltins "tuple"=some (.type "tuple"):=by decide +kernel
end K41
namespace K41
open PySem L2 Kk
def Kd.put(G:Str × Str→Option Kd):Kd→Kd
 |.num n=>.num n
 |.name q t=>(G (q,t)).getD (.name q t)
 |.pair a b=>.pair (Kd.put G a) (Kd.put G b)
def Kd.depth:Kd→Nat
 |.num _=>1
 |.name _ _=>1
 |.pair a b=>1+max (Kd.depth a) (Kd.depth b)
theorem depth_pos(k:Kd):1≤Kd.depth k:=by
 cases k with
 |num _=>exact Nat.le_refl _
 |name _ _=>exact Nat.le_refl _
 |pair a b=>exact Nat.le_add_right _ _
theorem depth_leaves:∀k:Kd,Kd.depth k≤k.leaves.length
 |.num _=>Nat.le_refl _
 |.name _ _=>Nat.le_refl _
 |.pair a b=>by
  have h1:=depth_leaves a
  have h2:=depth_leaves b
  have h3:=leaves_pos a
  have h4:=leaves_pos b
  show 1+max (Kd.depth a) (Kd.depth b)≤(a.leaves++b.leaves).length
  rw [List.length_append]
  omega
def GvAt(K:PySem.W.Frag)(H:Hp)(kvs:List (List Key × V))(G:Str × Str→Option Kd):Prop :=
 ∀n,(valV kvs (keyN n)=none∧G n=none)∨∃v k,valV kvs (keyN n)=some v∧G n=some k∧KdAt K H v k
theorem GvAt.same{K:PySem.W.Frag}{H H':Hp}{kvs:List (List Key × V)}{G:Str × Str→Option Kd}(e:Same H H')(h:GvAt K H kvs G):GvAt K H' kvs G:=fun n=>by
 rcases h n with h|⟨v,k,h1,h2,h3⟩
 ·exact .inl h
 ·exact .inr ⟨v,k,h1,h2,h3.same e⟩
def spPut(K:PySem.W.Frag)(n:Nat):Sp:=fun vs H Q _=>∃(x:V) (g:Addr) (k:Kd) (kvs:List (List Key × V)) (G:Str × Str→Option Kd),vs=[x,.ref g]∧KdAt K H x k∧Kd.depth k≤n∧H g=some (.dT kvs)∧GvAt K H kvs G ∧
 ∀H' v,Same H H'→KdAt K H' v (Kd.put G k)→Q v H'
section
variable{P:Program}{w:World}{K:PySem.W.Frag}{mg:Str→Option Value}{base:Heap}
theorem scPut:FnScope ["kind","given"] ["kind","given"] (defScope sPut):=⟨rfl,rfl,rfl,by decide +kernel,rfl,by decide +kernel,by decide +kernel⟩
theorem ok_put{f:Addr}{fd:FuncData} (F:Fun K "put" "put" sPut f fd) (bP:Binds K fd ["kind","given"] []) (kP:PySem.W.keepIn K (.ref f)=true) (mP:mg "put"=some (.ref f)) :
  ∀n,FnOk P w K mg base CX0 n f fd ["kind","given"] (spPut K n)
 |0=>⟨fun vs H Q E h=>by obtain⟨x,g,k,kvs,G,rfl,_⟩:=h;rfl,fun A outer s H args us vs Q E _ _ _ _ h=>by
   obtain⟨x,g,k,kvs,G,_,_,hd,_⟩:=h
   have:=depth_pos k
   omega⟩
 |n+1=>by
  have IH:=ok_put F bP kP mP n
  refine F.ok scPut (fun vs H Q E h=>?_) (fun cdv A outer s H vs Q E hr h=>?_)
  ·obtain⟨x,g,k,kvs,G,rfl,_⟩:=h
   rfl
  obtain⟨x,g,k,kvs,G,rfl,hk,hd,hg,hG,q⟩:=h
  have hu:=hu_of hr
  refine⟨_,pss_cons (ps_if (pt_cmpR op_eq (pe_ix ix_tup (pv 0) pe_int (fun _ _=>rfl)) pe_str (nomark _))
    (pss_one (ps_ret (pe_tup (pa_cons pe_str (pa_cons (pe_call IH hr rfl mP kP bP .nil pass0 (pa_cons (pe_ix ix_tup (pv 0) pe_int (fun _ _=>rfl)) (pa_cons (pv 1) pa_nil)))
     (pa_cons (pe_call IH hr rfl mP kP bP .nil pass0 (pa_cons (pe_ix ix_tup (pv 0) pe_int (fun _ _=>rfl)) (pa_cons (pv 1) pa_nil))) pa_nil)))))) pss_nil)
   (pss_cons (ps_if (pt_cmpR op_eq (pe_ix ix_tup (pv 0) pe_int (fun _ _=>rfl)) pe_str (nomark _))
    (pss_one (ps_ret (pe_dget2 hu (pv 1) (pe_tup (pa_cons (pe_ix ix_tup (pv 0) pe_int (fun _ _=>rfl)) (pa_cons (pe_ix ix_tup (pv 0) pe_int (fun _ _=>rfl)) pa_nil))) (pv 0) ⟨rfl,rfl,rfl,rfl⟩))) pss_nil)
   (pss_one (ps_ret (pv 0)))),?_⟩
  cases hk with
  |@num p m t =>
   refine⟨_,rfl,_,_,_,_,rfl,rfl,t,(show atI [V.str "num",.int m] 0=some (.str "num") from rfl),rfl,_,rfl,ite2 (fun c=>absurd c (by decide +kernel)) (fun _=>?_)⟩
   refine⟨_,rfl,_,_,_,_,rfl,rfl,t,(show atI [V.str "num",.int m] 0=some (.str "num") from rfl),rfl,_,rfl,ite2 (fun c=>absurd c (by decide +kernel)) (fun _=>?_)⟩
   exact⟨_,rfl,q _ _ (Same.refl _) (.num t)⟩
  |@name p a b t =>
   refine⟨_,rfl,_,_,_,_,rfl,rfl,t,(show atI [V.str "name",.str a,.str b] 0=some (.str "name") from rfl),rfl,_,rfl,ite2 (fun c=>absurd c (by decide +kernel)) (fun _=>?_)⟩
   refine⟨_,rfl,_,_,_,_,rfl,rfl,t,(show atI [V.str "name",.str a,.str b] 0=some (.str "name") from rfl),rfl,_,rfl,ite2 (fun _=>?_) (fun c=>absurd (by decide +kernel) c)⟩
   refine⟨_,rfl,g,rfl,.inr ⟨kvs,.inl hg⟩,_,rfl,_,_,_,_,rfl,rfl,t,(show atI [V.str "name",.str a,.str b] 1=some (.str a) from rfl),_,rfl,_,_,_,_,rfl,rfl,t,(show atI [V.str "name",.str a,.str b] 2=some (.str b) from rfl),(by show 2≤sizeLine;decide),fun y hy=>?_⟩
   have sy:=same_new hy (.tup [.str a,.str b])
   refine⟨_,rfl,_,DGet.t (k:=keyN (a,b)) (sy _ _ hg) upd_same,q _ _ sy ?_⟩
   show KdAt K _ ((valV kvs (keyN (a,b))).getD _) ((G (a,b)).getD (.name a b))
   rcases hG (a,b) with ⟨h1,h2⟩|⟨v,k',h1,h2,h3⟩
   ·rw [h1,h2]
    exact .name (sy.tup t)
   ·rw [h1,h2]
    exact h3.same sy
  |@pair p y z a b t ha hb =>
   have hd':1+max (Kd.depth a) (Kd.depth b)≤n+1:=hd
   refine⟨_,rfl,_,_,_,_,rfl,rfl,t,(show atI [V.str "pair",y,z] 0=some (.str "pair") from rfl),rfl,_,rfl,ite2 (fun _=>?_) (fun c=>absurd (by decide +kernel) c)⟩
   refine⟨_,rfl,_,_,_,_,rfl,rfl,t,(show atI [V.str "pair",y,z] 1=some y from rfl),_,rfl,y,g,a,kvs,G,rfl,ha,by omega,hg,hG,fun H1 v1 s1 k1=>?_⟩
   refine⟨_,rfl,_,_,_,_,rfl,rfl,s1.tup t,(show atI [V.str "pair",y,z] 2=some z from rfl),_,rfl,z,g,b,kvs,G,rfl,hb.same s1,by omega,s1 _ _ hg,hG.same s1,fun H2 v2 s2 k2=>?_⟩
   refine⟨(by show 3≤sizeLine;decide),fun c hc=>q _ _ (same_trans (same_trans s1 s2) (same_new hc _)) ?_⟩
   exact .pair (SqT.of upd_same) ((k1.same s2).same (same_new hc _)) (k2.same (same_new hc _))
theorem log_small{i:Int}(h0:0≤i)(h1:i≤1000000):i.natAbs.log2 < 1920:=by
 by_cases hz:i.natAbs=0
 ·rw [hz];decide
 ·refine(Nat.log2_lt hz).mpr (Nat.lt_of_le_of_lt (m:=1000000) (by omega) ?_)
  exact Nat.lt_of_lt_of_le (show 1000000 < 2 ^ 20 by decide) (Nat.pow_le_pow_right (by decide) (by decide))
theorem txt_small{i:Int}(h0:0≤i)(h1:i≤1000000):(Str.ofString (toString i)).length≤100000:=by
 have:=PyProof.Rows.toString_length_le h0 (k:=7) (by decide) (Int.lt_of_le_of_lt h1 (by decide))
 omega
end
end K41
namespace K41
open PySem L2 Kk Builtin.Str
end K41
namespace K41
open PySem L2 Kk
def chF(i:Int):Nat:=(atI (Str.ofString "abcdefghijklmnopqrstuvwxyz").cps.toList i).getD 97
theorem chF_ok(i:Int):PyData.strOk ⟨#[chF i]⟩=true:=by
 unfold chF
 cases h:atI (Str.ofString "abcdefghijklmnopqrstuvwxyz").cps.toList i with
 |none=>decide +kernel
 |some g=>exact sok_at (by decide +kernel) h
theorem inV_str{z:Str}{ws:List Str}:inV (V.str z) (ws.map V.str)=true↔z∈ws:=by
 unfold inV
 rw [List.any_eq_true]
 constructor
 ·rintro⟨y,hy,e⟩
  obtain⟨u,hu,rfl⟩:=List.mem_map.mp hy
  have e':(u==z)=true:=e
  rw [←eq_of_beq e']
  exact hu
 ·intro h
  exact⟨V.str z,List.mem_map.mpr ⟨z,h,rfl⟩,(show(z==z)=true from beq_self_eq_true z)⟩
section
variable{P:Program}{w:World}{K:PySem.W.Frag}{mg:Str→Option Value}{base:Heap}
end
end K41
namespace K41
open PySem L2 Kk
def okW(z:Str):Prop:=PyData.strOk z=true∧z.length≤9000
abbrev sInit:Stmt:=inClass (top 15) 0
theorem kf':¬(("kinds":Str)="funs"):=by decide +kernel
def Kd.ok:Kd→Prop
 |.num _=>True
 |.name q t=>okW q∧okW t
 |.pair a b=>Kd.ok a∧Kd.ok b
theorem names_ok:∀{k:Kd},Kd.ok k→∀n∈Kd.names k,okW n.1∧okW n.2
 |.num _,_,n,hn=>nomatch hn
 |.name q t,h,n,hn=>by
  obtain rfl:=List.mem_singleton.mp hn
  exact h
 |.pair a b,h,n,hn=>by
  rcases List.mem_append.mp hn with z|z
  ·exact names_ok h.1 n z
  ·exact names_ok h.2 n z
section
variable{P:Program}{w:World}{K:PySem.W.Frag}{mg:Str→Option Value}{base:Heap}
theorem bootDict:bootBuiltins "dict"=some (.type "dict"):=by decide +kernel
theorem scInit:FnScope ["self","kinds","funs"] ["self","kinds","funs"] (defScope sInit):=⟨rfl,rfl,rfl,by decide +kernel,rfl,by decide +kernel,by decide +kernel⟩
end
end K41
namespace K41
open PySem L2 Kk
def smW(z:Str):Prop:=PyData.strOk z=true∧z.length≤14
section
variable{P:Program}{w:World}{K:PySem.W.Frag}{mg:Str→Option Value}{base:Heap}
theorem flat_strs(ws:List Str):(ws.map V.str).all flatV=true:=by
 induction ws with
 |nil=>rfl
 |cons z ws ih =>
  rw [List.map_cons,List.all_cons,ih]
  rfl
end
end K41
namespace K41
open PySem L2 Kk
section
variable{P:Program}{w:World}{K:PySem.W.Frag}{mg:Str→Option Value}{base:Heap}
end
end K41
namespace K41
open PySem L2 Kk
section
variable{P:Program}{w:World}{K:PySem.W.Frag}{mg:Str→Option Value}{base:Heap}
end
end K41
namespace K41
open PySem L2 Kk
def spInitF(CF:Addr):Sp:=fun vs H Q _=>∃(p dx a b:Addr) (kvs fvs:List (Key × V)),vs=[.ref p,.ref a,.ref b]∧H p=some (.ins CF dx [])∧H a=some (.dK kvs)∧H b=some (.dK fvs) ∧
 ∀(d e:Addr) (fs:List (Str × V)) (H':Hp),H d=none→H e=none→d≠e→H' p=some (.ins CF dx fs)→fs.lookup ("kinds":Str)=some (.ref d)→fs.lookup ("funs":Str)=some (.ref e)→fs.lookup ("hidden":Str)=none→fs.lookup ("put":Str)=none→H' d=some (.dK kvs)→H' e=some (.dK fvs)→(∀c o,H c=some o→c≠p→H' c=some o)→Q .non H'
section
variable{P:Program}{w:World}{K:PySem.W.Frag}{mg:Str→Option Value}{base:Heap}
theorem ok_initF{f CF:Addr}{fd:FuncData} (F:Fun K "__init__" "Face.__init__" sInit f fd) (cF:Cls K CF) (nK:NoAttr K CF "kinds") (nF:NoAttr K CF "funs") (md:mg "dict"=none):FnOk P w K mg base CX0 1 f fd ["self","kinds","funs"] (spInitF CF):=by
 refine F.ok scInit (fun vs H Q E h=>?_) (fun cdv A outer s H vs Q E hr h=>?_)
 ·obtain⟨p,dx,a,b,kvs,fvs,rfl,_⟩:=h
  rfl
 obtain⟨p,dx,a,b,kvs,fvs,rfl,hp,ha,hb,q⟩:=h
 refine⟨_,pss_cons (ps_fld (pv 0) (pe_callTy call_dict_dK rfl md bootDict (pa_cons (pv 1) pa_nil)) rfl) (pss_one (ps_fld (pv 0) (pe_callTy call_dict_dK rfl md bootDict (pa_cons (pv 2) pa_nil)) rfl)),?_⟩
 refine⟨_,rfl,a,kvs,rfl,ha,fun d hd=>?_⟩
 have npd:p≠d:=ne_of_none hp hd
 refine⟨_,rfl,p,CF,dx,[],rfl,(by rw [upd_ne npd];exact hp),cF,nK,(by show 0 < 1000;decide),?_⟩
 have hb1:upd (upd H d (.dK kvs)) p (.ins CF dx (putF "kinds" (.ref d) [])) b=some (.dK fvs):=by
  rw [upd_ne (ne_of hb hp (by intro z;cases z)),upd_ne (ne_of_none hb hd)]
  exact hb
 refine⟨_,rfl,b,fvs,rfl,hb1,fun e he=>?_⟩
 have npe:p≠e:=fun z=>by rw [←z,upd_same] at he;cases he
 have nde:d≠e:=fun z=>by rw [←z,upd_ne npd.symm,upd_same] at he;cases he
 have he0:H e=none:=by
  rw [upd_ne npe.symm,upd_ne nde.symm] at he
  exact he
 refine⟨_,rfl,p,CF,dx,_,rfl,(by rw [upd_ne npe];exact upd_same),cF,nF,(by show 1 < 1000;decide),?_⟩
 refine q d e _ _ hd he0 nde upd_same (by rw [lookup_putF,if_neg kf',lookup_putF,if_pos rfl]) (by rw [lookup_putF,if_pos rfl]) (by rw [lookup_putF,if_neg (by decide +kernel),lookup_putF,if_neg (by decide +kernel)];rfl) (by rw [lookup_putF,if_neg (by decide +kernel),lookup_putF,if_neg (by decide +kernel)];rfl) ?_ ?_ fun c o ec hc=>?_
 ·rw [upd_ne npd.symm,upd_ne nde,upd_ne npd.symm,upd_same]
 ·rw [upd_ne npe.symm,upd_same]
 ·have hce:c≠e:=fun z=>by
   rw [z] at ec hc
   rw [he0] at ec
   cases ec
  rw [upd_ne hc,upd_ne hce,upd_ne hc,upd_ne (ne_of_none ec hd)]
  exact ec
end
end K41
namespace K41
open PySem L2 Kk
def PkAt{α:Type}(R:V→α→Prop)(kvs:List (Key × V))(m:List (Str × α)):Prop:=Paired (fun(p:Key × V) (q:Str × α)=>p.1=.inr q.1∧R p.2 q.2) kvs m
theorem PkAt.snoc{α:Type}{R:V→α→Prop}{kvs:List (Key × V)}{m:List (Str × α)}{z:Str}{v:V}{x:α}(h:PkAt R kvs m)(hv:R v x):PkAt R (kvs++[(.inr z,v)]) (m++[(z,x)]):=by
 unfold PkAt at h ⊢
 induction h with
 |nil=>exact .cons ⟨rfl,hv⟩ .nil
 |cons a _ ih=>exact .cons a ih
theorem PkAt.imp{α:Type}{R S:V→α→Prop}{kvs:List (Key × V)}{m:List (Str × α)}(f:∀v x,R v x→S v x)(h:PkAt R kvs m):PkAt S kvs m:=Paired.mapP h fun _ _ ⟨e,r⟩=>⟨e,f _ _ r⟩
theorem PkAt.keys{α:Type}{R:V→α→Prop}{kvs:List (Key × V)}{m:List (Str × α)}(h:PkAt R kvs m):kvs.map (·.1)=m.map fun q=>(Sum.inr q.1:Key):=by
 unfold PkAt at h
 induction h with
 |nil=>rfl
 |cons a _ ih=>rw [List.map_cons,List.map_cons,ih,a.1]
theorem valV_out{kvs:List (Key × V)}{k:Key}(h:k∉kvs.map (·.1)):valV kvs k=none:=by
 cases e:valV kvs k with
 |none=>rfl
 |some v =>
  exfalso
  apply h
  unfold valV at e
  obtain⟨p,hp,_⟩:=Option.map_eq_some_iff.mp e
  have h1:=List.mem_of_find?_eq_some hp
  have h2:=List.find?_some hp
  have h3:p.1=k:=by simpa using h2
  rw [←h3]
  exact List.mem_map_of_mem h1
theorem PkAt.put{α:Type}{R:V→α→Prop}{kvs:List (Key × V)}{m:List (Str × α)}{z:Str}{v:V}{x:α}(h:PkAt R kvs m)(hz:z∉m.map (·.1))(hv:R v x):PkAt R (putK kvs (.inr z) v) (m++[(z,x)]):=by
 rw [putK_new v (valV_out ?_)]
 ·exact h.snoc hv
 ·rw [h.keys]
  intro hm
  obtain⟨q,hq,e⟩:=List.mem_map.mp hm
  exact hz (by rw [←Sum.inr.inj e];exact List.mem_map_of_mem hq)
def FunAt(K:PySem.W.Frag)(H:Hp)(v:V)(f:List Kd × Kd):Prop:=∃(p ta:Addr) (x:V) (xs:List V),v=.ref p∧SqT K H p [.ref ta,x]∧SqT K H ta xs∧KdsAt K H xs f.1∧KdAt K H x f.2
theorem FunAt.keep{K:PySem.W.Frag}{H H':Hp}{v:V}{f:List Kd × Kd}(e:∀a xs,SqT K H a xs→SqT K H' a xs)(h:FunAt K H v f):FunAt K H' v f:=by
 obtain⟨p,ta,x,xs,h1,h2,h3,h4,h5⟩:=h
 exact⟨p,ta,x,xs,h1,e _ _ h2,e _ _ h3,kds_keep e h4,kd_keep e h5⟩
end K41
namespace K41
open PySem L2 Kk
theorem sqt_dk{H:Hp}{l a:Addr}{kvs:List (Key × V)}{xs:List V}{o:HO}(h:H l=some (.dK kvs))(t:SqT K H a xs):SqT K (upd H l o) a xs:=by
 rcases t with (t|⟨o',t⟩)|t
 ·exact .inl (.inl (by rw [upd_ne (fun e=>by rw [e,h] at t;cases t)];exact t))
 ·exact .inl (.inr ⟨o',by rw [upd_ne (fun e=>by rw [e,h] at t;cases t)];exact t⟩)
 ·exact .inr t
def FaceF(K:PySem.W.Frag)(H:Hp)(CF fa:Addr)(m1:List (Str × Kd))(m2:List (Str × (List Kd × Kd))):Prop :=
 ∃(dx d1 d2:Addr) (fs:List (Str × V)) (kv1 kv2:List (Key × V)),H fa=some (.ins CF dx fs)∧fs.lookup ("kinds":Str)=some (.ref d1)∧fs.lookup ("funs":Str)=some (.ref d2)∧H d1=some (.dK kv1)∧H d2=some (.dK kv2)∧PkAt (KdAt K H) kv1 m1∧PkAt (FunAt K H) kv2 m2∧fs.lookup ("hidden":Str)=none∧fs.lookup ("put":Str)=none
end K41
namespace K41
open PySem L2 Kk
def Kd.dat:Kd→PyData
 |.num n=>.tuple [.str "num",.int n]
 |.name q t=>.tuple [.str "name",.str q,.str t]
 |.pair a b=>.tuple [.str "pair",Kd.dat a,Kd.dat b]
theorem kd_dat{K:PySem.W.Frag}{H:Hp}:∀{x:V} {k:Kd},KdAt K H x k→Dat K H x (Kd.dat k)
 |_,_,.num t=>.tup t (.cons (.str _) (.cons (.int _) .nil))
 |_,_,.name t=>.tup t (.cons (.str _) (.cons (.str _) (.cons (.str _) .nil)))
 |_,_,.pair t a b=>.tup t (.cons (.str _) (.cons (kd_dat a) (.cons (kd_dat b) .nil)))
theorem eqv_tup(xs ys:List PyData):PyData.eqv (.tuple xs) (.tuple ys)=PyData.eqvAll xs ys:=by simp [PyData.eqv]
theorem eqvA_cons(x y:PyData)(xs ys:List PyData):PyData.eqvAll (x::xs) (y::ys)=(PyData.eqv x y&&PyData.eqvAll xs ys):=by simp [PyData.eqvAll]
theorem eqvA_nil:PyData.eqvAll [] []=true:=by simp [PyData.eqvAll]
theorem eqv_str(x y:Str):PyData.eqv (.str x) (.str y)=decide (x=y):=by
 rw [show PyData.eqv (.str x) (.str y)=(x==y) by simp [PyData.eqv]]
 rfl
theorem eqv_int(x y:Int):PyData.eqv (.int x) (.int y)=decide (x=y):=by
 rw [show PyData.eqv (.int x) (.int y)=(x==y) by simp [PyData.eqv]]
 rfl
theorem eqv_dat(a:Kd):∀b:Kd,PyData.eqv (Kd.dat a) (Kd.dat b)=decide (a=b):=by
 induction a with
 |num n =>
  intro b
  cases b with
  |num m =>
   show PyData.eqv (.tuple [.str "num",.int n]) (.tuple [.str "num",.int m])=_
   rw [eqv_tup,eqvA_cons,eqvA_cons,eqvA_nil,eqv_str,eqv_int]
   simp
  |name q t =>
   show PyData.eqv (.tuple (.str "num"::_)) (.tuple (.str "name"::_))=_
   rw [eqv_tup,eqvA_cons,eqv_str,decide_eq_false (by decide +kernel),decide_eq_false (by intro e;cases e)]
   rfl
  |pair c d =>
   show PyData.eqv (.tuple (.str "num"::_)) (.tuple (.str "pair"::_))=_
   rw [eqv_tup,eqvA_cons,eqv_str,decide_eq_false (by decide +kernel),decide_eq_false (by intro e;cases e)]
   rfl
 |name q t =>
  intro b
  cases b with
  |num m =>
   show PyData.eqv (.tuple (.str "name"::_)) (.tuple (.str "num"::_))=_
   rw [eqv_tup,eqvA_cons,eqv_str,decide_eq_false (by decide +kernel),decide_eq_false (by intro e;cases e)]
   rfl
  |name q' t' =>
   show PyData.eqv (.tuple [.str "name",.str q,.str t]) (.tuple [.str "name",.str q',.str t'])=_
   rw [eqv_tup,eqvA_cons,eqvA_cons,eqvA_cons,eqvA_nil,eqv_str,eqv_str,eqv_str]
   simp
  |pair c d =>
   show PyData.eqv (.tuple (.str "name"::_)) (.tuple (.str "pair"::_))=_
   rw [eqv_tup,eqvA_cons,eqv_str,decide_eq_false (by decide +kernel),decide_eq_false (by intro e;cases e)]
   rfl
 |pair a1 a2 h1 h2 =>
  intro b
  cases b with
  |num m =>
   show PyData.eqv (.tuple (.str "pair"::_)) (.tuple (.str "num"::_))=_
   rw [eqv_tup,eqvA_cons,eqv_str,decide_eq_false (by decide +kernel),decide_eq_false (by intro e;cases e)]
   rfl
  |name q' t' =>
   show PyData.eqv (.tuple (.str "pair"::_)) (.tuple (.str "name"::_))=_
   rw [eqv_tup,eqvA_cons,eqv_str,decide_eq_false (by decide +kernel),decide_eq_false (by intro e;cases e)]
   rfl
  |pair c d =>
   show PyData.eqv (.tuple [.str "pair",Kd.dat a1,Kd.dat a2]) (.tuple [.str "pair",Kd.dat c,Kd.dat d])=_
   rw [eqv_tup,eqvA_cons,eqvA_cons,eqvA_cons,eqvA_nil,eqv_str,h1,h2]
   simp
theorem lay_kd:∀{k:Kd},Kd.ok k→PyData.canLay0 (Kd.dat k)=true
 |.num n,_=>by
  have h:PyData.strOk "num"=true:=by decide +kernel
  simp [Kd.dat,PyData.canLay0,PyData.canLayAll0,h]
 |.name q t,⟨h1,h2⟩=>by
  have h:PyData.strOk "name"=true:=by decide +kernel
  simp [Kd.dat,PyData.canLay0,PyData.canLayAll0,h,h1.1,h2.1]
 |.pair a b,⟨h1,h2⟩=>by
  have h:PyData.strOk "pair"=true:=by decide +kernel
  simp [Kd.dat,PyData.canLay0,PyData.canLayAll0,h,lay_kd h1,lay_kd h2]
theorem deep_kd:∀k:Kd,PyData.depth (Kd.dat k)≤Kd.depth k
 |.num n=>by simp [Kd.dat,PyData.depth,PyData.depthAll,Kd.depth]
 |.name q t=>by simp [Kd.dat,PyData.depth,PyData.depthAll,Kd.depth]
 |.pair a b=>by
  have h1:=deep_kd a
  have h2:=deep_kd b
  simp only [Kd.dat,PyData.depth,PyData.depthAll,Kd.depth]
  omega
theorem kd_shaped{k:Kd}(h:Kd.ok k)(hd:Kd.depth k≤60):SeqAt.shaped (Kd.dat k)=true:=by
 have h1:=lay_kd h
 have h2:=deep_kd k
 unfold SeqAt.shaped
 rw [h1,decide_eq_true (show PyData.depth (Kd.dat k)≤64 by omega)]
 rfl
theorem ok_empty:okW "":=⟨by decide +kernel,by decide +kernel⟩
section
variable{P:Program}{w:World}{K:PySem.W.Frag}{mg:Str→Option Value}{base:Heap}
end
end K41
namespace K41
open PySem L2 Kk
def Kd.sm:Kd→Prop
 |.num n=>0≤n∧n≤10 ^ 18
 |.name q t=>(PyData.strOk q=true∧q.length≤14)∧PyData.strOk t=true∧t.length≤14
 |.pair a b=>Kd.sm a∧Kd.sm b
def Fn.dat(f:List Kd × Kd):PyData:=.tuple [.tuple (f.1.map Kd.dat),Kd.dat f.2]
theorem kds_dat{K:PySem.W.Frag}{H:Hp}:∀{xs:List V} {ks:List Kd},KdsAt K H xs ks→Dats K H xs (ks.map Kd.dat)
 |_,_,.nil=>.nil
 |_,_,.cons h r=>.cons (kd_dat h) (kds_dat r)
theorem fn_dat{K:PySem.W.Frag}{H:Hp}{v:V}{f:List Kd × Kd}(h:FunAt K H v f):Dat K H v (Fn.dat f):=by
 obtain⟨p,ta,x,xs,rfl,h1,h2,h3,h4⟩:=h
 exact .tup h1 (.cons (.tup h2 (kds_dat h3)) (.cons (kd_dat h4) .nil))
end K41
namespace K41
open PySem L2 Kk
section
variable{P:Program}{w:World}{K:PySem.W.Frag}{mg:Str→Option Value}{base:Heap}
end
def look{α:Type}(m:List (Str × α))(z:Str):Option α:=(m.find? fun q=>decide (q.1=z)).map (·.2)
theorem look_val{α:Type}{R:V→α→Prop}:∀{kvs:List (Key × V)} {m:List (Str × α)},PkAt R kvs m→∀z:Str,(valV kvs (.inr z)=none∧look m z=none)∨∃v x,valV kvs (.inr z)=some v∧look m z=some x∧R v x
 |_,_,.nil,z=>.inl ⟨rfl,rfl⟩
 |p::ps,q::qs,.cons ⟨h1,h2⟩ r,z=>by
  unfold look valV
  rw [List.find?_cons,List.find?_cons]
  by_cases e:q.1=z
  ·rw [decide_eq_true (show p.1=Sum.inr z by rw [h1,e]),decide_eq_true e]
   exact .inr ⟨_,_,rfl,rfl,h2⟩
  ·rw [decide_eq_false (show ¬p.1=Sum.inr z by rw [h1];exact fun z'=>e (Sum.inr.inj z')),decide_eq_false e]
   exact look_val r z
structure FaceA(K:PySem.W.Frag)(H:Hp)(CF fa:Addr)(dx d1 d2:Addr)(fs:List (Str × V))(kv1 kv2:List (Key × V))(m1:List (Str × Kd))(m2:List (Str × (List Kd × Kd))):Prop where
 obj:H fa=some (.ins CF dx fs)
 fk:fs.lookup ("kinds":Str)=some (.ref d1)
 ff:fs.lookup ("funs":Str)=some (.ref d2)
 h1:H d1=some (.dK kv1)
 h2:H d2=some (.dK kv2)
 p1:PkAt (KdAt K H) kv1 m1
 p2:PkAt (FunAt K H) kv2 m2
 nh:fs.lookup ("hidden":Str)=none
 np:fs.lookup ("put":Str)=none
structure Walk(K:PySem.W.Frag)(H H3:Hp)(d:Addr)(o:Obj)(kv:List (Key × V)):Prop where
 old:∀b u,H b=some u→b≠d→H3 b=some u
 fz:H3 d=some (.frz o (.dK kv))
 tup:∀a xs,SqT K H a xs→SqT K H3 a xs
end K41
namespace K41
open PySem L2 Kk
section
variable{P:Program}{w:World}{K:PySem.W.Frag}{mg:Str→Option Value}{base:Heap}
end
end K41
namespace K41
open PySem L2 Kk
section
variable{P:Program}{w:World}{K:PySem.W.Frag}{mg:Str→Option Value}{base:Heap}
end
end K41
namespace K41
open PySem L2 Kk
section
variable{P:Program}{w:World}{K:PySem.W.Frag}{mg:Str→Option Value}{base:Heap}
end
end K41
namespace K41
open PySem L2 Kk
theorem sqt_dt{K:PySem.W.Frag}{H:Hp}{l a:Addr}{kvs:List (List Key × V)}{xs:List V}{o:HO}(h:H l=some (.dT kvs))(t:SqT K H a xs):SqT K (upd H l o) a xs:=by
 rcases t with (t|⟨o',t⟩)|t
 ·exact .inl (.inl (by rw [upd_ne (fun e=>by rw [e,h] at t;cases t)];exact t))
 ·exact .inl (.inr ⟨o',by rw [upd_ne (fun e=>by rw [e,h] at t;cases t)];exact t⟩)
 ·exact .inr t
section
variable{P:Program}{w:World}{K:PySem.W.Frag}{mg:Str→Option Value}{base:Heap}
end
end K41
namespace K41
open PySem L2 Kk
section
variable{P:Program}{w:World}{K:PySem.W.Frag}{mg:Str→Option Value}{base:Heap}
end
end K41
namespace K41
open PySem L2 Kk
section
variable{P:Program}{w:World}{K:PySem.W.Frag}{mg:Str→Option Value}{base:Heap}
def tryHs:List Stmt→List ExceptHandler
 |.Try _ hs _ _ _::_=>hs
 |_=>[]
end
end K41
namespace K41
open PySem L2 Kk
section
variable{P:Program}{w:World}{K:PySem.W.Frag}{mg:Str→Option Value}{base:Heap}
def spBounded(K:PySem.W.Frag)(CT:Addr):Sp:=fun vs H Q E=>∃(x:V) (k:Kd) (m:Int),vs=[x,.int m]∧KdAt K H x k∧k.words≤900∧0≤m∧m≤1000000 ∧
 ∀H',Same H H'→if (k.words:Int) > m then E (.ref CT) none H' else Q x H'
theorem scBounded:FnScope ["kind","most","words"] ["kind","most"] (defScope sBounded):=⟨rfl,rfl,rfl,by decide +kernel,rfl,by decide +kernel,by decide +kernel⟩
theorem ok_bounded{f fw CT:Addr}{fd fdw:FuncData} (F:Fun K "bounded" "bounded" sBounded f fd) (GW:FnOk P w K mg base CX0 1 fw fdw ["kind"] (spWords K)) (bW:Binds K fdw ["kind"] []) (kW:PySem.W.keepIn K (.ref fw)=true) (mW:mg "words_in"=some (.ref fw))
  (mT:mg "TooBig"=some (.ref CT)) (xT:PySem.W.excIn K CT bmVE "ValueError.__new__"=true):FnOk P w K mg base (CX1 P w) 2 f fd ["kind","most"] (spBounded K CT):=by
 refine F.okX scBounded (fun vs H Q E h=>?_) (fun cdv A outer s H vs Q E hr h=>?_)
 ·obtain⟨x,k,m,rfl,_⟩:=h
  rfl
 obtain⟨x,k,m,rfl,hk,h9,m0,m1,q⟩:=h
 refine⟨_,pss_cons (ps_set (i:=2) scBounded.nd rfl (Or.inl rfl) (pe_call GW hr rfl mW kW bW .nil pass0 (pa_cons (pv 0) pa_nil)))
  (pss_cons (ps_if (pt_cmpR op_gt (pv 2) (pv 1) (nomark _))
   (pss_one (ps_raise1 rfl mT xT (pa_cons (pe_fstr (pj_cons pe_str (pj_cons (pe_fv (pv 2)) (pj_cons pe_str (pj_cons (pe_fv (pv 1)) (pj_cons pe_str pj_nil))))) (by decide)) pa_nil))) pss_nil)
  (pss_one (ps_ret (pv 0)))),?_⟩
 refine⟨_,rfl,x,k,rfl,hk,h9,fun H1 s1=>?_⟩
 have q1:=q H1 s1
 refine⟨_,rfl,_,rfl,_,_,rfl,rfl,_,rfl,?_⟩
 refine ite2 (fun c=>?_) (fun c=>?_)
 ·have c':(k.words:Int) > m:=of_decide_eq_true c
  rw [if_pos c'] at q1
  have l9:(0:Int)≤(k.words:Int)∧(k.words:Int)≤1000000:=⟨by omega,by omega⟩
  refine⟨_,rfl,by decide +kernel,_,rfl,.inr ⟨_,rfl,log_small l9.1 l9.2,_,rfl,Nat.le_trans (txt_small l9.1 l9.2) (by decide),_,rfl,by decide +kernel,_,rfl,.inr ⟨_,rfl,log_small m0 m1,_,rfl,Nat.le_trans (txt_small m0 m1) (by decide),_,rfl,by decide +kernel,fun z hz=>⟨(by show 1≤sizeLine;decide),q1⟩⟩⟩⟩
 ·have c':¬(k.words:Int) > m:=fun z=>c (decide_eq_true z)
  rw [if_neg c'] at q1
  exact⟨_,rfl,q1⟩
end
end K41
namespace K41
open PySem L2 Kk
def KvAt(K:PySem.W.Frag)(H:Hp)(kvs:List (Key × V))(g:Str→Option Kd):Prop :=
 ∀t,(valV kvs (.inr t)=none∧g t=none)∨∃v k,valV kvs (.inr t)=some v∧g t=some k∧KdAt K H v k
theorem KvAt.same{K:PySem.W.Frag}{H H':Hp}{kvs:List (Key × V)}{g:Str→Option Kd}(e:Same H H')(h:KvAt K H kvs g):KvAt K H' kvs g:=fun n=>by
 rcases h n with h|⟨v,k,h1,h2,h3⟩
 ·exact .inl h
 ·exact .inr ⟨v,k,h1,h2,h3.same e⟩
def FaceTold(K:PySem.W.Frag)(H:Hp)(CF:Addr)(v:V)(g:Str→Option Kd):Prop :=
 ∃a dx fs d kvs,v=.ref a∧H a=some (.ins CF dx fs)∧fs.lookup ("kinds":Str)=some (.ref d)∧H d=some (.dK kvs)∧KvAt K H kvs g
theorem FaceTold.same{K:PySem.W.Frag}{H H':Hp}{CF:Addr}{v:V}{g:Str→Option Kd}(e:Same H H')(h:FaceTold K H CF v g):FaceTold K H' CF v g:=by
 obtain⟨a,dx,fs,d,kvs,h1,h2,h3,h4,h5⟩:=h
 exact⟨a,dx,fs,d,kvs,h1,e _ _ h2,h3,e _ _ h4,h5.same e⟩
def PartsAt(K:PySem.W.Frag)(H:Hp)(CF:Addr)(kvs:List (Key × V))(PG:Str→Option (Str→Option Kd)):Prop :=
 ∀q,(valV kvs (.inr q)=none∧PG q=none)∨∃v g,valV kvs (.inr q)=some v∧PG q=some g∧FaceTold K H CF v g
theorem PartsAt.same{K:PySem.W.Frag}{H H':Hp}{CF:Addr}{kvs:List (Key × V)}{PG:Str→Option (Str→Option Kd)}(e:Same H H')(h:PartsAt K H CF kvs PG):PartsAt K H' CF kvs PG:=fun n=>by
 rcases h n with h|⟨v,g,h1,h2,h3⟩
 ·exact .inl h
 ·exact .inr ⟨v,g,h1,h2,h3.same e⟩
def tell(OG:Str→Option Kd)(PG:Str→Option (Str→Option Kd))(n:Str × Str):Option Kd:=if n.1="" then OG n.2 else (PG n.1).bind fun g=>g n.2
def Told(o:Option Kd)(K:PySem.W.Frag)(H:Hp)(Q:VK)(X:Prop):Prop:=(o=none∧X)∨∃k,o=some k∧∀v,KdAt K H v k→Q v H
def spToldKind(K:PySem.W.Frag)(CF CN:Addr):Sp:=fun vs H Q E=>∃(q t:Str) (o p:Addr) (okv pkv:List (Key × V)) (OG:Str→Option Kd) (PG:Str→Option (Str→Option Kd)),
 vs=[.str q,.str t,.ref o,.ref p]∧okW q∧okW t∧H o=some (.dK okv)∧KvAt K H okv OG∧H p=some (.dK pkv)∧PartsAt K H CF pkv PG∧Told (tell OG PG (q,t)) K H Q (E (.ref CN) none H)
section
variable{P:Program}{w:World}{K:PySem.W.Frag}{mg:Str→Option Value}{base:Heap}
theorem scToldKind:FnScope ["part","word","own","parts","kinds"] ["part","word","own","parts"] (defScope sToldKind):=⟨rfl,rfl,rfl,by decide +kernel,rfl,by decide +kernel,by decide +kernel⟩
theorem ok_toldKind{f CF CN:Addr}{fd:FuncData} (F:Fun K "told_kind" "told_kind" sToldKind f fd) (cF:Cls K CF) (nF:NoAttr K CF "kinds") (mN:mg "NoKind"=some (.ref CN)) (xN:PySem.W.excIn K CN bmVE "ValueError.__new__"=true) :
  FnOk P w K mg base (CX1 P w) 1 f fd ["part","word","own","parts"] (spToldKind K CF CN):=by
 refine F.okX scToldKind (fun vs H Q E h=>?_) (fun cdv A outer s H vs Q E hr h=>?_)
 ·obtain⟨q,t,o,p,okv,pkv,OG,PG,rfl,_⟩:=h
  rfl
 obtain⟨q,t,o,p,okv,pkv,OG,PG,rfl,hq,ht,ho,hO,hp,hP,hT⟩:=h
 have hu:=hu_of hr
 have lq:q.length≤100000:=Nat.le_trans hq.2 (by decide)
 have lt:t.length≤100000:=Nat.le_trans ht.2 (by decide)
 have zq:q.length≤sizeLine:=Nat.le_trans lq (by decide)
 have zt:t.length≤sizeLine:=Nat.le_trans lt (by decide)
 obtain⟨u1,d1,k1⟩:∃t',PSs (cxOf (CX1 P w) P w K mg base ["part","word","own","parts","kinds"] "told_kind" (defScope sToldKind) f cdv A outer s H E) (List.drop 1 (defBody sToldKind)) t' ∧
   ∀(d:Addr) (kvs:List (Key × V)) (g:Str→Option Kd),H d=some (.dK kvs)→KvAt K H kvs g→Told (g t) K H Q (E (.ref CN) none H) →
    t' { nx:=fun _ H'=>Q .non H',rt:=Q } [some (.str q),some (.str t),some (.ref o),some (.ref p),some (.ref d)] H:=by
  refine⟨_,pss_cons (ps_if (pt_cmp (pc_dnotin hu (pv 1) (pv 4)) (by with_unfolding_all rfl))
    (pss_one (ps_raise1 rfl mN xN (pa_cons (pe_fstr (pj_cons pe_str (pj_cons (pe_fr (pv 1)) (pj_cons pe_str (pj_cons (pe_fr (pv 0)) pj_nil)))) (by decide)) pa_nil))) pss_nil)
   (pss_one (ps_ret (pe_dget hu (pv 4) (pv 1) (fun _ _=>rfl)))),?_⟩
  intro d kvs g hd hg hT
  refine⟨_,rfl,_,rfl,d,_,rfl,DGet.k (k:=.inr t) hd,_,rfl,?_⟩
  rcases hg t with ⟨h1,h2⟩|⟨v,k,h1,h2,h3⟩
  ·rw [h1]
   rcases hT with ⟨_,hE⟩|⟨k,hk,_⟩
   ·refine iteT ⟨_,rfl,by decide +kernel,_,rfl,t,rfl,ht.1,ht.2,fun z hz=>⟨z,rfl,Nat.le_trans hz (by decide),_,rfl,by decide +kernel,_,rfl,q,rfl,hq.1,hq.2,fun z2 hz2=>⟨z2,rfl,Nat.le_trans hz2 (by decide),fun z3 hz3=>⟨(by show 1≤sizeLine;decide),hE⟩⟩⟩⟩
   ·rw [h2] at hk
    cases hk
  ·rw [h1]
   rcases hT with ⟨hn,_⟩|⟨k',hk,hQ⟩
   ·rw [h2] at hn
    cases hn
   ·rw [h2] at hk
    cases hk
    exact iteF ⟨_,rfl,_,rfl,d,v,rfl,h1▸DGet.k (k:=.inr t) hd,hQ v h3⟩
 refine⟨_,pss_cons (ps_if (pt_cmpR op_eq (pv 0) pe_str (nomark _)) (pss_one (ps_set (i:=4) scToldKind.nd rfl (Or.inl rfl) (pv 2)))
   (pss_one (ps_if (pt_cmp (pc_din hu (pv 0) (pv 3)) (by with_unfolding_all rfl)) (pss_one (ps_set (i:=4) scToldKind.nd rfl (Or.inl rfl) (pe_fld (pe_dget hu (pv 3) (pv 0) (fun _ _=>rfl)) rfl)))
    (pss_one (ps_raise1 rfl mN xN (pa_cons (pe_fstr (pj_cons pe_str (pj_cons (pe_fv (pv 0)) (pj_cons pe_str (pj_cons (pe_fv (pv 0)) (pj_cons pe_str (pj_cons (pe_fv (pv 1)) pj_nil)))))) (by decide)) pa_nil)))))) d1,?_⟩
 refine⟨_,rfl,rfl,_,rfl,?_⟩
 refine ite2 (fun c=>?_) (fun c=>?_)
 ·have c':V.str q=V.str "":=of_decide_eq_true c
  have e:q="":=by injection c'
  have hT':Told (OG t) K H Q (E (.ref CN) none H):=by
   unfold tell at hT
   rw [if_pos e] at hT
   exact hT
  exact⟨_,rfl,k1 o okv OG ho hO hT'⟩
 ·have c':¬q="":=fun e=>c (decide_eq_true (by rw [e]))
  have hT':Told ((PG q).bind fun g=>g t) K H Q (E (.ref CN) none H):=by
   unfold tell at hT
   rw [if_neg c'] at hT
   exact hT
  refine⟨_,rfl,_,rfl,p,_,rfl,DGet.k (k:=.inr q) hp,_,rfl,?_⟩
  rcases hP q with ⟨h1,h2⟩|⟨v,g,h1,h2,h3⟩
  ·rw [h1]
   rw [h2] at hT'
   rcases hT' with ⟨_,hE⟩|⟨k,hk,_⟩
   ·refine iteF ⟨_,rfl,by decide +kernel,_,rfl,.inl ⟨q,rfl,zq,q,rfl,Nat.le_trans lq (by decide),_,rfl,by decide +kernel,_,rfl,.inl ⟨q,rfl,zq,q,rfl,Nat.le_trans lq (by decide),_,rfl,by decide +kernel,_,rfl,.inl ⟨t,rfl,zt,t,rfl,Nat.le_trans lt (by decide),fun z3 hz3=>⟨(by show 1≤sizeLine;decide),hE⟩⟩⟩⟩⟩
   ·cases hk
  ·rw [h1]
   rw [h2] at hT'
   obtain⟨a,dx,fs,d,kvs,rfl,h4,h5,h6,h7⟩:=h3
   exact iteT ⟨_,rfl,_,rfl,p,.ref a,rfl,h1▸DGet.k (k:=.inr q) hp,a,CF,dx,fs,_,rfl,h4,cF,nF,h5,k1 d kvs g h6 h7 hT'⟩
end
end K41
namespace K41
open PySem L2 Kk
theorem put_congr{G T:Str × Str→Option Kd}:∀{k:Kd},(∀n∈Kd.names k,G n=T n)→Kd.put G k=Kd.put T k
 |.num _,_=>rfl
 |.name q t,h=>by
  show(G (q,t)).getD _=(T (q,t)).getD _
  rw [h (q,t) (List.mem_singleton.mpr rfl)]
 |.pair a b,h=>by
  show Kd.pair (Kd.put G a) (Kd.put G b)=Kd.pair (Kd.put T a) (Kd.put T b)
  rw [put_congr (k:=a) fun n hn=>h n (List.mem_append_left _ hn),put_congr (k:=b) fun n hn=>h n (List.mem_append_right _ hn)]
theorem addN_mem{acc:List (Str × Str)}{m n:Str × Str}(h:n∈acc∨n=m):n∈addN acc m:=by
 unfold addN
 split
 ·rename_i hm
  rcases h with h|rfl
  ·exact h
  ·exact hm
 ·rcases h with h|rfl
  ·exact List.mem_append_left _ h
  ·exact List.mem_append_right _ (List.mem_singleton.mpr rfl)
theorem firsts_mem:∀{l acc:List (Str × Str)} {n:Str × Str},n∈acc∨n∈l→n∈firsts acc l
 |[],acc,n,h=>h.elim id fun z=>nomatch z
 |m::l,acc,n,h=>by
  refine firsts_mem (l:=l) (acc:=addN acc m) ?_
  rcases h with h|h
  ·exact .inl (addN_mem (.inl h))
  ·rcases List.mem_cons.mp h with h|h
   ·exact .inl (addN_mem (.inr h))
   ·exact .inr h
theorem mem_addN{acc:List (Str × Str)}{m n:Str × Str}(h:n∈addN acc m):n∈acc∨n=m:=by
 unfold addN at h
 split at h
 ·exact .inl h
 ·rcases List.mem_append.mp h with q|q
  ·exact .inl q
  ·exact .inr (List.mem_singleton.mp q)
theorem mem_firsts:∀{l acc:List (Str × Str)} {n:Str × Str},n∈firsts acc l→n∈acc∨n∈l
 |[],acc,n,h=>.inl h
 |m::l,acc,n,h=>by
  rcases mem_firsts (l:=l) (acc:=addN acc m) h with q|q
  ·rcases mem_addN q with q|q
   ·exact .inl q
   ·exact .inr (q▸List.mem_cons_self)
  ·exact .inr (List.mem_cons_of_mem _ q)
theorem firsts_len:∀(l acc:List (Str × Str)),(firsts acc l).length≤acc.length+l.length
 |[],acc=>Nat.le_refl _
 |m::l,acc=>by
  have h1:=firsts_len l (addN acc m)
  have h2:=addN_len acc m
  show(firsts (addN acc m) l).length≤acc.length+(l.length+1)
  omega
theorem names_len:∀k:Kd,(Kd.names k).length≤k.words
 |.num _=>Nat.zero_le _
 |.name _ _=>Nat.le_refl _
 |.pair a b=>by
  have h1:=names_len a
  have h2:=names_len b
  show(Kd.names a++Kd.names b).length≤1+a.words+b.words
  rw [List.length_append]
  omega
theorem paired_get{H:Hp}:∀{dn:List (Str × Str)} {as:List Addr} {i:Nat} {b:Addr},Paired (fun(n:Str × Str) (a:Addr)=>H a=some (.tup [.str n.1,.str n.2])) dn as→as[i]?=some b→∃n:Str × Str,dn[i]?=some n∧H b=some (.tup [.str n.1,.str n.2])
 |_,_,_,_,.nil,e=>by simp at e
 |_,_,0,_,.cons a _,e=>by
  obtain rfl:=Option.some.inj e
  exact⟨_,rfl,a⟩
 |_,_,i+1,_,.cons _ r,e=>paired_get (i:=i) r e
theorem gv_put{K:PySem.W.Frag}{H:Hp}{kvs:List (List Key × V)}{G:Str × Str→Option Kd}{n:Str × Str}{v:V}{k:Kd}(h:GvAt K H kvs G)(hv:KdAt K H v k):GvAt K H (putK kvs (keyN n) v) (fun m=>if m=n then some k else G m):=fun m=>by
 by_cases e:m=n
 ·subst e
  exact .inr ⟨v,k,by rw [valV_put,if_pos rfl],if_pos rfl,hv⟩
 ·have e2:keyN m≠keyN n:=fun z=>e (keyN_inj z)
  rcases h m with ⟨h1,h2⟩|⟨v',k',h1,h2,h3⟩
  ·exact .inl ⟨by rw [valV_put,if_neg e2];exact h1,(if_neg e).trans h2⟩
  ·exact .inr ⟨v',k',by rw [valV_put,if_neg e2];exact h1,(if_neg e).trans h2,h3⟩
def spNormal(K:PySem.W.Frag)(CF CN CT:Addr):Sp:=fun vs H Q E=>∃(x:V) (k:Kd) (o p:Addr) (m:Int) (okv pkv:List (Key × V)) (OG:Str→Option Kd) (PG:Str→Option (Str→Option Kd)),
 vs=[x,.ref o,.ref p,.int m]∧KdAt K H x k∧k.words≤900∧Kd.depth k≤40∧(∀n∈Kd.names k,okW n.1∧okW n.2)∧0≤m∧m≤1000000∧H o=some (.dK okv)∧KvAt K H okv OG∧H p=some (.dK pkv)∧PartsAt K H CF pkv PG ∧
 (∀H',Same H H'→(∃n∈Kd.names k,tell OG PG n=none)→E (.ref CN) none H') ∧
 ((∀n∈Kd.names k,tell OG PG n≠none)→(Kd.put (tell OG PG) k).words≤900∧∀H',Same H H'→if ((Kd.put (tell OG PG) k).words:Int) > m then E (.ref CT) none H' else ∀v,KdAt K H' v (Kd.put (tell OG PG) k)→Q v H')
section
variable{P:Program}{w:World}{K:PySem.W.Frag}{mg:Str→Option Value}{base:Heap}
theorem scNormal:FnScope ["kind","own","parts","most","given","part","word"] ["kind","own","parts","most"] (defScope sNormal):=⟨rfl,rfl,rfl,by decide +kernel,rfl,by decide +kernel,by decide +kernel⟩
set_option maxHeartbeats 0 in
theorem ok_normal{f fn fp fb ft CF CN CT:Addr}{dV:Value}{fd fdn fdp fdb fdt:FuncData} (F:FunD K "normal" "normal" sNormal dV f fd)
  (GN:FnOk P w K mg base CX0 1 fn fdn ["kind"] (spNames K)) (bN:Binds K fdn ["kind"] []) (kN:PySem.W.keepIn K (.ref fn)=true) (mN:mg "names_in"=some (.ref fn))
  (GP:FnOk P w K mg base CX0 40 fp fdp ["kind","given"] (spPut K 40)) (bP:Binds K fdp ["kind","given"] []) (kP:PySem.W.keepIn K (.ref fp)=true) (mP:mg "put"=some (.ref fp))
  (GB:FnOk P w K mg base (CX1 P w) 2 fb fdb ["kind","most"] (spBounded K CT)) (bB:Binds K fdb ["kind","most"] []) (kB:PySem.W.keepIn K (.ref fb)=true) (mB:mg "bounded"=some (.ref fb))
  (GT:FnOk P w K mg base (CX1 P w) 1 ft fdt ["part","word","own","parts"] (spToldKind K CF CN)) (bT:Binds K fdt ["part","word","own","parts"] []) (kT:PySem.W.keepIn K (.ref ft)=true) (mT:mg "told_kind"=some (.ref ft)) :
  FnOk P w K mg base (CX1 P w) 41 f fd ["kind","own","parts","most"] (spNormal K CF CN CT):=by
 refine F.okX scNormal (fun vs H Q E h=>?_) (fun cdv A outer s H vs Q E hr h=>?_)
 ·obtain⟨x,k,o,p,m,okv,pkv,OG,PG,rfl,_⟩:=h
  rfl
 obtain⟨x,k,o,p,m,okv,pkv,OG,PG,rfl,hk,hw,hdp,hnm,m0,m1,ho,hO,hp,hP,q1,q2⟩:=h
 have hu:=hu_of hr
 have hr1:Room 1 _:=hr.mono (by decide)
 have hr2:Room 2 _:=hr.mono (by decide)
 refine⟨_,pss_cons (ps_set (i:=4) scNormal.nd rfl (Or.inl rfl) pe_dnewT)
  (pss_cons (ps_for PassesOwn.leaving rfl (pi_list (pe_call GN hr1 rfl mN kN bN .nil pass0 (pa_cons (pv 0) pa_nil)))
   (pg_tup rfl (pgs_cons (pg_name (i:=5) scNormal.nd rfl (Or.inl rfl)) (pgs_cons (pg_name (i:=6) scNormal.nd rfl (Or.inl rfl)) pgs_nil)))
   (pss_one (ps_dput hu (pv 4) (pe_tup (pa_cons (pv 5) (pa_cons (pv 6) pa_nil))) (pe_call GT hr1 rfl mT kT bT .nil pass1 (pa_cons (pv 5) (pa_cons (pv 6) (pa_cons (pv 1) (pa_cons (pv 2) pa_nil))))) rfl)))
  (pss_one (ps_ret (pe_call GB hr2 rfl mB kB bB .nil pass1 (pa_cons (pe_call GP hr rfl mP kP bP .nil pass0 (pa_cons (pv 0) (pa_cons (pv 4) pa_nil))) (pa_cons (pv 3) pa_nil)))))),?_⟩
 intro g hg
 have sg:=same_new hg (.dT [])
 refine⟨_,rfl,x,k,rfl,hk.same sg,hw,fun H1 l as s1 _ hl hpr=>?_⟩
 have gne:l≠g:=fun e=>by
  have z:=s1 _ _ (upd_same (H:=H) (a:=g) (o:=.dT []))
  rw [←e,hl] at z
  cases z
 have hS1:Same H H1:=same_trans sg s1
 have hlen:=Paired.length hpr
 refine⟨l,rfl,⟨_,SqL.of hl⟩,for_list (K:=K) (xs:=as.map V.ref) (fun i σ H3=>∃(x5 x6:Option V) (kvs:List (List Key × V)),σ=[some x,some (.ref o),some (.ref p),some (.int m),some (.ref g),x5,x6]∧Same H H3∧H3 l=some (.lst (as.map V.ref))∧H3 g=some (.dT kvs) ∧
   Paired (fun(n:Str × Str) (a:Addr)=>H3 a=some (.tup [.str n.1,.str n.2])) (firsts [] (Kd.names k)) as∧kvs.length≤i∧(∀n∈(firsts [] (Kd.names k)).take i,tell OG PG n≠none)∧GvAt K H3 kvs (fun n=>if n∈(firsts [] (Kd.names k)).take i then tell OG PG n else none))
  ⟨none,none,[],rfl,hS1,hl,s1 _ _ upd_same,hpr,Nat.le_refl _,fun n hn=>(by simp at hn),fun n=>.inl ⟨rfl,by simp⟩⟩ ?_ ?_ ?_⟩
 ·rintro i σ H3 _ ⟨x5,x6,kvs,rfl,_,h3,_⟩
  exact SqL.of h3
 ·rintro i y σ H3 hy ⟨x5,x6,kvs,rfl,s3,hl3,hg3,hp3,hkl,hto,hG⟩
  obtain⟨b,hb,rfl⟩:∃b,as[i]?=some b∧V.ref b=y:=by
   rw [List.getElem?_map] at hy
   exact Option.map_eq_some_iff.mp hy
  obtain⟨n,hn,htu⟩:=paired_get hp3 hb
  have hnm':n∈Kd.names k:=by
   rcases mem_firsts (List.mem_of_getElem? hn) with z|z
   ·cases z
   ·exact z
  have hil:i < as.length:=(List.getElem?_eq_some_iff.mp hb).1
  have etake:(firsts [] (Kd.names k)).take (i+1)=(firsts [] (Kd.names k)).take i++[n]:=by
   rw [List.take_add_one,hn]
   rfl
  have hkz:kvs.length < sizeLine:=by
   have h1:=firsts_len (Kd.names k) []
   have h2:=names_len k
   have h3:([]:List (Str × Str)).length=0:=rfl
   exact Nat.lt_of_lt_of_le (Nat.lt_succ_self _) (small (by omega))
  refine⟨b,_,rfl,SqT.of htu,rfl,_,_,rfl,_,_,rfl,rfl,?_⟩
  refine⟨_,rfl,_,rfl,_,rfl,_,rfl,n.1,n.2,o,p,okv,pkv,OG,PG,rfl,(hnm n hnm').1,(hnm n hnm').2,s3 _ _ ho,hO.same s3,s3 _ _ hp,hP.same s3,?_⟩
  cases ht:tell OG PG n with
  |none=>exact .inl ⟨rfl,q1 _ s3 ⟨n,hnm',ht⟩⟩
  |some kk =>
   refine .inr ⟨kk,rfl,fun v hv=>?_⟩
   refine⟨_,rfl,_,rfl,_,rfl,(by show 2≤sizeLine;decide),fun c hc=>?_⟩
   have sc:=same_new hc (.tup [.str n.1,.str n.2])
   have hg4:=sc _ _ hg3
   have hcg:g≠c:=ne_of_none hg3 hc
   have hcl:l≠c:=ne_of_none hl3 hc
   have hc0:H c=none:=by
    cases e:H c with
    |none=>rfl
    |some u=>rw [s3 _ _ e] at hc;cases hc
   refine⟨g,_,rfl,DPut.t (k:=keyN n) hg4 upd_same hkz,?_⟩
   have keep:∀a xs,SqT K (upd H3 c (.tup [.str n.1,.str n.2])) a xs→SqT K (upd (upd H3 c (.tup [.str n.1,.str n.2])) g (.dT (putK kvs (keyN n) v))) a xs:=fun a xs t=>by
    rcases t with (t|⟨o',t⟩)|t
    ·exact .inl (.inl (by rw [upd_ne (fun e=>by rw [e,hg4] at t;cases t)];exact t))
    ·exact .inl (.inr ⟨o',by rw [upd_ne (fun e=>by rw [e,hg4] at t;cases t)];exact t⟩)
    ·exact .inr t
   refine⟨_,_,putK kvs (keyN n) v,rfl,sput (same_trans s3 sc) hg,?_,upd_same,?_,?_,?_,?_⟩
   ·rw [upd_ne gne]
    exact sc _ _ hl3
   ·exact Paired.imp' (fun m a e=>by rw [upd_ne (fun z=>by rw [z,hg3] at e;cases e)];exact sc _ _ e) hp3
   ·have:=length_putK kvs (keyN n) v
    omega
   ·rw [etake]
    intro m hm
    rcases List.mem_append.mp hm with z|z
    ·exact hto m z
    ·rw [List.mem_singleton.mp z,ht]
     exact fun e=>nomatch e
   ·have hG2:=gv_put (n:=n) (hG.same sc) (hv.same sc)
    rw [etake]
    intro mm
    have eG:(if mm∈(firsts [] (Kd.names k)).take i++[n] then tell OG PG mm else none)=(if mm=n then some kk else if mm∈(firsts [] (Kd.names k)).take i then tell OG PG mm else none):=by
     by_cases e:mm=n
     ·subst e
      rw [if_pos (List.mem_append_right _ (List.mem_singleton.mpr rfl)),if_pos rfl,ht]
     ·rw [if_neg e]
      by_cases e2:mm∈(firsts [] (Kd.names k)).take i
      ·rw [if_pos e2,if_pos (List.mem_append_left _ e2)]
      ·rw [if_neg e2,if_neg (fun z=>(List.mem_append.mp z).elim e2 fun z2=>e (List.mem_singleton.mp z2))]
    rcases hG2 mm with ⟨h1,h2⟩|⟨v',k',h1,h2,h3⟩
    ·exact .inl ⟨h1,eG.trans h2⟩
    ·exact .inr ⟨v',k',h1,eG.trans h2,kd_keep keep h3⟩
 ·rintro σ H3 ⟨x5,x6,kvs,rfl,s3,hl3,hg3,hp3,hkl,hto,hG⟩
  rw [List.length_map,←hlen,List.take_length] at hto hG
  have hall:∀n∈Kd.names k,tell OG PG n≠none:=fun n hn=>hto n (firsts_mem (.inr hn))
  obtain⟨hb9,q3⟩:=q2 hall
  have epc:Kd.put (fun n=>if n∈firsts [] (Kd.names k) then tell OG PG n else none) k=Kd.put (tell OG PG) k:=put_congr fun n hn=>if_pos (firsts_mem (.inr hn))
  refine⟨_,rfl,_,rfl,x,g,k,kvs,_,rfl,hk.same s3,hdp,hg3,hG,fun H4 v4 s4 hv4=>?_⟩
  rw [epc] at hv4
  refine⟨_,rfl,v4,_,m,rfl,hv4,hb9,m0,m1,fun H5 s5=>?_⟩
  have q4:=q3 H5 (same_trans s3 (same_trans s4 s5))
  by_cases c:((Kd.put (tell OG PG) k).words:Int) > m
  ·rw [if_pos c] at q4 ⊢
   exact q4
  ·rw [if_neg c] at q4 ⊢
   exact q4 v4 (hv4.same s5)
end
end K41
namespace K41
open PySem L2 Kk
section
variable{P:Program}{w:World}{K:PySem.W.Frag}{mg:Str→Option Value}{base:Heap}
theorem sqt_fz{H:Hp}{l a:Addr}{ob:Obj}{kvs:List (Key × V)}{xs:List V}{o:HO}(h:H l=some (.frz ob (.dK kvs)))(t:SqT K H a xs):SqT K (upd H l o) a xs:=by
 rcases t with (t|⟨o',t⟩)|t
 ·exact .inl (.inl (by rw [upd_ne (fun e=>by rw [e,h] at t;cases t)];exact t))
 ·exact .inl (.inr ⟨o',by rw [upd_ne (fun e=>by rw [e,h] at t;cases t)];exact t⟩)
 ·exact .inr t
end
end K41
namespace K41
open PySem L2 Kk
section
variable{P:Program}{w:World}{K:PySem.W.Frag}{mg:Str→Option Value}{base:Heap}
end
end K41
namespace K41
open PySem L2 Kk
section
variable{P:Program}{w:World}{K:PySem.W.Frag}{mg:Str→Option Value}{base:Heap}
end
end K41
namespace K41
open PySem L2 Kk
section
variable{P:Program}{w:World}{K:PySem.W.Frag}{mg:Str→Option Value}{base:Heap}
end
end K41
namespace K41
open PySem L2 Kk
def GoodK(k:Kd):Prop:=Kd.ok k∧k.words≤40
structure Good(m1:List (Str × Kd))(m2:List (Str × (List Kd × Kd))):Prop where
 nd1:(m1.map (·.1)).Nodup
 nd2:(m2.map (·.1)).Nodup
 l1:m1.length≤100
 l2:m2.length≤100
 k1:∀q∈m1,okW q.1∧GoodK q.2
 k2:∀q∈m2,okW q.1∧(∀k∈q.2.1,GoodK k)∧GoodK q.2.2∧q.2.1.length≤100
theorem put_leaves{G:Str × Str→Option Kd}{c:Nat}(hc:1≤c)(hG:∀n g,G n=some g→g.leaves.length≤c):∀k:Kd,(Kd.put G k).leaves.length≤k.leaves.length*c
 |.num n=>by
  show 1≤1*c
  omega
 |.name q t=>by
  show((G (q,t)).getD (.name q t)).leaves.length≤1*c
  cases e:G (q,t) with
  |none =>
   show 1≤1*c
   omega
  |some g =>
   have:=hG _ _ e
   show g.leaves.length≤1*c
   omega
 |.pair a b=>by
  have h1:=put_leaves hc hG a
  have h2:=put_leaves hc hG b
  show((Kd.put G a).leaves++(Kd.put G b).leaves).length≤(a.leaves++b.leaves).length*c
  rw [List.length_append,List.length_append,Nat.add_mul]
  omega
theorem put_okK{G:Str × Str→Option Kd}(hG:∀n g,G n=some g→Kd.ok g):∀{k:Kd},Kd.ok k→Kd.ok (Kd.put G k)
 |.num n,_=>trivial
 |.name q t,h=>by
  show Kd.ok ((G (q,t)).getD (.name q t))
  cases e:G (q,t) with
  |none=>exact h
  |some g=>exact hG _ _ e
 |.pair a b,h=>⟨put_okK hG h.1,put_okK hG h.2⟩
def WithAt(K:PySem.W.Frag)(H:Hp)(v:V)(q:Str × Kd):Prop:=∃(p:Addr) (y:V),v=.ref p∧SqT K H p [.str q.1,y]∧KdAt K H y q.2
theorem WithAt.same{K:PySem.W.Frag}{H H':Hp}{v:V}{q:Str × Kd}(e:Same H H')(h:WithAt K H v q):WithAt K H' v q:=by
 obtain⟨p,y,h1,h2,h3⟩:=h
 exact⟨p,y,h1,e.tup h2,h3.same e⟩
def WithsAt(K:PySem.W.Frag)(H:Hp)(xs:List V)(ws:List (Str × Kd)):Prop:=Paired (WithAt K H) xs ws
theorem FaceF.same{K:PySem.W.Frag}{H H':Hp}{CF x:Addr}{m1:List (Str × Kd)}{m2:List (Str × (List Kd × Kd))}(e:Same H H')(h:FaceF K H CF x m1 m2):FaceF K H' CF x m1 m2:=by
 obtain⟨dx,d1,d2,fs,kv1,kv2,h1,h2,h3,h4,h5,h6,h7,h8⟩:=h
 exact⟨dx,d1,d2,fs,kv1,kv2,e _ _ h1,h2,h3,e _ _ h4,e _ _ h5,h6.imp fun v y h=>h.same e,h7.imp fun v y h=>h.keep fun a xs t=>e.tup t,h8⟩
section
variable{P:Program}{w:World}{K:PySem.W.Frag}{mg:Str→Option Value}{base:Heap}
end
end K41
namespace K41
open PySem L2
def cellOf(ns:List Int)(k:Int):Int :=
 if k < (ns.length:Int) then (match atI (ns.map V.int) k with|some (.int v)=>v*48271+7919*k|_=>0)
 else if 0 < (ns.length:Int) then (match atI (ns.map V.int) (k%(ns.length:Int)) with|some (.int v)=>(v%1000003*48271+7919*k*k)%2147483647|_=>0)
 else (7919*k+11)%2147483647
def spCellX(K:PySem.W.Frag):Sp:=fun vs H Q _=>∃(a:Addr) (ns:List Int) (k:Int),vs=[.ref a,.int k]∧SqL K H a (ns.map V.int)∧ns.length≤63∧0≤k∧k≤1000∧∀c:Int,c=cellOf ns k→Q (.int c) H
section
variable{P:Program}{w:World}{K:PySem.W.Frag}{mg:Str→Option Value}{base:Heap}
theorem scCell:FnScope ["_law_script","_law_k","_law_number"] ["_law_script","_law_k"] (defScope sCell):=⟨rfl,rfl,rfl,by decide +kernel,rfl,by decide +kernel,by decide +kernel⟩
theorem ok_cellX{f:Addr}{fd:FuncData} (F:Fun K "_law_cell" "_law_cell" sCell f fd) (ml:mg "len"=none):FnOk P w K mg base CX0 1 f fd ["_law_script","_law_k"] (spCellX K):=by
 refine F.ok scCell (fun vs H Q E h=>?_) (fun cdv A outer s H vs Q E hr h=>?_)
 ·obtain⟨a,ns,k,rfl,_⟩:=h
  rfl
 obtain⟨a,ns,k,rfl,hS,h63,h0,h1,q⟩:=h
 refine⟨_,pss_cons (ps_if (pt_cmpR op_lt (pv 1) (pe_callB call_len_seq rfl ml PySem.boot_len (pa_cons (pv 0) pa_nil)) (nomark _))
   (pss_one (ps_ret (pe_op op_add (pe_op op_mul (pe_ix ix_list (pv 0) (pv 1) (fun _ _=>rfl)) pe_int) (pe_op op_mul pe_int (pv 1))))) pss_nil)
  (pss_cons (ps_set (i:=2) scCell.nd rfl (Or.inl rfl) (pe_op op_add (pe_op op_mul pe_int (pv 1)) pe_int))
  (pss_cons (ps_if (pt_cmpR op_gt (pe_callB call_len_seq rfl ml PySem.boot_len (pa_cons (pv 0) pa_nil)) pe_int (nomark _))
   (pss_one (ps_set (i:=2) scCell.nd rfl (Or.inl rfl) (pe_op op_add (pe_op op_mul (pe_op op_mod (pe_ix ix_list (pv 0) (pe_op op_mod (pv 1) (pe_callB call_len_seq rfl ml PySem.boot_len (pa_cons (pv 0) pa_nil))) (fun _ _=>rfl)) pe_int) pe_int)
    (pe_op op_mul (pe_op op_mul pe_int (pv 1)) (pv 1))))) pss_nil)
  (pss_one (ps_ret (pe_op op_mod (pv 2) pe_int))))),?_⟩
 have hl:(ns.map V.int).length=ns.length:=List.length_map _
 refine⟨_,rfl,_,rfl,a,_,rfl,.inl hS,_,_,rfl,rfl,_,rfl,?_⟩
 refine ite2 (fun c=>?_) (fun c=>?_)
 ·have c':k < (((ns.map V.int).length:Nat):Int):=of_decide_eq_true c
  rw [hl] at c'
  obtain⟨v,hv⟩:=at_int (ns:=ns) h0 c'
  exact⟨_,rfl,_,rfl,a,_,_,_,rfl,rfl,hS,hv,_,_,rfl,rfl,.inr ⟨by omega,by omega⟩,_,rfl,_,_,rfl,rfl,.inl ⟨by omega,by omega⟩,_,_,rfl,rfl,q _ (by unfold cellOf;rw [if_pos c',hv])⟩
 ·have c':¬k < (((ns.map V.int).length:Nat):Int):=of_decide_eq_false (Bool.eq_false_iff.mpr c)
  rw [hl] at c'
  refine⟨_,rfl,_,_,rfl,rfl,.inl ⟨by omega,by omega⟩,_,_,rfl,rfl,?_⟩
  refine⟨_,rfl,a,_,rfl,.inl hS,_,_,rfl,rfl,_,rfl,?_⟩
  refine ite2 (fun d=>?_) (fun d=>?_)
  ·have d':0 < (((ns.map V.int).length:Nat):Int):=of_decide_eq_true d
   rw [hl] at d'
   obtain⟨v,hv⟩:=at_int (ns:=ns) (i:=k%(((ns.map V.int).length:Nat):Int)) (by rw [hl];exact Int.emod_nonneg _ (by omega)) (by rw [hl];exact Int.emod_lt_of_pos _ d')
   refine⟨_,rfl,_,rfl,_,rfl,a,_,rfl,.inl hS,_,_,rfl,rfl,(by rw [hl];exact d'),a,_,_,_,rfl,rfl,hS,hv,_,_,rfl,rfl,(by show(0:Int) < 1000003;decide),_,_,rfl,rfl,.inr ⟨by omega,by omega⟩,?_⟩
   refine⟨_,rfl,_,_,rfl,rfl,.inl ⟨by omega,by omega⟩,_,rfl,_,_,rfl,rfl,.inr ⟨by omega,by omega⟩,_,_,rfl,rfl,?_⟩
   exact⟨_,rfl,_,_,rfl,rfl,(by show(0:Int) < 2147483647;decide),q _ (by rw [hl] at hv;unfold cellOf;rw [if_neg c',if_pos d',hv])⟩
  ·have d':¬0 < (((ns.map V.int).length:Nat):Int):=of_decide_eq_false (Bool.eq_false_iff.mpr d)
   rw [hl] at d'
   exact⟨_,rfl,_,_,rfl,rfl,(by show(0:Int) < 2147483647;decide),q _ (by unfold cellOf;rw [if_neg c',if_neg d'])⟩
end
end K41
namespace K41
open PySem L2 Kk
def wsz(c:Int):Int:=if 0 < c / 6%3 then 7+c%6 else 1
def wnum(c k:Int)(j:Int):Int:=c / 216+(3+c / 1000)*j+k*(if j=c / 18%wsz c then 1 else 0)
def wpre(c k:Int):Nat→Str
 |0=>""
 |j+1=>wpre c k j++⟨#[chF (wnum c k (j:Int)%26)]⟩
def wordL(c k:Int):Str:=wpre c k (wsz c).toNat
theorem wsz_bd(c:Int):1≤wsz c∧wsz c≤12:=by
 unfold wsz
 split<;>omega
theorem wpre_len(c k:Int):∀n,(wpre c k n).length=n
 |0=>rfl
 |n+1=>by
  show(wpre c k n++⟨#[chF (wnum c k (n:Int)%26)]⟩:Str).length=n+1
  rw [len_app,wpre_len c k n]
  rfl
theorem wpre_ok(c k:Int):∀n,PyData.strOk (wpre c k n)=true
 |0=>show PyData.strOk (Str.ofString "")=true by decide +kernel
 |n+1=>sok_app (wpre_ok c k n) (chF_ok _)
theorem wpre_cps(c k:Int):∀n,(wpre c k n).cps.toList=(List.range n).map fun(j:Nat)=>chF (wnum c k (j:Int)%26)
 |0=>rfl
 |n+1=>by
  have e:(wpre c k (n+1)).cps.toList=(wpre c k n).cps.toList++[chF (wnum c k (n:Int)%26)]:=by
   show((wpre c k n).cps++#[chF (wnum c k (n:Int)%26)]).toList=_
   simp
  rw [e,wpre_cps c k n,List.range_succ,List.map_append]
  rfl
theorem smW_L(c k:Int):smW (wordL c k):=⟨wpre_ok _ _ _,by have:=wsz_bd c;unfold wordL;rw [wpre_len];omega⟩
theorem chF_val:∀i:Fin 26,chF (i.val:Int)=97+i.val:=by decide +kernel
theorem chF_at{i:Int}(h0:0≤i)(h1:i < 26):chF i=97+i.toNat:=by
 have h:=chF_val ⟨i.toNat,by omega⟩
 have e:((i.toNat:Nat):Int)=i:=Int.toNat_of_nonneg h0
 simp only [e] at h
 exact h
theorem wordL_inj{c k k':Int}(h:wordL c k=wordL c k'):k%26=k'%26:=by
 have hc:(wordL c k).cps.toList=(wordL c k').cps.toList:=by rw [h]
 unfold wordL at hc
 rw [wpre_cps,wpre_cps] at hc
 have hb:=wsz_bd c
 have a0:=Int.emod_nonneg (c / 18) (show wsz c≠0 by omega)
 have a1:=Int.emod_lt_of_pos (c / 18) (show 0 < wsz c by omega)
 have hj:(c / 18%wsz c).toNat < (wsz c).toNat:=by omega
 have hg:=congrArg (fun l:List Nat=>l[(c / 18%wsz c).toNat]?) hc
 simp only [List.getElem?_map,List.getElem?_range hj,Option.map_some,Option.some.injEq] at hg
 rw [Int.toNat_of_nonneg a0] at hg
 rw [chF_at (Int.emod_nonneg _ (by decide)) (Int.emod_lt_of_pos _ (by decide)),chF_at (Int.emod_nonneg _ (by decide)) (Int.emod_lt_of_pos _ (by decide))] at hg
 unfold wnum at hg
 rw [if_pos rfl] at hg
 generalize c / 216+(3+c / 1000)*(c / 18%wsz c)=A at hg
 omega
abbrev wlN:List Str:=["_law_cell_here","_law_k","_law_size_here","_law_at","_law_word_here","_law_j","_law_number"]
abbrev wlP:List Str:=["_law_cell_here","_law_k"]
def spWordL:Sp:=fun vs H Q _=>∃c k:Int,vs=[.int c,.int k]∧∀H',Same H H'→Q (.str (wordL c k)) H'
section
variable{P:Program}{w:World}{K:PySem.W.Frag}{mg:Str→Option Value}{base:Heap}
theorem scWordL:FnScope wlN wlP (defScope sWordL):=⟨rfl,rfl,rfl,by decide +kernel,rfl,by decide +kernel,by decide +kernel⟩
set_option maxHeartbeats 0 in
theorem ok_wordL{f:Addr}{fd:FuncData} (F:Fun K "_law_word" "_law_word" sWordL f fd) (mI:mg "int"=none) (mr:mg "range"=none):FnOk P w K mg base CX0 1 f fd wlP spWordL:=by
 refine F.ok scWordL (fun vs H Q E h=>?_) (fun cdv A outer s H vs Q E hr h=>?_)
 ·obtain⟨c,k,rfl,_⟩:=h
  rfl
 obtain⟨c,k,rfl,q⟩:=h
 refine⟨_,pss_cons (ps_set (i:=2) scWordL.nd rfl (Or.inl rfl) (pe_ix ix_list (pe_lst (pa_cons pe_int (pa_cons (pe_op op_add pe_int (pe_op op_mod (pv 0) pe_int)) pa_nil))) (pe_callTy call_int1 rfl mI bootInt (pa_cons (pe_cmpR op_gt (pe_op op_mod (pe_op op_fdiv (pv 0) pe_int) pe_int) pe_int (nomark _)) pa_nil)) (fun _ _=>rfl)))
  (pss_cons (ps_set (i:=3) scWordL.nd rfl (Or.inl rfl) (pe_op op_mod (pe_op op_fdiv (pv 0) pe_int) (pv 2)))
  (pss_cons (ps_set (i:=4) scWordL.nd rfl (Or.inl rfl) pe_str)
  (pss_cons (ps_for PassesOwn.never rfl (pi_range1 rfl mr (pa_cons (pv 2) pa_nil)) (pg_name (i:=5) scWordL.nd rfl (Or.inl rfl))
   (pss_cons (ps_set (i:=6) scWordL.nd rfl (Or.inl rfl) (pe_op op_add (pe_op op_add (pe_op op_fdiv (pv 0) pe_int) (pe_op op_mul (pe_op op_add pe_int (pe_op op_fdiv (pv 0) pe_int)) (pv 5))) (pe_op op_mul (pv 1) (pe_callTy call_int1 rfl mI bootInt (pa_cons (pe_cmpR op_eq (pv 5) (pv 3) (nomark _)) pa_nil)))))
   (pss_one (ps_set (i:=4) scWordL.nd rfl (Or.inl rfl) (pe_op op_add_str (pv 4) (pe_ix ix_str pe_str (pe_op op_mod (pv 6) pe_int) (fun _ _=>rfl)))))))
  (pss_one (ps_ret (pv 4)))))),?_⟩
 have hb:=wsz_bd c
 have l26:(Str.ofString "abcdefghijklmnopqrstuvwxyz").length≤sizeLine:=by decide +kernel
 have h26:((Str.ofString "abcdefghijklmnopqrstuvwxyz").cps.toList.length:Int)=26:=by decide +kernel
 have hat:atI [V.int 1,V.int (7+c%6)] (if decide (0 < c / 6%3)=true then 1 else 0)=some (.int (wsz c)):=by
  unfold wsz
  by_cases h:0 < c / 6%3
  ·rw [decide_eq_true h,if_pos h]
   rfl
  ·rw [decide_eq_false h,if_neg h]
   rfl
 refine⟨_,rfl,_,_,rfl,rfl,(by show(0:Int) < 6;decide),_,_,rfl,rfl,(by show 2≤sizeLine;decide),fun l2 hl2=>?_⟩
 have s2:=same_new hl2 (.lst [V.int 1,V.int (7+c%6)])
 refine⟨_,rfl,_,_,rfl,rfl,⟨by decide,by decide⟩,_,_,rfl,rfl,(by show(0:Int) < 3;decide),_,_,rfl,rfl,.inr ⟨_,rfl,l2,_,_,_,rfl,rfl,SqL.of upd_same,hat,?_⟩⟩
 refine⟨_,rfl,_,_,rfl,rfl,⟨by decide,by decide⟩,_,rfl,_,_,rfl,rfl,(by show(0:Int) < wsz c;omega),?_⟩
 refine⟨_,rfl,_,rfl,by omega,by omega,?_⟩
 refine for_range (lo:=0) (n:=(wsz c).toNat) (fun i σ H3=>∃(x5 x6:Option V),σ=[some (.int c),some (.int k),some (.int (wsz c)),some (.int (c / 18%wsz c)),some (.str (wpre c k i)),x5,x6]∧Same H H3) ⟨none,none,rfl,s2⟩ ?_ ?_
 ·rintro i σ H3 hi ⟨x5,x6,rfl,s3⟩
  rw [Int.zero_add]
  obtain⟨g,hg⟩:=at_ex (xs:=(Str.ofString "abcdefghijklmnopqrstuvwxyz").cps.toList) (i:=wnum c k (i:Int)%26) (Int.emod_nonneg _ (by decide)) (by rw [h26];exact Int.emod_lt_of_pos _ (by decide))
  have eg:chF (wnum c k (i:Int)%26)=g:=by unfold chF;rw [hg];rfl
  have el:=wpre_len c k i
  refine⟨_,rfl,_,_,rfl,rfl,⟨by decide,by decide⟩,_,rfl,_,_,rfl,rfl,⟨by decide,by decide⟩,_,_,rfl,rfl,_,rfl,_,_,rfl,rfl,.inr ⟨by omega,by omega⟩,_,_,rfl,rfl,_,rfl,_,rfl,_,rfl,rfl,.inr ⟨_,rfl,?_⟩⟩
  have ek:(if decide (V.int (i:Int)=V.int (c / 18%wsz c))=true then (1:Int) else 0)=if (i:Int)=c / 18%wsz c then 1 else 0:=by
   by_cases h:(i:Int)=c / 18%wsz c
   ·rw [if_pos h,decide_eq_true (by rw [h]),if_pos rfl]
   ·rw [if_neg h,decide_eq_false (fun z=>h (by injection z)),if_neg (by decide)]
  rw [ek]
  refine⟨_,_,rfl,rfl,.inr ⟨by split<;>decide,by split<;>decide⟩,_,_,rfl,rfl,?_⟩
  refine⟨_,rfl,_,rfl,_,_,rfl,rfl,(by show(0:Int) < 26;decide),_,_,_,rfl,rfl,l26,hg,_,_,rfl,rfl,small (by rw [el];show i+1≤1000;omega),?_⟩
  have e:wpre c k i++(⟨#[g]⟩:Str)=wpre c k (i+1):=by rw [←eg];rfl
  rw [e]
  exact⟨_,_,rfl,s3⟩
 ·rintro σ H3 ⟨x5,x6,rfl,s3⟩
  exact⟨_,rfl,q _ s3⟩
end
end K41
namespace K41
open PySem L2 Kk
def MixG(S:Kd→Prop)(k:Kd):Prop:=S k∨∃a b,S a∧S b∧(k=.pair a b∨k=.pair b (.pair a b))
theorem e18:(0:Int) < ((10:Int) ^ (18:Int).toNat):=by decide
def spMix(K:PySem.W.Frag):Sp:=fun vs H Q _=>∃(c:Int) (l:Addr) (xs:List V) (ks:List Kd) (S:Kd→Prop),vs=[.int c,.ref l]∧H l=some (.lst xs)∧KdsAt K H xs ks∧ks.length≤50∧(∀k∈ks,S k)∧(∀n:Int,0≤n→n≤10 ^ 18→S (.num n)) ∧
 ∀H' v k,Same H H'→KdAt K H' v k→MixG S k→Q v H'
abbrev mxN:List Str:=["_law_cell_here","_law_leaves","_law_some","_law_one","_law_other"]
abbrev mxP:List Str:=["_law_cell_here","_law_leaves"]
section
variable{P:Program}{w:World}{K:PySem.W.Frag}{mg:Str→Option Value}{base:Heap}
theorem scMix:FnScope mxN mxP (defScope sMix):=⟨rfl,rfl,rfl,by decide +kernel,rfl,by decide +kernel,by decide +kernel⟩
set_option maxHeartbeats 0 in
theorem ok_mix{f:Addr}{fd:FuncData} (F:Fun K "_law_mix" "_law_mix" sMix f fd) (ml:mg "len"=none):FnOk P w K mg base CX0 1 f fd mxP (spMix K):=by
 refine F.ok scMix (fun vs H Q E h=>?_) (fun cdv A outer s H vs Q E hr h=>?_)
 ·obtain⟨c,l,xs,ks,S,rfl,_⟩:=h
  rfl
 obtain⟨c,l,xs,ks,S,rfl,hl,hks,h50,hS,hn,q⟩:=h
 refine⟨_,pss_cons (ps_set (i:=2) scMix.nd rfl (Or.inl rfl) (pe_op op_cat (pv 1) (pe_lst (pa_cons (pe_tup (pa_cons pe_str (pa_cons (pe_op op_add pe_int (pe_op op_mod (pe_op op_fdiv (pv 0) pe_int) (pe_op op_pow pe_int pe_int))) pa_nil))) pa_nil))))
  (pss_cons (ps_set (i:=3) scMix.nd rfl (Or.inl rfl) (pe_ix ix_list (pv 2) (pe_op op_mod (pe_op op_fdiv (pv 0) pe_int) (pe_callB call_len_seq rfl ml PySem.boot_len (pa_cons (pv 2) pa_nil))) (fun _ _=>rfl)))
  (pss_cons (ps_set (i:=4) scMix.nd rfl (Or.inl rfl) (pe_ix ix_list (pv 2) (pe_op op_mod (pe_op op_fdiv (pv 0) pe_int) (pe_callB call_len_seq rfl ml PySem.boot_len (pa_cons (pv 2) pa_nil))) (fun _ _=>rfl)))
  (pss_one (ps_ret (pe_ix ix_list (pe_lst (pa_cons (pv 3) (pa_cons (pv 3) (pa_cons (pv 3) (pa_cons (pe_tup (pa_cons pe_str (pa_cons (pv 3) (pa_cons (pv 4) pa_nil)))) (pa_cons (pe_tup (pa_cons pe_str (pa_cons (pv 4) (pa_cons (pe_tup (pa_cons pe_str (pa_cons (pv 3) (pa_cons (pv 4) pa_nil)))) pa_nil)))) pa_nil)))))) (pe_op op_mod (pv 0) pe_int) (fun _ _=>rfl)))))),?_⟩
 have hln:=hks.length
 refine⟨_,rfl,_,rfl,_,_,rfl,rfl,⟨by decide,by decide⟩,_,_,rfl,rfl,⟨by decide,by decide,by decide⟩,_,_,rfl,rfl,e18,_,_,rfl,rfl,(by show 2≤sizeLine;decide),fun q1 hq1=>?_⟩
 have u1:=same_new hq1 (.tup [.str "num",.int (1+c / 40%(10:Int) ^ (18:Int).toNat)])
 refine⟨(by show 1≤sizeLine;decide),fun q2 hq2=>?_⟩
 have u2:=same_new hq2 (.lst [.ref q1])
 have u12:=u1.trans u2
 refine⟨l,q2,_,_,rfl,rfl,u12 _ _ hl,upd_same,small (by show xs.length+1≤1000;omega),fun q3 hq3=>?_⟩
 have u3:=same_new hq3 (.lst (xs++[V.ref q1]))
 have u13:=u12.trans u3
 generalize hH4:upd (upd (upd H q1 (.tup [.str "num",.int (1+c / 40%(10:Int) ^ (18:Int).toNat)])) q2 (.lst [.ref q1])) q3 (.lst (xs++[V.ref q1]))=H4 at u13 ⊢
 have h3:H4 q3=some (.lst (xs++[V.ref q1])):=by rw [←hH4];exact upd_same
 have ht:KdAt K H4 (.ref q1) (.num (1+c / 40%(10:Int) ^ (18:Int).toNat)):=.num (SqT.of (by rw [←hH4];exact(u2.trans u3) _ _ upd_same))
 have hks4:KdsAt K H4 (xs++[V.ref q1]) (ks++[.num (1+c / 40%(10:Int) ^ (18:Int).toNat)]):=(hks.same u13).append (.cons ht .nil)
 have hall:∀k∈ks++[.num (1+c / 40%(10:Int) ^ (18:Int).toNat)],S k:=fun k hk=>by
  rcases List.mem_append.mp hk with h|h
  ·exact hS k h
  ·rw [List.mem_singleton.mp h]
   have a0:=Int.emod_nonneg (c / 40) (Int.ne_of_gt e18)
   have a1:=Int.emod_lt_of_pos (c / 40) e18
   have e:(10:Int) ^ (18:Int).toNat=1000000000000000000:=by decide
   have e':(10:Int) ^ 18=1000000000000000000:=by decide
   refine hn _ ?_ ?_
   ·omega
   ·rw [e'] ;rw [e] at a1 ⊢;omega
 have hl4:(xs++[V.ref q1]).length=ks.length+1:=by rw [List.length_append,hln];rfl
 have pick:∀d:Int,∃(v:V) (k:Kd),atI (xs++[V.ref q1]) (d%(((xs++[V.ref q1]).length:Nat):Int))=some v∧KdAt K H4 v k∧S k:=fun d=>by
  have p0:0 < (((xs++[V.ref q1]).length:Nat):Int):=by rw [hl4];omega
  obtain⟨v,hv⟩:=at_ex (xs:=xs++[V.ref q1]) (i:=d%(((xs++[V.ref q1]).length:Nat):Int)) (Int.emod_nonneg _ (by omega)) (Int.emod_lt_of_pos _ p0)
  obtain⟨j,_,hj⟩:=Option.bind_eq_some_iff.mp (show((ixN (xs++[V.ref q1]).length (d%(((xs++[V.ref q1]).length:Nat):Int))).bind fun j=>(xs++[V.ref q1])[j]?)=some v from hv)
  obtain⟨k,hk,hat⟩:=hks4.get hj
  exact⟨v,k,hv,hat,hall k (List.mem_of_getElem? hk)⟩
 have p0:(0:Int) < (((xs++[V.ref q1]).length:Nat):Int):=by rw [hl4];omega
 obtain⟨v1,k1,at1,ka1,ks1⟩:=pick (c / 5)
 obtain⟨v2,k2,at2,ka2,ks2⟩:=pick (c / 45)
 refine⟨_,rfl,_,rfl,_,_,rfl,rfl,⟨by decide,by decide⟩,_,rfl,q3,_,rfl,.inl (SqL.of h3),_,_,rfl,rfl,p0,q3,_,_,_,rfl,rfl,SqL.of h3,at1,?_⟩
 refine⟨_,rfl,_,rfl,_,_,rfl,rfl,⟨by decide,by decide⟩,_,rfl,q3,_,rfl,.inl (SqL.of h3),_,_,rfl,rfl,p0,q3,_,_,_,rfl,rfl,SqL.of h3,at2,?_⟩
 refine⟨_,rfl,_,rfl,_,rfl,_,rfl,_,rfl,(by show 3≤sizeLine;decide),fun p4 hp4=>?_⟩
 have w4:=same_new hp4 (.tup [.str "pair",v1,v2])
 refine⟨_,rfl,_,rfl,_,rfl,(by show 3≤sizeLine;decide),fun p5 hp5=>?_⟩
 have w5:=same_new hp5 (.tup [.str "pair",v1,v2])
 refine⟨(by show 3≤sizeLine;decide),fun p6 hp6=>?_⟩
 have w6:=same_new hp6 (.tup [.str "pair",v2,.ref p5])
 refine⟨(by show 5≤sizeLine;decide),fun p7 hp7=>?_⟩
 have w7:=same_new hp7 (.lst [v1,v1,v1,.ref p4,.ref p6])
 have w47:=w4.trans (w5.trans (w6.trans w7))
 have sA:=u13.trans w47
 have five:c%5=0∨c%5=1∨c%5=2∨c%5=3∨c%5=4:=by omega
 have hp4k:KdAt K (upd (upd (upd (upd H4 p4 (.tup [.str "pair",v1,v2])) p5 (.tup [.str "pair",v1,v2])) p6 (.tup [.str "pair",v2,.ref p5])) p7 (.lst [v1,v1,v1,.ref p4,.ref p6])) (.ref p4) (.pair k1 k2) :=
  .pair (SqT.of ((w5.trans (w6.trans w7)) _ _ upd_same)) (ka1.same w47) (ka2.same w47)
 have hp6k:KdAt K (upd (upd (upd (upd H4 p4 (.tup [.str "pair",v1,v2])) p5 (.tup [.str "pair",v1,v2])) p6 (.tup [.str "pair",v2,.ref p5])) p7 (.lst [v1,v1,v1,.ref p4,.ref p6])) (.ref p6) (.pair k2 (.pair k1 k2)) :=
  .pair (SqT.of (w7 _ _ upd_same)) (ka2.same w47) (.pair (SqT.of ((w6.trans w7) _ _ upd_same)) (ka1.same w47) (ka2.same w47))
 have fin:∃v k,atI [v1,v1,v1,V.ref p4,.ref p6] (c%5)=some v∧KdAt K (upd (upd (upd (upd H4 p4 (.tup [.str "pair",v1,v2])) p5 (.tup [.str "pair",v1,v2])) p6 (.tup [.str "pair",v2,.ref p5])) p7 (.lst [v1,v1,v1,.ref p4,.ref p6])) v k∧MixG S k:=by
  rcases five with e|e|e|e|e
  ·exact⟨v1,k1,by rw [e];rfl,ka1.same w47,.inl ks1⟩
  ·exact⟨v1,k1,by rw [e];rfl,ka1.same w47,.inl ks1⟩
  ·exact⟨v1,k1,by rw [e];rfl,ka1.same w47,.inl ks1⟩
  ·exact⟨_,_,by rw [e];rfl,hp4k,.inr ⟨k1,k2,ks1,ks2,.inl rfl⟩⟩
  ·exact⟨_,_,by rw [e];rfl,hp6k,.inr ⟨k1,k2,ks1,ks2,.inr rfl⟩⟩
 obtain⟨v,k,hv,hk,hm⟩:=fin
 exact⟨_,rfl,_,_,rfl,rfl,(by show(0:Int) < 5;decide),p7,_,_,_,rfl,rfl,SqL.of upd_same,hv,q _ v k sA hk hm⟩
end
abbrev plP:List Str:=["_law_kind_here","_law_given"]
section
variable{P:Program}{w:World}{K:PySem.W.Frag}{mg:Str→Option Value}{base:Heap}
theorem scPutL:FnScope plP plP (defScope sPutL):=⟨rfl,rfl,rfl,by decide +kernel,rfl,by decide +kernel,by decide +kernel⟩
set_option maxHeartbeats 0 in
theorem ok_putL{f:Addr}{fd:FuncData} (F:Fun K "_law_put" "_law_put" sPutL f fd) (bP:Binds K fd plP []) (kP:PySem.W.keepIn K (.ref f)=true) (mP:mg "_law_put"=some (.ref f)) :
  ∀n,FnOk P w K mg base CX0 n f fd plP (spPut K n)
 |0=>⟨fun vs H Q E h=>by obtain⟨x,g,k,kvs,G,rfl,_⟩:=h;rfl,fun A outer s H args us vs Q E _ _ _ _ h=>by
   obtain⟨x,g,k,kvs,G,_,_,hd,_⟩:=h
   have:=depth_pos k
   omega⟩
 |n+1=>by
  have IH:=ok_putL F bP kP mP n
  refine F.ok scPutL (fun vs H Q E h=>?_) (fun cdv A outer s H vs Q E hr h=>?_)
  ·obtain⟨x,g,k,kvs,G,rfl,_⟩:=h
   rfl
  obtain⟨x,g,k,kvs,G,rfl,hk,hd,hg,hG,q⟩:=h
  have hu:=hu_of hr
  refine⟨_,pss_cons (ps_if (pt_cmpR op_eq (pe_ix ix_tup (pv 0) pe_int (fun _ _=>rfl)) pe_str (nomark _))
    (pss_one (ps_ret (pe_tup (pa_cons pe_str (pa_cons (pe_call IH hr rfl mP kP bP .nil pass0 (pa_cons (pe_ix ix_tup (pv 0) pe_int (fun _ _=>rfl)) (pa_cons (pv 1) pa_nil)))
     (pa_cons (pe_call IH hr rfl mP kP bP .nil pass0 (pa_cons (pe_ix ix_tup (pv 0) pe_int (fun _ _=>rfl)) (pa_cons (pv 1) pa_nil))) pa_nil)))))) pss_nil)
   (pss_cons (ps_if (PW.pt (pw_and (pt_cmpR op_eq (pe_ix ix_tup (pv 0) pe_int (fun _ _=>rfl)) pe_str (nomark _)) (pw_and1 (pt_cmp (pc_din hu (pe_tup (pa_cons (pe_ix ix_tup (pv 0) pe_int (fun _ _=>rfl)) (pa_cons (pe_ix ix_tup (pv 0) pe_int (fun _ _=>rfl)) pa_nil))) (pv 1)) (by with_unfolding_all rfl)))))
    (pss_one (ps_ret (pe_dget hu (pv 1) (pe_tup (pa_cons (pe_ix ix_tup (pv 0) pe_int (fun _ _=>rfl)) (pa_cons (pe_ix ix_tup (pv 0) pe_int (fun _ _=>rfl)) pa_nil))) (fun _ _=>rfl)))) pss_nil)
   (pss_one (ps_ret (pv 0)))),?_⟩
  cases hk with
  |@num p m t =>
   refine⟨_,rfl,_,_,_,_,rfl,rfl,t,(show atI [V.str "num",.int m] 0=some (.str "num") from rfl),rfl,_,rfl,ite2 (fun c=>absurd c (by decide +kernel)) (fun _=>?_)⟩
   refine⟨_,rfl,_,_,_,_,rfl,rfl,t,(show atI [V.str "num",.int m] 0=some (.str "num") from rfl),rfl,_,rfl,ite2 (fun c=>absurd c (by decide +kernel)) (fun _=>iteF ?_)⟩
   exact⟨_,rfl,q _ _ (Same.refl _) (.num t)⟩
  |@name p a b t =>
   refine⟨_,rfl,_,_,_,_,rfl,rfl,t,(show atI [V.str "name",.str a,.str b] 0=some (.str "name") from rfl),rfl,_,rfl,ite2 (fun c=>absurd c (by decide +kernel)) (fun _=>?_)⟩
   refine⟨_,rfl,_,_,_,_,rfl,rfl,t,(show atI [V.str "name",.str a,.str b] 0=some (.str "name") from rfl),rfl,_,rfl,ite2 (fun _=>?_) (fun c=>absurd (by decide +kernel) c)⟩
   refine⟨_,rfl,_,_,_,_,rfl,rfl,t,(show atI [V.str "name",.str a,.str b] 1=some (.str a) from rfl),_,rfl,_,_,_,_,rfl,rfl,t,(show atI [V.str "name",.str a,.str b] 2=some (.str b) from rfl),(by show 2≤sizeLine;decide),fun y hy=>?_⟩
   have sy:=same_new hy (.tup [.str a,.str b])
   refine⟨_,rfl,g,_,rfl,DGet.t (k:=keyN (a,b)) (sy _ _ hg) upd_same,_,rfl,?_⟩
   rcases hG (a,b) with ⟨h1,h2⟩|⟨v,k',h1,h2,h3⟩
   ·rw [h1]
    refine iteF ⟨_,rfl,q _ _ sy ?_⟩
    show KdAt K _ _ ((G (a,b)).getD (.name a b))
    rw [h2]
    exact .name (sy.tup t)
   ·rw [h1]
    refine iteT ⟨_,rfl,_,rfl,_,_,_,_,rfl,rfl,sy.tup t,(show atI [V.str "name",.str a,.str b] 1=some (.str a) from rfl),_,rfl,_,_,_,_,rfl,rfl,sy.tup t,(show atI [V.str "name",.str a,.str b] 2=some (.str b) from rfl),(by show 2≤sizeLine;decide),fun y2 hy2=>?_⟩
    have sy2:=same_new hy2 (.tup [.str a,.str b])
    refine⟨g,v,rfl,h1▸DGet.t (k:=keyN (a,b)) (sy2 _ _ (sy _ _ hg)) upd_same,q _ _ (sy.trans sy2) ?_⟩
    show KdAt K _ _ ((G (a,b)).getD (.name a b))
    rw [h2]
    exact h3.same (sy.trans sy2)
  |@pair p y z a b t ha hb =>
   have hd':1+max (Kd.depth a) (Kd.depth b)≤n+1:=hd
   refine⟨_,rfl,_,_,_,_,rfl,rfl,t,(show atI [V.str "pair",y,z] 0=some (.str "pair") from rfl),rfl,_,rfl,ite2 (fun _=>?_) (fun c=>absurd (by decide +kernel) c)⟩
   refine⟨_,rfl,_,_,_,_,rfl,rfl,t,(show atI [V.str "pair",y,z] 1=some y from rfl),_,rfl,y,g,a,kvs,G,rfl,ha,by omega,hg,hG,fun H1 v1 s1 k1=>?_⟩
   refine⟨_,rfl,_,_,_,_,rfl,rfl,s1.tup t,(show atI [V.str "pair",y,z] 2=some z from rfl),_,rfl,z,g,b,kvs,G,rfl,hb.same s1,by omega,s1 _ _ hg,hG.same s1,fun H2 v2 s2 k2=>?_⟩
   refine⟨(by show 3≤sizeLine;decide),fun c hc=>q _ _ (same_trans (same_trans s1 s2) (same_new hc _)) ?_⟩
   exact .pair (SqT.of upd_same) ((k1.same s2).same (same_new hc _)) (k2.same (same_new hc _))
end
end K41
namespace K41
open PySem L2 Kk
def AlD:Nat→PyData→Prop
 |0,_=>False
 |_+1,.none=>True
 |_+1,.int _=>True
 |_+1,.str _=>True
 |n+1,.tuple ds=>ds.length≤100∧∀d∈ds,AlD n d
 |_+1,_=>False
theorem AlD.le:∀{n m:Nat} {d:PyData},AlD n d→n≤m→AlD m d
 |0,_,_,h,_=>h.elim
 |_+1,0,_,_,h=>by omega
 |_+1,_+1,.none,_,_=>trivial
 |_+1,_+1,.int _,_,_=>trivial
 |_+1,_+1,.str _,_,_=>trivial
 |_+1,_+1,.tuple ds,h,hl=>⟨h.1,fun d hd=>AlD.le (h.2 d hd) (by omega)⟩
 |_+1,_+1,.bool _,h,_=>h.elim
 |_+1,_+1,.dict _,h,_=>h.elim
 |_+1,_+1,.list _,h,_=>h.elim
theorem dats_get{K:PySem.W.Frag}{H:Hp}:∀{xs:List V} {ds:List PyData} {i:Nat} {x:V} {d:PyData},Dats K H xs ds→xs[i]?=some x→ds[i]?=some d→Dat K H x d
 |_,_,_,_,_,.nil,e,_=>by simp at e
 |_,_,0,_,_,.cons a _,e,f=>by
  obtain rfl:=Option.some.inj e
  obtain rfl:=Option.some.inj f
  exact a
 |_,_,i+1,_,_,.cons _ b,e,f=>dats_get (i:=i) b e f
theorem dats_len{K:PySem.W.Frag}{H:Hp}:∀{xs:List V} {ds:List PyData},Dats K H xs ds→xs.length=ds.length
 |_,_,.nil=>rfl
 |_,_,.cons _ b=>congrArg (·+1) (dats_len b)
def spAlike(K:PySem.W.Frag)(n:Nat):Sp:=fun vs H Q _=>∃(x y:V) (d:PyData),vs=[x,y]∧Dat K H x d∧Dat K H y d∧AlD n d∧∀H',Same H H'→Q (.bl true) H'
theorem two_of{α:Type}{a b:α}{p:α→Prop}(ha:p a)(hb:p b):∀y∈[a,b],p y:=fun y hy=>by
 simp only [List.mem_cons,List.not_mem_nil,or_false] at hy
 rcases hy with rfl|rfl
 ·exact ha
 ·exact hb
theorem all_true(n:Nat):(List.replicate n true).all id=true:=by
 rw [List.all_eq_true]
 intro x hx
 exact(List.mem_replicate.mp hx).2
theorem kit_ss(K:PySem.W.Frag):PySem.W.kitOne K (.type "str") (.type "str")=some true:=rfl
theorem kit_si(K:PySem.W.Frag):PySem.W.kitOne K (.type "str") (.type "int")=some false:=rfl
theorem bootBoolT:bootBuiltins "bool"=some (.type "bool"):=by decide +kernel
section
variable{P:Program}{w:World}{K:PySem.W.Frag}{mg:Str→Option Value}{base:Heap}
abbrev alN:List Str:=["_law_found","_law_due"]
theorem scAlike:FnScope alN alN (defScope sAlike):=⟨rfl,rfl,rfl,by decide +kernel,rfl,by decide +kernel,by decide +kernel⟩
set_option maxHeartbeats 0 in
theorem ok_alike{f:Addr}{fd:FuncData} (F:Fun K "_law_alike" "_law_alike" sAlike f fd) (bA:Binds K fd alN []) (kA:PySem.W.keepIn K (.ref f)=true) (mA:mg "_law_alike"=some (.ref f))
  (mi:mg "isinstance"=none) (ms:mg "str"=none) (mt:mg "tuple"=none) (mI:mg "int"=none) (mb:mg "bool"=none) (ml:mg "len"=none) (mr:mg "range"=none) (ma:mg "all"=none) :
  ∀n,FnOk P w K mg base CX0 n f fd alN (spAlike K n)
 |0=>⟨fun vs H Q E h=>by obtain⟨x,y,d,rfl,_⟩:=h;rfl,fun A outer s H args us vs Q E _ _ _ _ h=>by
   obtain⟨x,y,d,_,_,_,h,_⟩:=h
   exact h.elim⟩
 |n+1=>by
  have IH:=ok_alike F bA kA mA mi ms mt mI mb ml mr ma n
  refine F.ok scAlike (fun vs H Q E h=>?_) (fun cdv A outer s H vs Q E hr h=>?_)
  ·obtain⟨x,y,d,rfl,_⟩:=h
   rfl
  obtain⟨x,y,d,rfl,hx,hy,hal,q⟩:=h
  refine⟨_,pss_cons (ps_if (pt_cmpR op_isN (pv 1) pe_non (nomark _)) (pss_one (ps_ret (pe_cmpR op_isN (pv 0) pe_non (nomark _)))) pss_nil)
   (pss_cons (ps_if (L2.pt_val (pe_callB call_isiTA rfl mi bootIsi (pa_cons (pv 1) (pa_cons (pe_bltn rfl mt bootTuple (v:=.ty "tuple") rfl) pa_nil))))
    (pss_cons (ps_if (PW.pt (pw_or (pt_not (L2.pt_val (pe_callB call_isiTA rfl mi bootIsi (pa_cons (pv 0) (pa_cons (pe_bltn rfl mt bootTuple (v:=.ty "tuple") rfl) pa_nil))))) (pw_or1 (pt_cmpR op_ne (pe_callB call_len_seq rfl ml PySem.boot_len (pa_cons (pv 0) pa_nil)) (pe_callB call_len_seq rfl ml PySem.boot_len (pa_cons (pv 1) pa_nil)) (nomark _))))) (pss_one (ps_ret pe_bl)) pss_nil)
    (pss_one (ps_ret (pe_callB (call_allB rfl) rfl ma bootAll (pa_cons (pe_comp (own:=["_law_k"]) (caps:=["_law_found","_law_due"]) (κ:=[0,1]) rfl ⟨rfl,by decide +kernel,by decide +kernel,rfl,rfl,(two_of rfl rfl),(two_of ⟨.inl rfl,rfl,.inl rfl⟩ ⟨.inl rfl,rfl,.inl rfl⟩)⟩ rfl
     (pi_range1 rfl mr (pa_cons (pe_callB call_len_seq rfl ml PySem.boot_len (pa_cons (pv 1) pa_nil)) pa_nil)) (fun _ _ _ _=>pg_name (i:=0) (show(["_law_k","_law_found","_law_due"]:List Str).Nodup from by decide +kernel) rfl (Or.inl rfl))
     (fun _ _ _ _=>pe_call IH hr rfl mA kA bA .nil pass0 (pa_cons (pe_ix (r:=rIxT K) ix_tup (pv 1) (pv 0) (fun _ _=>rfl)) (pa_cons (pe_ix (r:=rIxT K) ix_tup (pv 2) (pv 0) (fun _ _=>rfl)) pa_nil)))) pa_nil))))) pss_nil)
   (pss_cons (ps_if (L2.pt_val (pe_callB call_isi rfl mi bootIsi (pa_cons (pv 1) (pa_cons (pe_bltn rfl mI bootInt (v:=.ty "int") rfl) pa_nil))))
    (pss_one (ps_ret (pe_and (pe_callB call_isi rfl mi bootIsi (pa_cons (pv 0) (pa_cons (pe_bltn rfl mI bootInt (v:=.ty "int") rfl) pa_nil))) (pe_and (pe_not (pe_callB call_isi rfl mi bootIsi (pa_cons (pv 0) (pa_cons (pe_bltn rfl mb bootBoolT (v:=.ty "bool") rfl) pa_nil)))) (pe_one (pe_cmpR op_eq (pv 0) (pv 1) (nomark _))))))) pss_nil)
   (pss_one (ps_ret (pe_and (pe_callB call_isi rfl mi bootIsi (pa_cons (pv 0) (pa_cons (pe_bltn rfl ms bootStr (v:=.ty "str") rfl) pa_nil))) (pe_one (pe_cmpR op_eq (pv 0) (pv 1) (nomark _)))))))),?_⟩
  cases hy with
  |bl b=>exact hal.elim
  |lst _ _=>exact hal.elim
  |str s0 =>
   cases hx
   refine⟨_,rfl,rfl,_,rfl,ite2 (fun c=>absurd (of_decide_eq_true c) (by intro h;cases h)) (fun _=>?_)⟩
   refine⟨_,rfl,.str s0,rfl,.inl ⟨s0,rfl,false,rfl,iteF ?_⟩⟩
   refine⟨_,rfl,.str s0,"int",_,false,rfl,.str s0,kit_si K,false,rfl,iteF ?_⟩
   refine⟨_,rfl,.str s0,"str",_,true,rfl,.str s0,kit_ss K,true,rfl,iteT ⟨_,rfl,_,rfl,rfl,?_⟩⟩
   show Q (.bl (decide (V.str s0=V.str s0))) H
   rw [decide_eq_true rfl]
   exact q _ (Same.refl _)
  |non =>
   cases hx
   exact⟨_,rfl,rfl,_,rfl,iteT ⟨_,rfl,rfl,q _ (Same.refl _)⟩⟩
  |int i0 =>
   cases hx
   refine⟨_,rfl,rfl,_,rfl,ite2 (fun c=>absurd (of_decide_eq_true c) (by intro h;cases h)) (fun _=>?_)⟩
   refine⟨_,rfl,.int i0,rfl,.inr (.inl ⟨i0,rfl,false,rfl,iteF ?_⟩)⟩
   refine⟨_,rfl,.int i0,"int",_,true,rfl,.int i0,kit_ii K,true,rfl,iteT ?_⟩
   refine⟨_,rfl,.int i0,"int",_,true,rfl,.int i0,kit_ii K,true,rfl,iteT ?_⟩
   refine⟨_,rfl,.int i0,"bool",_,false,rfl,.int i0,kit_ib K,false,rfl,true,rfl,iteT ⟨_,rfl,_,rfl,rfl,?_⟩⟩
   show Q (.bl (decide (V.int i0=V.int i0))) H
   rw [decide_eq_true rfl]
   exact q _ (Same.refl _)
  |@tup b ys ds hb hys =>
   obtain⟨a,xs,rfl,ha,hxs⟩:∃a xs,x=.ref a∧SqT K H a xs∧Dats K H xs ds:=by
    cases hx with
    |tup h1 h2=>exact⟨_,_,rfl,h1,h2⟩
   obtain⟨h10,hall⟩:=hal
   have hxl:=dats_len hxs
   have hyl:=dats_len hys
   have hl:xs.length=ys.length:=by omega
   refine⟨_,rfl,rfl,_,rfl,ite2 (fun c=>absurd (of_decide_eq_true c) (by intro h;cases h)) (fun _=>?_)⟩
   refine⟨_,rfl,.ref b,rfl,.inr (.inr ⟨b,_,rfl,hb,true,rfl,iteT ?_⟩)⟩
   refine⟨_,rfl,.ref a,rfl,.inr (.inr ⟨a,_,rfl,ha,true,rfl,iteF ⟨_,rfl,a,_,rfl,.inr ha,_,rfl,b,_,rfl,.inr hb,rfl,_,rfl,ite2 (fun c=>?_) (fun _=>?_)⟩⟩)⟩
   ·have c':(!decide (V.int (xs.length:Int)=V.int (ys.length:Int)))=true:=c
    rw [hl,decide_eq_true rfl] at c'
    exact absurd c' (by decide)
   refine⟨_,rfl,b,_,rfl,.inr hb,_,rfl,by omega,by omega,?_⟩
   refine comp_by (J:=Itr 0 ((ys.length:Nat):Int).toNat) (xs:=rangeV 0 ((ys.length:Nat):Int).toNat) (fun i zs H3=>i≤((ys.length:Nat):Int).toNat∧Same H H3∧zs=(List.replicate i true).map V.bl) ⟨Nat.zero_le _,Same.refl _,rfl⟩ (by rw [rangeV_len];exact small (by omega)) ?_ ?_ ?_ ?_ ?_ ?_
   ·rintro i zs H3 ⟨hi,_,rfl⟩
    rw [List.length_map,List.length_replicate]
    exact Nat.le_refl _
   ·rintro i x zs H3 hx _
    exact itr_go hx
   ·rintro i zs x H3 H' hi _ hy
    rw [rangeV_len] at hi
    exact itr_yld' hi hy
   ·rintro zs H3 _
    rw [rangeV_len]
    exact Nat.le_refl _
   ·rintro i x zs H3 N hN hx ⟨hi,s3,rfl⟩
    obtain⟨hi9,rfl⟩:=rangeV_get.mp hx
    rw [Int.toNat_natCast] at hi9
    obtain⟨vy,hvy⟩:∃v,ys[i]?=some v:=⟨_,List.getElem?_eq_getElem hi9⟩
    obtain⟨vx,hvx⟩:∃v,xs[i]?=some v:=⟨_,List.getElem?_eq_getElem (by omega)⟩
    obtain⟨d0,hd0⟩:∃v,ds[i]?=some v:=⟨_,List.getElem?_eq_getElem (by omega)⟩
    have ax:atI xs (0+(i:Int))=some vx:=by rw [Int.zero_add];exact atI_nat hvx
    have ay:atI ys (0+(i:Int))=some vy:=by rw [Int.zero_add];exact atI_nat hvy
    refine⟨rfl,tYes_go ⟨_,rfl,_,rfl,a,_,_,_,rfl,rfl,s3.tup ha,ax,_,rfl,_,rfl,b,_,_,_,rfl,rfl,s3.tup hb,ay,vx,vy,d0,rfl,(dats_get hxs hvx hd0).same s3,(dats_get hys hvy hd0).same s3,hall d0 (List.mem_of_getElem? hd0),fun H4 s4=>hN _ _ ⟨by rw [Int.toNat_natCast];omega,s3.trans s4,?_⟩⟩⟩
    rw [List.replicate_succ',List.map_append]
    rfl
   ·rintro zs H3 D ⟨hi,s3,rfl⟩ hD
    refine⟨D,List.replicate _ true,rfl,SqL.of upd_same,?_⟩
    rw [all_true]
    exact q _ (s3.trans (same_new hD _))
end
end K41
namespace L2
open PySem
theorem comp_l{K:PySem.W.Frag}{l:Addr}{xs:List V}{n:Nat}{κ:List Nat}{g:TG}{tc:TT}{te:TE}{σ:St}{H:Hp}{Q:VK}(hl:SqL K H l xs)(hz:xs.length≤1000)(R:Nat→List V→Hp→Prop)(h0:R 0 [] H)(hlen:∀i ys H2,R i ys H2→ys.length≤i)
  (hs:∀i x ys H2 (N:List V→Hp→Prop),(∀ys' H',Same H H'→R (i+1) ys' H'→N ys' H')→xs[i]?=some x→Same H H2→R i ys H2→g x (blkSt n κ σ) H2 fun σ4 H4=>σ4.drop n=(blkSt n κ σ).drop n∧tc σ4 H4 fun b H5=>if b=true then te σ4 H5 fun v H6=>N (ys++[v]) H6 else N ys H5)
  (hQ:∀ys H2 D,Same H H2→R xs.length ys H2→H2 D=none→Q (.ref D) (upd H2 D (.lst ys))):CompRun n κ g tc te σ (Itl K l) H Q:=by
 have sq:∀{H2:Hp},Same H H2→SqL K H2 l xs:=fun e=>by
  rcases hl with (h|⟨o,h⟩)|h
  ·exact .inl (.inl (e _ _ h))
  ·exact .inl (.inr ⟨o,e _ _ h⟩)
  ·exact .inr h
 refine comp_by (J:=Itl K l) (xs:=xs) (fun i ys H3=>Same H H3∧R i ys H3) ⟨Same.refl _,h0⟩ (Nat.le_of_lt (small1000 hz)) ?_ ?_ ?_ ?_ ?_ ?_
 ·rintro i ys H3 ⟨_,h⟩
  exact hlen i ys H3 h
 ·rintro i u ys H3 hu ⟨s3,_⟩
  exact⟨_,_,sq s3,hu⟩
 ·rintro i ys u H3 H' hn ⟨s3,_⟩ hy
  exact⟨hy.1,hy.2 _ (sq s3)⟩
 ·rintro ys H3 ⟨s3,_⟩
  exact⟨_,sq s3,Nat.le_refl _⟩
 ·rintro i u ys H3 N hN hu ⟨s3,h⟩
  exact hs i u ys H3 N (fun ys' H' a b=>hN ys' H' ⟨a,b⟩) hu s3 h
 ·rintro ys H3 D ⟨s3,h⟩ hD
  exact hQ ys H3 D s3 h hD
theorem comp_t{K:PySem.W.Frag}{l:Addr}{xs:List V}{n:Nat}{κ:List Nat}{g:TG}{tc:TT}{te:TE}{σ:St}{H:Hp}{Q:VK}(hl:SqT K H l xs)(hz:xs.length≤1000)(R:Nat→List V→Hp→Prop)(h0:R 0 [] H)(hlen:∀i ys H2,R i ys H2→ys.length≤i)
  (hs:∀i x ys H2 (N:List V→Hp→Prop),(∀ys' H',Same H H'→R (i+1) ys' H'→N ys' H')→xs[i]?=some x→Same H H2→R i ys H2→g x (blkSt n κ σ) H2 fun σ4 H4=>σ4.drop n=(blkSt n κ σ).drop n∧tc σ4 H4 fun b H5=>if b=true then te σ4 H5 fun v H6=>N (ys++[v]) H6 else N ys H5)
  (hQ:∀ys H2 D,Same H H2→R xs.length ys H2→H2 D=none→Q (.ref D) (upd H2 D (.lst ys))):CompRun n κ g tc te σ (Itt K l) H Q:=by
 refine comp_by (J:=Itt K l) (xs:=xs) (fun i ys H3=>Same H H3∧R i ys H3) ⟨Same.refl _,h0⟩ (Nat.le_of_lt (small1000 hz)) ?_ ?_ ?_ ?_ ?_ ?_
 ·rintro i ys H3 ⟨_,h⟩
  exact hlen i ys H3 h
 ·rintro i u ys H3 hu ⟨s3,_⟩
  exact⟨_,_,s3.tup hl,hu⟩
 ·rintro i ys u H3 H' hn ⟨s3,_⟩ hy
  exact⟨hy.1,hy.2 _ (s3.tup hl)⟩
 ·rintro ys H3 ⟨s3,_⟩
  exact⟨_,s3.tup hl,Nat.le_refl _⟩
 ·rintro i u ys H3 N hN hu ⟨s3,h⟩
  exact hs i u ys H3 N (fun ys' H' a b=>hN ys' H' ⟨a,b⟩) hu s3 h
 ·rintro ys H3 D ⟨s3,h⟩ hD
  exact hQ ys H3 D s3 h hD
end L2
namespace K41
open PySem L2 Kk
theorem one_of{α:Type}{a:α}{p:α→Prop}(ha:p a):∀y∈[a],p y:=fun y hy=>by
 rw [List.mem_singleton.mp hy]
 exact ha
def PrAt(K:PySem.W.Frag)(H:Hp)(v:V)(q:Str × Kd):Prop:=∃(p:Addr) (y:V),v=.ref p∧H p=some (.tup [.str q.1,y])∧KdAt K H y q.2
def FrAt(K:PySem.W.Frag)(H:Hp)(v:V)(q:Str × (List Kd × Kd)):Prop:=∃(p:Addr) (y:V),v=.ref p∧H p=some (.tup [.str q.1,y])∧FunAt K H y q.2
theorem PrAt.same{K:PySem.W.Frag}{H H':Hp}{v:V}{q:Str × Kd}(e:Same H H')(h:PrAt K H v q):PrAt K H' v q:=by
 obtain⟨p,y,a,b,c⟩:=h
 exact⟨p,y,a,e _ _ b,c.same e⟩
theorem FrAt.same{K:PySem.W.Frag}{H H':Hp}{v:V}{q:Str × (List Kd × Kd)}(e:Same H H')(h:FrAt K H v q):FrAt K H' v q:=by
 obtain⟨p,y,a,b,c⟩:=h
 exact⟨p,y,a,e _ _ b,c.keep fun _ _ t=>e.tup t⟩
def RkAt(K:PySem.W.Frag)(H:Hp)(l:Addr)(m:List (Str × Kd)):Prop:=∃xs,H l=some (.lst xs)∧Paired (PrAt K H) xs m
def RfAt(K:PySem.W.Frag)(H:Hp)(l:Addr)(m:List (Str × (List Kd × Kd))):Prop:=∃xs,H l=some (.lst xs)∧Paired (FrAt K H) xs m
theorem RkAt.same{K:PySem.W.Frag}{H H':Hp}{l:Addr}{m:List (Str × Kd)}(e:Same H H')(h:RkAt K H l m):RkAt K H' l m:=by
 obtain⟨xs,a,b⟩:=h
 exact⟨xs,e _ _ a,Paired.mapP b fun _ _ z=>z.same e⟩
theorem RfAt.same{K:PySem.W.Frag}{H H':Hp}{l:Addr}{m:List (Str × (List Kd × Kd))}(e:Same H H')(h:RfAt K H l m):RfAt K H' l m:=by
 obtain⟨xs,a,b⟩:=h
 exact⟨xs,e _ _ a,Paired.mapP b fun _ _ z=>z.same e⟩
section
variable{P:Program}{w:World}{K:PySem.W.Frag}{mg:Str→Option Value}{base:Heap}
end
section
variable{P:Program}{w:World}{K:PySem.W.Frag}{mg:Str→Option Value}{base:Heap}
end
end K41
namespace L2
open PySem
theorem comp_r{m:Nat}{n:Nat}{κ:List Nat}{g:TG}{tc:TT}{te:TE}{σ:St}{H:Hp}{Q:VK}(hz:m≤1000)(R:Nat→List V→Hp→Prop)(h0:R 0 [] H)(hlen:∀i ys H2,R i ys H2→ys.length≤i)
  (hs:∀i ys H2 (N:List V→Hp→Prop),(∀ys' H',Same H H'→R (i+1) ys' H'→N ys' H')→i < m→Same H H2→R i ys H2→g (.int i) (blkSt n κ σ) H2 fun σ4 H4=>σ4.drop n=(blkSt n κ σ).drop n∧tc σ4 H4 fun b H5=>if b=true then te σ4 H5 fun v H6=>N (ys++[v]) H6 else N ys H5)
  (hQ:∀ys H2 D,Same H H2→R m ys H2→H2 D=none→Q (.ref D) (upd H2 D (.lst ys))):CompRun n κ g tc te σ (Itr 0 m) H Q:=by
 refine comp_by (J:=Itr 0 m) (xs:=rangeV 0 m) (fun i ys H3=>Same H H3∧R i ys H3) ⟨Same.refl _,h0⟩ (by rw [rangeV_len];exact Nat.le_of_lt (small1000 hz)) ?_ ?_ ?_ ?_ ?_ ?_
 ·rintro i ys H3 ⟨_,h⟩
  exact hlen i ys H3 h
 ·rintro i u ys H3 hu _
  exact itr_go hu
 ·rintro i ys u H3 H' hn _ hy
  rw [rangeV_len] at hn
  exact itr_yld' hn hy
 ·rintro ys H3 _
  rw [rangeV_len]
  exact Nat.le_refl _
 ·rintro i u ys H3 N hN hu ⟨s3,h⟩
  obtain⟨hi,rfl⟩:=rangeV_get.mp hu
  rw [Int.zero_add]
  exact hs i ys H3 N (fun ys' H' a b=>hN ys' H' ⟨a,b⟩) hi s3 h
 ·rintro ys H3 D ⟨s3,h⟩ hD
  rw [rangeV_len] at h
  exact hQ ys H3 D s3 h hD
end L2
namespace K41
open PySem L2 Kk
def wds(c s:Int)(n:Nat):List Str:=(List.range n).map fun(j:Nat)=>wordL c (s+(j:Int))
theorem wds_len(c s:Int)(n:Nat):(wds c s n).length=n:=by unfold wds;rw [List.length_map,List.length_range]
theorem wds_snoc(c s:Int)(n:Nat):wds c s (n+1)=wds c s n++[wordL c (s+(n:Int))]:=by
 unfold wds
 rw [List.range_succ,List.map_append]
 rfl
theorem wds_mem{c s:Int}{n:Nat}{z:Str}:z∈wds c s n↔∃j:Nat,j < n∧z=wordL c (s+(j:Int)):=by
 unfold wds
 constructor
 ·intro h
  obtain⟨j,hj,rfl⟩:=List.mem_map.mp h
  exact⟨j,List.mem_range.mp hj,rfl⟩
 ·rintro⟨j,hj,rfl⟩
  exact List.mem_map.mpr ⟨j,List.mem_range.mpr hj,rfl⟩
theorem wds_nodup(c s:Int):∀{n:Nat},n≤26→(wds c s n).Nodup
 |0,_=>.nil
 |n+1,h=>by
  rw [wds_snoc]
  refine List.nodup_append.mpr ⟨wds_nodup c s (by omega),List.nodup_cons.mpr ⟨List.not_mem_nil,.nil⟩,fun a ha b hb=>?_⟩
  obtain⟨j,hj,rfl⟩:=wds_mem.mp ha
  rw [List.mem_singleton.mp hb]
  intro e
  have:=wordL_inj e
  omega
theorem pdropR{α β:Type}{R:α→β→Prop}:∀{xs:List α} {ys:List β} (n:Nat),Paired R xs ys→Paired R (xs.drop n) (ys.drop n)
 |_,_,0,h=>h
 |_,_,_+1,.nil=>.nil
 |_,_,n+1,.cons _ b=>pdropR n b
theorem ptakeR{α β:Type}{R:α→β→Prop}:∀{xs:List α} {ys:List β} (n:Nat),Paired R xs ys→Paired R (xs.take n) (ys.take n)
 |_,_,0,_=>.nil
 |_,_,_+1,.nil=>.nil
 |_,_,n+1,.cons a b=>.cons a (ptakeR n b)
structure SomeAt(K:PySem.W.Frag)(H:Hp)(S:Kd→Prop)(so:Addr)(xs:List V)(ks:List Kd):Prop where
 obj:H so=some (.lst xs)
 at_:KdsAt K H xs ks
 len:ks.length≤50
 all:∀k∈ks,k.leaf=true∧S k
 nums:∀n:Int,0≤n→n≤10 ^ 18→S (.num n)
section
variable{P:Program}{w:World}{K:PySem.W.Frag}{mg:Str→Option Value}{base:Heap}
end
end K41
namespace K41
open PySem L2 Kk
section
variable{P:Program}{w:World}{K:PySem.W.Frag}{mg:Str→Option Value}{base:Heap}
end
end K41
namespace K41
open PySem L2 Kk
theorem puts_pk{α:Type}{R:V→α→Prop}:∀{ps:List (Key × V)} {rest:List (Str × α)} {acc:List (Key × V)} {m:List (Str × α)},PkAt R acc m→PkAt R ps rest→((m++rest).map (·.1)).Nodup→PkAt R (putsK acc ps) (m++rest)
 |[],_,acc,m,ha,.nil,_=>by
  rw [List.append_nil]
  exact ha
 |p::ps,_,acc,m,ha,.cons (b:=q) (l₂:=rest) ⟨e,hv⟩ hb,hn=>by
  have hz:q.1∉m.map (·.1):=fun hm=>by
   rw [List.map_append,List.map_cons] at hn
   exact(List.nodup_append.mp hn).2.2 _ hm _ (List.mem_cons_self ..) rfl
  have h1:PkAt R (putK acc p.1 p.2) (m++[q]):=by
   rw [e]
   exact PkAt.put ha hz hv
  have h2:=puts_pk (ps:=ps) (rest:=rest) h1 hb (by rw [List.append_assoc];exact hn)
  rw [List.append_assoc] at h2
  exact h2
theorem rows_split{α:Type}{R:V→α→Prop}{H:Hp}:∀{xs:List V} {m:List (Str × α)},Paired (fun v (q:Str × α)=>∃(p:Addr) (y:V),v=.ref p∧H p=some (.tup [.str q.1,y])∧R y q.2) xs m →
  ∃(as:List Addr) (ps:List (Key × V)),xs=as.map V.ref∧Paired (fun(p:Key × V) (a:Addr)=>H a=some (.tup [kV p.1,p.2])) ps as∧PkAt R ps m
 |_,_,.nil=>⟨[],[],rfl,.nil,.nil⟩
 |_,_,.cons (b:=q) ⟨p,y,e,hp,hy⟩ b=>by
  obtain⟨as,ps,rfl,h1,h2⟩:=rows_split b
  exact⟨p::as,(.inr q.1,y)::ps,by rw [e];rfl,.cons hp h1,.cons ⟨rfl,hy⟩ h2⟩
theorem rk_dict{K:PySem.W.Frag}{H:Hp}{l:Addr}{m:List (Str × Kd)}(h:RkAt K H l m)(hn:(m.map (·.1)).Nodup):∃(as:List Addr) (ps:List (Key × V)),H l=some (.lst (as.map V.ref))∧Paired (fun(p:Key × V) (a:Addr)=>H a=some (.tup [kV p.1,p.2])) ps as∧ps.length=m.length∧PkAt (KdAt K H) (putsK [] ps) m:=by
 obtain⟨xs,h1,h2⟩:=h
 obtain⟨as,ps,rfl,h3,h4⟩:=rows_split h2
 exact⟨as,ps,h1,h3,Paired.length h4,puts_pk (acc:=[]) (m:=[]) .nil h4 hn⟩
theorem rf_dict{K:PySem.W.Frag}{H:Hp}{l:Addr}{m:List (Str × (List Kd × Kd))}(h:RfAt K H l m)(hn:(m.map (·.1)).Nodup):∃(as:List Addr) (ps:List (Key × V)),H l=some (.lst (as.map V.ref))∧Paired (fun(p:Key × V) (a:Addr)=>H a=some (.tup [kV p.1,p.2])) ps as∧ps.length=m.length∧PkAt (FunAt K H) (putsK [] ps) m:=by
 obtain⟨xs,h1,h2⟩:=h
 obtain⟨as,ps,rfl,h3,h4⟩:=rows_split h2
 exact⟨as,ps,h1,h3,Paired.length h4,puts_pk (acc:=[]) (m:=[]) .nil h4 hn⟩
end K41
namespace K41
open PySem L2 Kk
theorem key_uniq{α:Type}:∀{m:List (Str × α)} {z:Str} {a b:α},(m.map (·.1)).Nodup→(z,a)∈m→(z,b)∈m→a=b
 |p::m,z,a,b,nd,ha,hb=>by
  rw [List.map_cons] at nd
  obtain⟨h1,h2⟩:=List.nodup_cons.mp nd
  rcases List.mem_cons.mp ha with ea|ha
  ·rcases List.mem_cons.mp hb with eb|hb
   ·have:=ea.trans eb.symm
    injection this
   ·exact absurd (List.mem_map.mpr ⟨_,hb,by rw [←ea]⟩) h1
  ·rcases List.mem_cons.mp hb with eb|hb
   ·exact absurd (List.mem_map.mpr ⟨_,ha,by rw [←eb]⟩) h1
   ·exact key_uniq h2 ha hb
theorem look_of_get{α:Type}{m:List (Str × α)}(nd:(m.map (·.1)).Nodup){z:Str}{x:α}(h:(z,x)∈m):look m z=some x:=by
 unfold look
 cases e:m.find? fun q=>decide (q.1=z) with
 |none =>
  rw [List.find?_eq_none] at e
  exact absurd (decide_eq_true rfl) (e _ h)
 |some q =>
  have h1:=List.mem_of_find?_eq_some e
  have h2:q.1=z:=by
   have h3:=List.find?_some e
   exact of_decide_eq_true h3
  obtain⟨a,b⟩:=q
  replace h2:a=z:=h2
  subst h2
  rw [key_uniq nd h h1]
  rfl
theorem get_of_look{α:Type}{m:List (Str × α)}{z:Str}{x:α}(h:look m z=some x):(z,x)∈m:=by
 unfold look at h
 obtain⟨q,hq,e⟩:=Option.map_eq_some_iff.mp h
 have h1:=List.mem_of_find?_eq_some hq
 have h2:q.1=z:=by
  have h3:=List.find?_some hq
  exact of_decide_eq_true h3
 obtain⟨a,b⟩:=q
 replace h2:a=z:=h2
 replace e:b=x:=e
 rw [←h2,←e]
 exact h1
theorem look_app{α:Type}(xs ys:List (Str × α))(z:Str):look (xs++ys) z=(look xs z).or (look ys z):=by
 unfold look
 rw [List.find?_append]
 cases (xs.find? fun q=>decide (q.1=z))<;>rfl
theorem look_none{α:Type}{m:List (Str × α)}{z:Str}(h:z∉m.map (·.1)):look m z=none:=by
 cases e:look m z with
 |none=>rfl
 |some x=>exact absurd (List.mem_map.mpr ⟨_,get_of_look e,rfl⟩) h
end K41
namespace K41
open PySem L2 Kk
def rowD{α:Type}(D:α→PyData)(q:Str × α):PyData:=.tuple [.str q.1,D q.2]
theorem it_dats{α:Type}{K:PySem.W.Frag}{H:Hp}{R:V→α→Prop}{D:α→PyData}(hD:∀v x,R v x→Dat K H v (D x)):∀{kvs:List (Key × V)} {m:List (Str × α)} {as:List Addr},PkAt R kvs m→Paired (fun(p:Key × V) (k:Addr)=>H k=some (.tup [kV p.1,p.2])) kvs as→Dats K H (as.map V.ref) (m.map (rowD D))
 |_,_,_,.nil,.nil=>.nil
 |_,_,_,.cons ⟨e,hr⟩ b,.cons hk c=>by
  rw [e] at hk
  exact .cons (.tup (SqT.of hk) (.cons (.str _) (.cons (hD _ _ hr) .nil))) (it_dats hD b c)
theorem rows_dats{α:Type}{K:PySem.W.Frag}{H:Hp}{R:V→α→Prop}{D:α→PyData}(hD:∀v x,R v x→Dat K H v (D x)):∀{xs:List V} {m:List (Str × α)},Paired (fun v (q:Str × α)=>∃(p:Addr) (y:V),v=.ref p∧H p=some (.tup [.str q.1,y])∧R y q.2) xs m→Dats K H xs (m.map (rowD D))
 |_,_,.nil=>.nil
 |_,_,.cons ⟨p,y,e,hp,hr⟩ b=>by
  rw [e]
  exact .cons (.tup (SqT.of hp) (.cons (.str _) (.cons (hD _ _ hr) .nil))) (rows_dats hD b)
theorem ald_rows{α:Type}{D:α→PyData}{m:List (Str × α)}{n:Nat}(hl:m.length≤100)(h:∀q∈m,AlD (n+1) (D q.2)):AlD (n+3) (.tuple (m.map (rowD D))):=by
 refine⟨by rw [List.length_map];exact hl,fun d hd=>?_⟩
 obtain⟨q,hq,rfl⟩:=List.mem_map.mp hd
 refine⟨by show 2≤100;decide,fun d hd=>?_⟩
 rcases List.mem_cons.mp hd with rfl|hd
 ·trivial
 ·rw [List.mem_singleton.mp hd]
  exact h q hq
abbrev smP:List Str:=["_law_face","_law_kinds","_law_funs"]
def AlM(m1:List (Str × Kd))(m2:List (Str × (List Kd × Kd))):Prop:=m1.length≤100∧m2.length≤100∧(∀q∈m1,AlD 40 (Kd.dat q.2))∧∀q∈m2,AlD 40 (Fn.dat q.2)
def spSame(K:PySem.W.Frag)(CF:Addr):Sp:=fun vs H Q _=>∃(fa l1 l2:Addr) (m1:List (Str × Kd)) (m2:List (Str × (List Kd × Kd))),vs=[.ref fa,.ref l1,.ref l2]∧FaceF K H CF fa m1 m2∧RkAt K H l1 m1∧RfAt K H l2 m2∧AlM m1 m2∧∀H',Same H H'→Q (.bl true) H'
theorem bootIsi:bootBuiltins "isinstance"=some (.builtin "isinstance"):=by decide +kernel
theorem kit_dd(K:PySem.W.Frag):PySem.W.kitOne K (.type "dict") (.type "dict")=some true:=rfl
section
variable{P:Program}{w:World}{K:PySem.W.Frag}{mg:Str→Option Value}{base:Heap}
theorem scSame:FnScope smP smP (defScope sSame):=⟨rfl,rfl,rfl,by decide +kernel,rfl,by decide +kernel,by decide +kernel⟩
set_option maxHeartbeats 0 in
theorem ok_same{f fl CF:Addr}{fd fdl:FuncData} (F:Fun K "_law_same" "_law_same" sSame f fd)
  (GL:FnOk P w K mg base CX0 42 fl fdl alN (spAlike K 42)) (bL:Binds K fdl alN []) (kL:PySem.W.keepIn K (.ref fl)=true) (mL:mg "_law_alike"=some (.ref fl))
  (mF:mg "Face"=some (.ref CF)) (mi:mg "isinstance"=none) (md:mg "dict"=none) (mt:mg "tuple"=none) (cF:Cls K CF) (nK:NoAttr K CF "kinds") (nF:NoAttr K CF "funs")
  (clF:PySem.W.findIn K (.ref CF) "__class__"=some (some (.builtin "object.__class__"))) (sp:PySem.W.specialIn K (.builtin "object.__class__") "__get__"=some (some (.builtin "getset_descriptor.__get__"))) (tk1:PySem.W.takesIn K (.builtin "object.__class__")=some true) (obF:PySem.W.mroIn K CF (.type "object")=some true) (j5:PySem.W.kitOne K (.ref CF) (.ref CF)=some true) :
  FnOk P w K mg base CX0 43 f fd smP (spSame K CF):=by
 refine F.ok scSame (fun vs H Q E h=>?_) (fun cdv A outer s H vs Q E hr h=>?_)
 ·obtain⟨fa,l1,l2,m1,m2,rfl,_⟩:=h
  rfl
 obtain⟨fa,l1,l2,m1,m2,rfl,hF,hR1,hR2,hal,q⟩:=h
 refine⟨_,@pss_cons _ _ _ _ _ (ps_if (PW.pt (pw_or (pt_not (L2.pt_val (pe_callB call_isiT rfl mi bootIsi (@pa_cons _ _ _ _ _ (pv 0) (@pa_cons _ _ _ _ _ (pe_glob rfl mF (v:=.ref CF) rfl) pa_nil rfl) rfl)))) (pw_or (pt_not (L2.pt_val (pe_callB call_isiT rfl mi bootIsi (@pa_cons _ _ _ _ _ (pe_fld (pv 0) rfl) (@pa_cons _ _ _ _ _ (pe_bltn rfl md bootDict (v:=.ty "dict") rfl) pa_nil rfl) rfl)))) (pw_or1 (pt_not (L2.pt_val (pe_callB call_isiT rfl mi bootIsi (@pa_cons _ _ _ _ _ (pe_fld (pv 0) rfl) (@pa_cons _ _ _ _ _ (pe_bltn rfl md bootDict (v:=.ty "dict") rfl) pa_nil rfl) rfl)))))))) (@pss_one _ _ _ (@ps_ret _ _ _ _ pe_bl)) pss_nil)
  (@pss_cons _ _ _ _ _ (ps_if (pt_not (L2.pt_val (pe_call GL hr rfl mL kL bL .nil pass0 (@pa_cons _ _ _ _ _ (pe_callTy (call_tuple_itemsV rfl) rfl mt bootTuple (@pa_cons _ _ _ _ _ (pe_bm0 PySem.F.plainAttrs_dict PySem.F.slot_dict_items PySem.F.type_dict_items mt_items (pe_fld (pv 0) rfl)) pa_nil rfl)) (@pa_cons _ _ _ _ _ (pe_callTy call_tuple_of rfl mt bootTuple (@pa_cons _ _ _ _ _ (pv 1) pa_nil rfl)) pa_nil rfl) rfl)))) (@pss_one _ _ _ (@ps_ret _ _ _ _ pe_bl)) pss_nil)
  (@pss_one _ _ _ (@ps_ret _ _ _ _ (pe_call GL hr rfl mL kL bL .nil pass0 (@pa_cons _ _ _ _ _ (pe_callTy (call_tuple_itemsV rfl) rfl mt bootTuple (@pa_cons _ _ _ _ _ (pe_bm0 PySem.F.plainAttrs_dict PySem.F.slot_dict_items PySem.F.type_dict_items mt_items (pe_fld (pv 0) rfl)) pa_nil rfl)) (@pa_cons _ _ _ _ _ (pe_callTy call_tuple_of rfl mt bootTuple (@pa_cons _ _ _ _ _ (pv 2) pa_nil rfl)) pa_nil rfl) rfl))))),?_⟩
 obtain⟨dx,d1,d2,fs,kv1,kv2,hfa,lk,lf,hd1,hd2,hk1,hk2,_,_⟩:=id hF
 obtain⟨a1,a2,a3,a4⟩:=hal
 refine⟨_,rfl,.ref fa,.ref CF,.ref CF,.ref CF,true,rfl,(fun _ z=>z),.ins hfa cF clF sp tk1 obF,j5,true,rfl,iteF ?_⟩
 refine⟨_,rfl,fa,CF,dx,fs,_,rfl,hfa,cF,nK,lk,.ref d1,.ty "dict",.type "dict",.type "dict",true,rfl,(fun _ z=>by cases z;rfl),.dK hd1,kit_dd K,true,rfl,iteF ?_⟩
 refine⟨_,rfl,fa,CF,dx,fs,_,rfl,hfa,cF,nF,lf,.ref d2,.ty "dict",.type "dict",.type "dict",true,rfl,(fun _ z=>by cases z;rfl),.dK hd2,kit_dd K,true,rfl,iteF ?_⟩
 obtain⟨xs1,hl1,hx1⟩:=id hR1
 refine⟨_,rfl,fa,CF,dx,fs,_,rfl,hfa,cF,nK,lk,.inr (.inr (.inl ⟨rfl,.inl ⟨_,hd1⟩⟩)),d1,kv1,rfl,rfl,hd1,fun v hv=>?_⟩
 have s1:=same_new hv (.ext (itemsAt v d1))
 refine⟨v,d1,kv1,rfl,upd_same,s1 _ _ hd1,fun H2 as l s2 hl ha h2 hp=>?_⟩
 have s12:=Same.trans s1 s2
 refine⟨_,rfl,l1,xs1,rfl,.inl ⟨SqL.of (s12 _ _ hl1),fun l' hl'=>?_⟩⟩
 have s3:=same_new hl' (.tup xs1)
 have s13:=s12.trans s3
 refine⟨.ref l,.ref l',.tuple (m1.map (rowD Kd.dat)),rfl,.tup (SqT.of (s3 _ _ h2)) (it_dats (R:=KdAt K _) (fun _ _ h=>kd_dat h) (hk1.imp fun _ _ h=>h.same s13) (Paired.mapP hp fun _ _ h=>s3 _ _ h)),.tup (SqT.of upd_same) (rows_dats (R:=KdAt K _) (fun _ _ h=>kd_dat h) (Paired.mapP hx1 fun _ _ h=>PrAt.same s13 h)),ald_rows (n:=39) a1 a3,fun H4 s4=>⟨true,rfl,iteF ?_⟩⟩
 have sA:=s13.trans s4
 obtain⟨xs2,hl2,hx2⟩:=id (hR2.same sA)
 refine⟨_,rfl,fa,CF,dx,fs,_,rfl,sA _ _ hfa,cF,nF,lf,.inr (.inr (.inl ⟨rfl,.inl ⟨_,sA _ _ hd2⟩⟩)),d2,kv2,rfl,rfl,sA _ _ hd2,fun v' hv'=>?_⟩
 have t1:=same_new hv' (.ext (itemsAt v' d2))
 refine⟨v',d2,kv2,rfl,upd_same,t1 _ _ (sA _ _ hd2),fun H5 as' l3 t2 hl3 ha' h5 hp'=>?_⟩
 have t12:=Same.trans t1 t2
 refine⟨_,rfl,l2,xs2,rfl,.inl ⟨SqL.of (t12 _ _ hl2),fun l4 hl4=>?_⟩⟩
 have t3:=same_new hl4 (.tup xs2)
 have t13:=t12.trans t3
 exact⟨.ref l3,.ref l4,.tuple (m2.map (rowD Fn.dat)),rfl,.tup (SqT.of (t3 _ _ h5)) (it_dats (R:=FunAt K _) (fun _ _ h=>fn_dat h) (hk2.imp fun _ _ h=>h.keep fun _ _ t=>(sA.trans t13).tup t) (Paired.mapP hp' fun _ _ h=>t3 _ _ h)),.tup (SqT.of upd_same) (rows_dats (R:=FunAt K _) (fun _ _ h=>fn_dat h) (Paired.mapP hx2 fun _ _ h=>FrAt.same t13 h)),ald_rows (n:=39) a2 a4,fun H6 s6=>q _ (sA.trans (t13.trans s6))⟩
end
end K41
namespace K41
open PySem L2 Kk
inductive It where
 |kind (w:Str) (k:Kd)
 |fn (w:Str) (ps:List (Str × Kd)) (k:Kd)
 |opn (p:Str)
abbrev Rows1:=List (Str × Kd)
abbrev Rows2:=List (Str × (List Kd × Kd))
abbrev Parts:=List (Str × (Rows1 × Rows2))
inductive FR where
 |ok (m1:Rows1) (m2:Rows2)
 |ref (c:Nat)
inductive Nr where
 |ok (k:Kd)
 |no (c:Nat)
inductive Nrs where
 |ok (ks:List Kd)
 |no (c:Nat)
def PGof(parts:Parts):Str→Option (Str→Option Kd):=fun q=>(look parts q).map fun r=>look r.1
def tl(m1:Rows1)(parts:Parts):Str × Str→Option Kd:=tell (look m1) (PGof parts)
def norm(T:Str × Str→Option Kd)(M:Int)(k:Kd):Nr:=if (∃n∈Kd.names k,T n=none) then .no 2 else if ((Kd.put T k).words:Int) > M then .no 3 else .ok (Kd.put T k)
def norms(T:Str × Str→Option Kd)(M:Int):List Kd→Nrs
 |[]=>.ok []
 |k::ks=>match norm T M k with
  |.no c=>.no c
  |.ok k'=>match norms T M ks with
   |.no c=>.no c
   |.ok l=>.ok (k'::l)
def addAll{α:Type}:List (Str × α)→List (Str × α)→Option (List (Str × α))
 |m,[]=>some m
 |m,q::qs=>if q.1∈m.map (·.1) then none else addAll (m++[q]) qs
def stepF(parts:Parts)(M:Int)(m1:Rows1)(m2:Rows2):It→FR
 |.kind w k=>match norm (tl m1 parts) M k with
  |.no c=>.ref c
  |.ok k'=>if w∈m1.map (·.1) then .ref 0 else .ok (m1++[(w,k')]) m2
 |.fn w ps k=>match norms (tl m1 parts) M (ps.map (·.2)) with
  |.no c=>.ref c
  |.ok ks=>match norm (tl m1 parts) M k with
   |.no c=>.ref c
   |.ok k'=>if w∈m2.map (·.1) then .ref 0 else .ok m1 (m2++[(w,(ks,k'))])
 |.opn p=>match look parts p with
  |none=>.ref 1
  |some r=>match addAll m1 r.1 with
   |none=>.ref 0
   |some n1=>match addAll m2 r.2 with
    |none=>.ref 0
    |some n2=>.ok n1 n2
def stepR(parts:Parts)(M:Int):FR→It→FR
 |.ref c,_=>.ref c
 |.ok m1 m2,it=>stepF parts M m1 m2 it
def runF(parts:Parts)(M:Int)(its:List It):FR:=its.foldl (stepR parts M) (.ok [] [])
theorem runF_app(parts:Parts)(M:Int)(a b:List It):runF parts M (a++b)=b.foldl (stepR parts M) (runF parts M a):=by
 unfold runF
 rw [List.foldl_append]
theorem fold_ref(parts:Parts)(M:Int)(c:Nat):∀b:List It,b.foldl (stepR parts M) (.ref c)=.ref c
 |[]=>rfl
 |_::b=>fold_ref parts M c b
def KB(k:Kd):Prop:=Kd.ok k∧k.words≤60
def ItK(k:Kd):Prop:=Kd.ok k∧k.leaves.length≤21∧(k.leaves.length≤3∨Kd.names k=[])
def Ok1(m1:Rows1):Prop:=∀q∈m1,okW q.1∧KB q.2
def Ok2(m2:Rows2):Prop:=∀q∈m2,okW q.1∧q.2.1.length≤4∧∀k∈q.2.2::q.2.1,KB k
def PaOk(parts:Parts):Prop:=∀r∈parts,Ok1 r.2.1∧Ok2 r.2.2∧r.2.1.length≤2∧r.2.2.length≤2∧(r.2.1.map (·.1)).Nodup∧(r.2.2.map (·.1)).Nodup∧okW r.1
def ItOk:It→Prop
 |.kind w k=>okW w∧ItK k
 |.fn w ps k=>okW w∧ps.length≤4∧(∀q∈ps,ItK q.2)∧ItK k
 |.opn p=>okW p
theorem leaves_words:∀k:Kd,k.words+1=2*k.leaves.length
 |.num n=>rfl
 |.name q t=>rfl
 |.pair a b=>by
  have h1:=leaves_words a
  have h2:=leaves_words b
  show(1+a.words+b.words)+1=2*(a.leaves++b.leaves).length
  rw [List.length_append]
  omega
theorem put_same{G:Str × Str→Option Kd}:∀{k:Kd},Kd.names k=[]→Kd.put G k=k
 |.num n,_=>rfl
 |.name q t,h=>by cases h
 |.pair a b,h=>by
  have h':Kd.names a++Kd.names b=[]:=h
  have ha:Kd.names a=[]:=(List.append_eq_nil_iff.mp h').1
  have hb:Kd.names b=[]:=(List.append_eq_nil_iff.mp h').2
  show Kd.pair (Kd.put G a) (Kd.put G b)=Kd.pair a b
  rw [put_same ha,put_same hb]
theorem itk_put{G:Str × Str→Option Kd}(hG:∀n g,G n=some g→KB g){k:Kd}(h:ItK k):(Kd.put G k).words≤900∧Kd.ok (Kd.put G k):=by
 refine⟨?_,put_okK (fun n g e=>(hG n g e).1) h.1⟩
 rcases h.2.2 with h3|h3
 ·have e:=put_leaves (G:=G) (c:=31) (by decide) (fun n g e=>by
   have:=leaves_words g
   have:=(hG n g e).2
   omega) k
  have:=leaves_words (Kd.put G k)
  omega
 ·rw [put_same h3]
  have:=leaves_words k
  have:=h.2.1
  omega
theorem look_mem{α:Type}{m:List (Str × α)}{z:Str}{x:α}(h:look m z=some x):(z,x)∈m:=get_of_look h
theorem tl_kb{m1:Rows1}{parts:Parts}(h1:Ok1 m1)(hp:PaOk parts):∀n g,tl m1 parts n=some g→KB g:=fun n g e=>by
 unfold tl tell at e
 by_cases c:n.1=""
 ·rw [if_pos c] at e
  exact(h1 _ (look_mem e)).2
 ·rw [if_neg c] at e
  unfold PGof at e
  cases hq:look parts n.1 with
  |none=>rw [hq] at e;cases e
  |some r =>
   rw [hq] at e
   exact((hp _ (look_mem hq)).1 _ (look_mem (show look r.1 n.2=some g from e))).2
def ItAt(K:PySem.W.Frag)(H:Hp)(v:V):It→Prop
 |.kind w k=>∃(p:Addr) (y:V),v=.ref p∧SqT K H p [.str "kind",.str w,y]∧KdAt K H y k
 |.fn w ps k=>∃(p ta:Addr) (y z:V) (xs:List V),v=.ref p∧SqT K H p [.str "fun",.str w,.ref ta,y,z]∧SqT K H ta xs∧WithsAt K H xs ps∧KdAt K H y k
 |.opn q=>∃(p:Addr),v=.ref p∧SqT K H p [.str "open",.str q]
theorem WithAt.keep{K:PySem.W.Frag}{H H':Hp}{v:V}{q:Str × Kd}(e:∀a xs,SqT K H a xs→SqT K H' a xs)(h:WithAt K H v q):WithAt K H' v q:=by
 obtain⟨p,y,h1,h2,h3⟩:=h
 exact⟨p,y,h1,e _ _ h2,kd_keep e h3⟩
theorem ItAt.keep{K:PySem.W.Frag}{H H':Hp}{v:V}(e:∀a xs,SqT K H a xs→SqT K H' a xs):∀{it:It},ItAt K H v it→ItAt K H' v it
 |.kind w k,⟨p,y,h1,h2,h3⟩=>⟨p,y,h1,e _ _ h2,kd_keep e h3⟩
 |.fn w ps k,⟨p,ta,y,z,xs,h1,h2,h3,h4,h5⟩=>⟨p,ta,y,z,xs,h1,e _ _ h2,e _ _ h3,Paired.mapP h4 fun _ _ t=>t.keep e,kd_keep e h5⟩
 |.opn q,⟨p,h1,h2⟩=>⟨p,h1,e _ _ h2⟩
theorem ItAt.same{K:PySem.W.Frag}{H H':Hp}{v:V}{it:It}(e:Same H H')(h:ItAt K H v it):ItAt K H' v it:=h.keep fun _ _ t=>e.tup t
def PtsAt(K:PySem.W.Frag)(H:Hp)(CF pa:Addr)(parts:Parts):Prop:=∃pkv,H pa=some (.dK pkv)∧PkAt (fun v (r:Rows1 × Rows2)=>∃fa,v=.ref fa∧FaceF K H CF fa r.1 r.2) pkv parts
theorem PtsAt.same{K:PySem.W.Frag}{H H':Hp}{CF pa:Addr}{parts:Parts}(e:Same H H')(h:PtsAt K H CF pa parts):PtsAt K H' CF pa parts:=by
 obtain⟨pkv,h1,h2⟩:=h
 exact⟨pkv,e _ _ h1,h2.imp fun v r ⟨fa,e1,e2⟩=>⟨fa,e1,e2.same e⟩⟩
structure FullA(K:PySem.W.Frag)(H:Hp)(CF fa d1 d2 dx:Addr)(fs:List (Str × V))(kv1 kv2:List (Key × V))(m1:Rows1)(m2:Rows2):Prop where
 obj:H fa=some (.ins CF dx fs)
 fk:fs.lookup ("kinds":Str)=some (.ref d1)
 ff:fs.lookup ("funs":Str)=some (.ref d2)
 h1:H d1=some (.dK kv1)
 h2:H d2=some (.dK kv2)
 p1:PkAt (KdAt K H) kv1 m1
 p2:PkAt (FunAt K H) kv2 m2
 nh:fs.lookup ("hidden":Str)=none
 np:fs.lookup ("put":Str)=none
 ne:d1≠d2
def FullAt(K:PySem.W.Frag)(H:Hp)(CF fa d1 d2:Addr)(m1:Rows1)(m2:Rows2):Prop:=∃dx fs kv1 kv2,FullA K H CF fa d1 d2 dx fs kv1 kv2 m1 m2
theorem FullAt.same{K:PySem.W.Frag}{H H':Hp}{CF fa d1 d2:Addr}{m1:Rows1}{m2:Rows2}(e:Same H H')(h:FullAt K H CF fa d1 d2 m1 m2):FullAt K H' CF fa d1 d2 m1 m2:=by
 obtain⟨dx,fs,kv1,kv2,F⟩:=h
 exact⟨dx,fs,kv1,kv2,e _ _ F.obj,F.fk,F.ff,e _ _ F.h1,e _ _ F.h2,F.p1.imp fun _ _ t=>t.same e,F.p2.imp fun _ _ t=>t.keep fun _ _ t=>e.tup t,F.nh,F.np,F.ne⟩
theorem FullAt.faceF{K:PySem.W.Frag}{H:Hp}{CF fa d1 d2:Addr}{m1:Rows1}{m2:Rows2}(h:FullAt K H CF fa d1 d2 m1 m2):FaceF K H CF fa m1 m2:=by
 obtain⟨dx,fs,kv1,kv2,F⟩:=h
 exact⟨dx,d1,d2,fs,kv1,kv2,F.obj,F.fk,F.ff,F.h1,F.h2,F.p1,F.p2,F.nh,F.np⟩
theorem FullA.put1{K:PySem.W.Frag}{H:Hp}{CF fa d1 d2 dx:Addr}{fs:List (Str × V)}{kv1 kv2:List (Key × V)}{m1:Rows1}{m2:Rows2}(F:FullA K H CF fa d1 d2 dx fs kv1 kv2 m1 m2){z:Str}{v:V}{k:Kd}(hz:z∉m1.map (·.1))(hv:KdAt K H v k) :
  FullA K (upd H d1 (.dK (putK kv1 (.inr z) v))) CF fa d1 d2 dx fs (putK kv1 (.inr z) v) kv2 (m1++[(z,k)]) m2:=by
 have kp:∀b xs,SqT K H b xs→SqT K (upd H d1 (.dK (putK kv1 (.inr z) v))) b xs:=fun b xs h=>sqt_dk F.h1 h
 refine⟨?_,F.fk,F.ff,upd_same,?_,?_,F.p2.imp fun _ _ t=>t.keep kp,F.nh,F.np,F.ne⟩
 ·rw [upd_ne (fun e=>by have:=F.obj;rw [e,F.h1] at this;cases this)]
  exact F.obj
 ·rw [upd_ne (Ne.symm F.ne)]
  exact F.h2
 ·exact PkAt.put (F.p1.imp fun _ _ t=>kd_keep kp t) hz (kd_keep kp hv)
theorem FullA.put2{K:PySem.W.Frag}{H:Hp}{CF fa d1 d2 dx:Addr}{fs:List (Str × V)}{kv1 kv2:List (Key × V)}{m1:Rows1}{m2:Rows2}(F:FullA K H CF fa d1 d2 dx fs kv1 kv2 m1 m2){z:Str}{v:V}{g:List Kd × Kd}(hz:z∉m2.map (·.1))(hv:FunAt K H v g) :
  FullA K (upd H d2 (.dK (putK kv2 (.inr z) v))) CF fa d1 d2 dx fs kv1 (putK kv2 (.inr z) v) m1 (m2++[(z,g)]):=by
 have kp:∀b xs,SqT K H b xs→SqT K (upd H d2 (.dK (putK kv2 (.inr z) v))) b xs:=fun b xs h=>sqt_dk F.h2 h
 refine⟨?_,F.fk,F.ff,?_,upd_same,F.p1.imp fun _ _ t=>kd_keep kp t,?_,F.nh,F.np,F.ne⟩
 ·rw [upd_ne (fun e=>by have:=F.obj;rw [e,F.h2] at this;cases this)]
  exact F.obj
 ·rw [upd_ne F.ne]
  exact F.h1
 ·exact PkAt.put (F.p2.imp fun _ _ t=>t.keep kp) hz (hv.keep kp)
theorem pk_in{α:Type}{R:V→α→Prop}{kvs:List (Key × V)}{m:List (Str × α)}(h:PkAt R kvs m)(z:Str):(valV kvs (.inr z)).isSome=decide (z∈m.map (·.1)):=by
 rcases look_val h z with ⟨h1,h2⟩|⟨v,x,h1,h2,_⟩
 ·rw [h1]
  refine(decide_eq_false fun hm=>?_).symm
  obtain⟨q,hq,e⟩:=List.mem_map.mp hm
  unfold look at h2
  rw [Option.map_eq_none_iff,List.find?_eq_none] at h2
  exact h2 q hq (decide_eq_true e)
 ·rw [h1]
  exact(decide_eq_true (List.mem_map.mpr ⟨_,look_mem h2,rfl⟩)).symm
theorem pk_kv{K:PySem.W.Frag}{H:Hp}{kvs:List (Key × V)}{m:Rows1}(h:PkAt (KdAt K H) kvs m):KvAt K H kvs (look m):=fun t=>by
 rcases look_val h t with ⟨h1,h2⟩|⟨v,x,h1,h2,h3⟩
 ·exact .inl ⟨h1,h2⟩
 ·exact .inr ⟨v,x,h1,h2,h3⟩
theorem pts_pg{K:PySem.W.Frag}{H:Hp}{CF:Addr}{pkv:List (Key × V)}{parts:Parts}(h:PkAt (fun v (r:Rows1 × Rows2)=>∃fa,v=.ref fa∧FaceF K H CF fa r.1 r.2) pkv parts):PartsAt K H CF pkv (PGof parts):=fun q=>by
 rcases look_val h q with ⟨h1,h2⟩|⟨v,r,h1,h2,fa,e,dx,d1,d2,fs,kv1,kv2,f1,f2,f3,f4,f5,f6,_⟩
 ·exact .inl ⟨h1,by unfold PGof;rw [h2];rfl⟩
 ·exact .inr ⟨v,look r.1,h1,by unfold PGof;rw [h2];rfl,fa,dx,fs,d1,kv1,e,f1,f2,f4,pk_kv f6⟩
abbrev aoP:List Str:=["told","word","what"]
def spAdd(CW:Addr):Sp:=fun vs H Q E=>∃(d:Addr) (z:Str) (x:V) (kvs:List (Key × V)),vs=[.ref d,.str z,x]∧okW z∧H d=some (.dK kvs)∧kvs.length≤200 ∧
 (((valV kvs (.inr z)).isSome=true∧E (.ref CW) none H)∨((valV kvs (.inr z)).isSome=false∧Q .non (upd H d (.dK (putK kvs (.inr z) x)))))
section
variable{P:Program}{w:World}{K:PySem.W.Frag}{mg:Str→Option Value}{base:Heap}
theorem scAdd:FnScope aoP aoP (defScope sAddOnce):=⟨rfl,rfl,rfl,by decide +kernel,rfl,by decide +kernel,by decide +kernel⟩
theorem ok_add{f CW:Addr}{fd:FuncData} (F:Fun K "add_once" "add_once" sAddOnce f fd) (mW:mg "Twice"=some (.ref CW)) (xW:PySem.W.excIn K CW bmVE "ValueError.__new__"=true) :
  FnOk P w K mg base (CX1 P w) 1 f fd aoP (spAdd CW):=by
 refine F.okX scAdd (fun vs H Q E h=>?_) (fun cdv A outer s H vs Q E hr h=>?_)
 ·obtain⟨d,z,x,kvs,rfl,_⟩:=h
  rfl
 obtain⟨d,z,x,kvs,rfl,hz,hd,hl,q⟩:=h
 have hu:=hu_of hr
 have lz:z.length≤100000:=Nat.le_trans hz.2 (by decide)
 have zz:z.length≤sizeLine:=Nat.le_trans lz (by decide)
 refine⟨_,pss_cons (ps_if (pt_cmp (pc_din hu (pv 1) (pv 0)) (by with_unfolding_all rfl))
   (pss_one (ps_raise1 rfl mW xW (pa_cons (pe_fstr (pj_cons pe_str (pj_cons (pe_fv (pv 1)) (pj_cons pe_str pj_nil))) (by decide)) pa_nil))) pss_nil)
  (pss_one (ps_dput hu (pv 0) (pv 1) (pv 2) rfl)),?_⟩
 refine⟨_,rfl,_,rfl,d,_,rfl,DGet.k (k:=.inr z) hd,_,rfl,?_⟩
 rcases q with ⟨h1,hE⟩|⟨h1,hQ⟩
 ·rw [h1]
  exact iteT ⟨_,rfl,by decide +kernel,_,rfl,.inl ⟨z,rfl,zz,z,rfl,Nat.le_trans lz (by decide),_,rfl,by decide +kernel,fun z3 hz3=>⟨(by show 1≤sizeLine;decide),hE⟩⟩⟩
 ·rw [h1]
  exact iteF ⟨_,rfl,_,rfl,_,rfl,d,_,rfl,DPut.k (k:=.inr z) hd (Nat.lt_of_le_of_lt hl (by decide)),hQ⟩
end
end K41
namespace K41
open PySem L2 Kk
theorem addAll_app{α:Type}:∀(a b m:List (Str × α)),addAll m (a++b)=(addAll m a).bind fun n=>addAll n b
 |[],b,m=>rfl
 |q::a,b,m=>by
  rw [List.cons_append]
  show(if q.1∈m.map (·.1) then none else addAll (m++[q]) (a++b))=(if q.1∈m.map (·.1) then none else addAll (m++[q]) a).bind fun n=>addAll n b
  by_cases c:q.1∈m.map (·.1)
  ·rw [if_pos c,if_pos c]
   rfl
  ·rw [if_neg c,if_neg c]
   exact addAll_app a b _
theorem addAll_one{α:Type}(m:List (Str × α))(q:Str × α):addAll m [q]=if q.1∈m.map (·.1) then none else some (m++[q]):=rfl
theorem addAll_len{α:Type}:∀(b m n:List (Str × α)),addAll m b=some n→n.length=m.length+b.length
 |[],m,n,h=>by
  cases h
  rfl
 |q::b,m,n,h=>by
  unfold addAll at h
  by_cases c:q.1∈m.map (·.1)
  ·rw [if_pos c] at h
   cases h
  ·rw [if_neg c] at h
   have:=addAll_len b _ _ h
   rw [List.length_append] at this
   have e1:([q]:List (Str × α)).length=1:=rfl
   have e2:(q::b).length=b.length+1:=rfl
   rw [e1] at this
   rw [this,e2]
   omega
theorem addAll_take{α:Type}{m n r:List (Str × α)}{i:Nat}{q:Str × α}(h:addAll m (r.take i)=some n)(hq:r[i]?=some q)(c:q.1∉n.map (·.1)):addAll m (r.take (i+1))=some (n++[q]):=by
 rw [List.take_add_one,hq,addAll_app,h]
 show addAll n [q]=_
 rw [addAll_one,if_neg c]
theorem addAll_none{α:Type}{m n r:List (Str × α)}{i:Nat}{q:Str × α}(h:addAll m (r.take i)=some n)(hq:r[i]?=some q)(c:q.1∈n.map (·.1)):addAll m r=none:=by
 have hi:=(List.getElem?_eq_some_iff.mp hq)
 obtain⟨hi,e⟩:=hi
 have:r=r.take i++q::r.drop (i+1):=by
  rw [←e,List.getElem_cons_drop,List.take_append_drop]
 rw [this,addAll_app,h]
 show addAll n (q::r.drop (i+1))=none
 unfold addAll
 rw [if_pos c]
abbrev toN:List Str:=["full","part","parts","word","kind","fun"]
abbrev toP:List Str:=["full","part","parts"]
def ResF(K:PySem.W.Frag)(CF:Addr)(cl:Nat→Addr)(H0:Hp)(fa d1 d2:Addr)(Q:VK)(E:XK):FR→Prop
 |.ok n1 n2=>∀H',Same H0 H'→FullAt K H' CF fa d1 d2 n1 n2→Q .non H'
 |.ref c=>∀H',Same H0 H'→E (.ref (cl c)) none H'
def openR(parts:Parts)(m1:Rows1)(m2:Rows2)(p:Str):FR:=match look parts p with
  |none=>.ref 1
  |some r=>match addAll m1 r.1 with
   |none=>.ref 0
   |some n1=>match addAll m2 r.2 with
    |none=>.ref 0
    |some n2=>.ok n1 n2
theorem openR_is(parts:Parts)(M:Int)(m1:Rows1)(m2:Rows2)(p:Str):stepF parts M m1 m2 (.opn p)=openR parts m1 m2 p:=rfl
def spTakeOpened(K:PySem.W.Frag)(CF:Addr)(cl:Nat→Addr):Sp:=fun vs H Q E=>∃(H0:Hp) (fa d1 d2:Addr) (p:Str) (pa:Addr) (m1:Rows1) (m2:Rows2) (parts:Parts),vs=[.ref fa,.str p,.ref pa]∧Same H0 H∧H0 d1=none∧H0 d2=none ∧
 FullAt K H CF fa d1 d2 m1 m2∧okW p∧PtsAt K H0 CF pa parts∧PaOk parts∧m1.length≤100∧m2.length≤100∧ResF K CF cl H0 fa d1 d2 Q E (openR parts m1 m2 p)
theorem thawed{H0 H3:Hp}{d:Addr}{kv:List (Key × V)}(hd:H0 d=some (.dK kv))(old:∀b u,H0 b=some u→b≠d→H3 b=some u):Same H0 (upd H3 d (.dK kv)):=fun b u hb=>by
 by_cases e:b=d
 ·rw [e] at hb ⊢
  rw [hd] at hb
  cases hb
  exact upd_same
 ·rw [upd_ne e]
  exact old b u hb e
theorem FullA.frz{K:PySem.W.Frag}{H:Hp}{CF fa d1 d2 dx:Addr}{fs:List (Str × V)}{kv1 kv2:List (Key × V)}{m1:Rows1}{m2:Rows2}{d:Addr}{u:HO}(F:FullA K H CF fa d1 d2 dx fs kv1 kv2 m1 m2)(n1:d≠d1)(n2:d≠d2)(n3:fa≠d)(kp:∀b xs,SqT K H b xs→SqT K (upd H d u) b xs) :
  FullA K (upd H d u) CF fa d1 d2 dx fs kv1 kv2 m1 m2 :=
 ⟨by rw [upd_ne n3];exact F.obj,F.fk,F.ff,by rw [upd_ne (Ne.symm n1)];exact F.h1,by rw [upd_ne (Ne.symm n2)];exact F.h2,F.p1.imp fun _ _ t=>kd_keep kp t,F.p2.imp fun _ _ t=>t.keep kp,F.nh,F.np,F.ne⟩
theorem FullA.same{K:PySem.W.Frag}{H H':Hp}{CF fa d1 d2 dx:Addr}{fs:List (Str × V)}{kv1 kv2:List (Key × V)}{m1:Rows1}{m2:Rows2}(F:FullA K H CF fa d1 d2 dx fs kv1 kv2 m1 m2)(e:Same H H'):FullA K H' CF fa d1 d2 dx fs kv1 kv2 m1 m2 :=
 ⟨e _ _ F.obj,F.fk,F.ff,e _ _ F.h1,e _ _ F.h2,F.p1.imp fun _ _ t=>t.same e,F.p2.imp fun _ _ t=>t.keep fun _ _ t=>e.tup t,F.nh,F.np,F.ne⟩
section
variable{P:Program}{w:World}{K:PySem.W.Frag}{mg:Str→Option Value}{base:Heap}
theorem scTakeOpened:FnScope toN toP (defScope sTakeOpened):=⟨rfl,rfl,rfl,by decide +kernel,rfl,by decide +kernel,by decide +kernel⟩
set_option maxHeartbeats 0 in
theorem to1{f fg CF CW:Addr}{fdg:FuncData}(GA:FnOk P w K mg base (CX1 P w) 1 fg fdg aoP (spAdd CW))(bA:Binds K fdg aoP [])(kA:PySem.W.keepIn K (.ref fg)=true) (mA:mg "add_once"=some (.ref fg)) (cF:Cls K CF) (nK:NoAttr K CF "kinds")
  {cdv:Value} {A:Around} {outer:List Env} {s:Shared} {H:Hp} {E:XK} (hr:Room 1 (A.deeper (PyProof.Rows.envOfC "take_opened" (defScope sTakeOpened) s.heap.objs.size f cdv))) :
  ∃t,PS (cxOf (CX1 P w) P w K mg base toN "take_opened" (defScope sTakeOpened) f cdv A outer s H E) ((defBody sTakeOpened).getD 1 (.Pass ⟨0,0,0,0⟩)) t ∧
   ∀(D:Ends) (H0 H1:Hp) (fa d1 d2 pa:Addr) (p:Str) (m1:Rows1) (m2:Rows2) (parts:Parts) (r:Rows1 × Rows2),Same H0 H→Same H0 H1→H0 d1=none→H0 d2=none→FullAt K H1 CF fa d1 d2 m1 m2→PtsAt K H0 CF pa parts→look parts p=some r→m1.length≤100→r.1.length≤2→Ok1 r.1 →
    (∀n1,addAll m1 r.1=some n1→∀(H4:Hp) (y3 y4:Option V),Same H0 H4→FullAt K H4 CF fa d1 d2 n1 m2→D.nx [some (.ref fa),some (.str p),some (.ref pa),y3,y4,none] H4) →
    (addAll m1 r.1=none→∀H4:Hp,Same H0 H4→E (.ref CW) none H4) →
    t D [some (.ref fa),some (.str p),some (.ref pa),none,none,none] H1:=by
 have hu:=hu_of hr
 have hr1:Room 1 _:=hr.mono (by decide)
 refine⟨_,ps_thaw (ps_for PassesOwn.leaving rfl (pi_items (pe_fld (pe_dget hu (pv 2) (pv 1) (fun _ _=>rfl)) rfl)) (pg_tup rfl (pgs_cons (pg_name (i:=3) scTakeOpened.nd rfl (Or.inl rfl)) (pgs_cons (pg_name (i:=4) scTakeOpened.nd rfl (Or.inl rfl)) pgs_nil)))
   (@pss_one _ _ _ (ps_expr (pe_call GA hr1 rfl mA kA bA .nil passF (@pa_cons _ _ _ _ _ (pe_fld (pv 0) rfl) (@pa_cons _ _ _ _ _ (pv 3) (@pa_cons _ _ _ _ _ (pv 4) pa_nil rfl) rfl) rfl))))),?_⟩
 intro D H0 H1 fa d1 d2 pa p m1 m2 parts r sH s1 hd1 hd2 hF hP hr' h100 hr2 hok qN qE
 obtain⟨pkv,hpa,hpk⟩:=hP
 obtain⟨dxf,fsf,kv1,kv2,F⟩:=hF
 rcases look_val hpk p with ⟨_,h2⟩|⟨v,r',h1,h2,pf,rfl,dx,d,e2,fs,kvp,kvq,f1,f2,f3,f4,f5,f6,_⟩
 ·rw [hr'] at h2
  cases h2
 rw [hr'] at h2
 cases h2
 have nd1:d≠d1:=fun e=>by rw [e,hd1] at f4;cases f4
 have nd2:d≠d2:=fun e=>by rw [e,hd2] at f4;cases f4
 have nfa:∀{H3:Hp} {o:Obj},H3 fa=some (.ins CF dxf fsf)→H3 d=some (.frz o (.dK kvp))→fa≠d:=fun h1 h2 e=>by rw [e,h2] at h1;cases h1
 have hlen:kvp.length=r.1.length:=Paired.length f6
 have hnf:∀o' u',H d≠some (.frz o' u'):=fun o' u' e=>by rw [sH _ _ f4] at e;cases e
 refine⟨_,rfl,_,rfl,pa,.ref pf,rfl,h1▸DGet.k (k:=.inr p) (s1 _ _ hpa),pf,CF,dx,fs,_,rfl,s1 _ _ f1,cF,nK,f2,d,kvp,rfl,s1 _ _ f4,fun o=>?_⟩
 refine for_items (fun i σ H3=>∃(y3 y4:Option V) (ni:Rows1) (kvi:List (Key × V)),σ=[some (.ref fa),some (.str p),some (.ref pa),y3,y4,none]∧(∀b u,H0 b=some u→b≠d→H3 b=some u)∧H3 d=some (.frz o (.dK kvp))∧FullA K H3 CF fa d1 d2 dxf fsf kvi kv2 ni m2∧addAll m1 (r.1.take i)=some ni∧(∀a xs,SqT K H0 a xs→SqT K H3 a xs)) ?_ ?_ ?_ ?_
 ·have kp:∀b xs,SqT K H1 b xs→SqT K (upd H1 d (.frz o (.dK kvp))) b xs:=fun b xs h=>sqt_dk (s1 _ _ f4) h
  have n3:fa≠d:=fun e=>by have:=F.obj;rw [e,s1 _ _ f4] at this;cases this
  exact⟨none,none,m1,kv1,rfl,fun b u hb nb=>by rw [upd_ne nb];exact s1 _ _ hb,upd_same,F.frz nd1 nd2 n3 kp,rfl,fun a xs h=>kp a xs (s1.tup h)⟩
 ·rintro i σ H3 _ ⟨_,_,_,_,_,_,h,_⟩
  exact h
 ·rintro i pp a σ H3 hp ha ⟨y3,y4,ni,kvi,rfl,old,hd3,F3,hni,keep⟩
  obtain⟨⟨z,k⟩,hq,ez,hkz⟩:=pair_get f6 hp
  obtain⟨pk,pw⟩:=pp
  replace ez:pk=.inr z:=ez
  replace hkz:KdAt K H0 pw k:=hkz
  subst ez
  have hi:i < r.1.length:=(List.getElem?_eq_some_iff.mp hq).1
  have ea:=same_new ha (.tup [kV (.inr z),pw])
  have F4:=F3.same ea
  have hkl:kvi.length=ni.length:=Paired.length F3.p1
  have hnl:=addAll_len _ _ _ hni
  rw [List.length_take] at hnl
  have hw:okW z:=(hok (z,k) (List.mem_of_getElem? hq)).1
  have hin:=pk_in F4.p1 z
  refine⟨a,_,rfl,SqT.of upd_same,rfl,_,_,rfl,_,_,rfl,rfl,?_⟩
  have hd4:=ea _ _ hd3
  refine⟨_,rfl,fa,CF,dxf,fsf,_,rfl,F4.obj,cF,nK,F4.fk,_,rfl,_,rfl,d1,z,pw,kvi,rfl,hw,F4.h1,by omega,?_⟩
  by_cases c:z∈ni.map (·.1)
  ·refine .inl ⟨by rw [hin];exact decide_eq_true c,d,o,.dK kvp,hd4,hnf,qE (addAll_none hni hq c) _ (thawed f4 fun b u hb nb=>ea _ _ (old b u hb nb))⟩
  ·refine .inr ⟨by rw [hin];exact decide_eq_false c,?_⟩
   have kp5:∀b xs,SqT K (upd H3 a (.tup [kV (.inr z),pw])) b xs→SqT K (upd (upd H3 a (.tup [kV (.inr z),pw])) d1 (.dK (putK kvi (.inr z) pw))) b xs:=fun b xs h=>sqt_dk F4.h1 h
   refine⟨_,_,ni++[(z,k)],_,rfl,fun b u hb nb=>?_,?_,F4.put1 c (kd_keep (fun b xs t=>ea.tup (keep b xs t)) hkz),addAll_take hni hq c,fun b xs t=>kp5 b xs (ea.tup (keep b xs t))⟩
   ·rw [upd_ne (fun e=>by rw [e,hd1] at hb;cases hb)]
    exact ea _ _ (old b u hb nb)
   ·rw [upd_ne nd1]
    exact hd4
 ·rintro σ H3 ⟨y3,y4,ni,kvi,rfl,old,hd3,F3,hni,keep⟩
  rw [hlen,List.take_length] at hni
  exact⟨d,o,.dK kvp,hd3,hnf,qN ni hni _ y3 y4 (thawed f4 old) ⟨_,_,_,_,F3.frz nd1 nd2 (nfa F3.obj hd3) fun b xs h=>sqt_fz hd3 h⟩⟩
set_option maxHeartbeats 0 in
theorem to2{f fg CF CW:Addr}{fdg:FuncData}(GA:FnOk P w K mg base (CX1 P w) 1 fg fdg aoP (spAdd CW))(bA:Binds K fdg aoP [])(kA:PySem.W.keepIn K (.ref fg)=true) (mA:mg "add_once"=some (.ref fg)) (cF:Cls K CF) (nK:NoAttr K CF "funs")
  {cdv:Value} {A:Around} {outer:List Env} {s:Shared} {H:Hp} {E:XK} (hr:Room 1 (A.deeper (PyProof.Rows.envOfC "take_opened" (defScope sTakeOpened) s.heap.objs.size f cdv))) :
  ∃t,PS (cxOf (CX1 P w) P w K mg base toN "take_opened" (defScope sTakeOpened) f cdv A outer s H E) ((defBody sTakeOpened).getD 2 (.Pass ⟨0,0,0,0⟩)) t ∧
   ∀(D:Ends) (H0 H1:Hp) (fa d1 d2 pa:Addr) (p:Str) (m1:Rows1) (m2:Rows2) (parts:Parts) (r:Rows1 × Rows2) (z3 z4:Option V),Same H0 H→Same H0 H1→H0 d1=none→H0 d2=none→FullAt K H1 CF fa d1 d2 m1 m2→PtsAt K H0 CF pa parts→look parts p=some r→m2.length≤100→r.2.length≤2→Ok2 r.2 →
    (∀n2,addAll m2 r.2=some n2→∀(H4:Hp) (y3 y5:Option V),Same H0 H4→FullAt K H4 CF fa d1 d2 m1 n2→D.nx [some (.ref fa),some (.str p),some (.ref pa),y3,z4,y5] H4) →
    (addAll m2 r.2=none→∀H4:Hp,Same H0 H4→E (.ref CW) none H4) →
    t D [some (.ref fa),some (.str p),some (.ref pa),z3,z4,none] H1:=by
 have hu:=hu_of hr
 have hr1:Room 1 _:=hr.mono (by decide)
 refine⟨_,ps_thaw (ps_for PassesOwn.leaving rfl (pi_items (pe_fld (pe_dget hu (pv 2) (pv 1) (fun _ _=>rfl)) rfl)) (pg_tup rfl (pgs_cons (pg_name (i:=3) scTakeOpened.nd rfl (Or.inl rfl)) (pgs_cons (pg_name (i:=5) scTakeOpened.nd rfl (Or.inl rfl)) pgs_nil)))
   (@pss_one _ _ _ (ps_expr (pe_call GA hr1 rfl mA kA bA .nil passF (@pa_cons _ _ _ _ _ (pe_fld (pv 0) rfl) (@pa_cons _ _ _ _ _ (pv 3) (@pa_cons _ _ _ _ _ (pv 5) pa_nil rfl) rfl) rfl))))),?_⟩
 intro D H0 H1 fa d1 d2 pa p m1 m2 parts r z3 z4 sH s1 hd1 hd2 hF hP hr' h100 hr2 hok qN qE
 obtain⟨pkv,hpa,hpk⟩:=hP
 obtain⟨dxf,fsf,kv1,kv2,F⟩:=hF
 rcases look_val hpk p with ⟨_,h2⟩|⟨v,r',h1,h2,pf,rfl,dx,e1,d,fs,kvq,kvp,f1,f3,f2,f5,f4,_,f6,_⟩
 ·rw [hr'] at h2
  cases h2
 rw [hr'] at h2
 cases h2
 have nd1:d≠d1:=fun e=>by rw [e,hd1] at f4;cases f4
 have nd2:d≠d2:=fun e=>by rw [e,hd2] at f4;cases f4
 have nfa:∀{H3:Hp} {o:Obj},H3 fa=some (.ins CF dxf fsf)→H3 d=some (.frz o (.dK kvp))→fa≠d:=fun h1 h2 e=>by rw [e,h2] at h1;cases h1
 have hlen:kvp.length=r.2.length:=Paired.length f6
 have hnf:∀o' u',H d≠some (.frz o' u'):=fun o' u' e=>by rw [sH _ _ f4] at e;cases e
 refine⟨_,rfl,_,rfl,pa,.ref pf,rfl,h1▸DGet.k (k:=.inr p) (s1 _ _ hpa),pf,CF,dx,fs,_,rfl,s1 _ _ f1,cF,nK,f2,d,kvp,rfl,s1 _ _ f4,fun o=>?_⟩
 refine for_items (fun i σ H3=>∃(y3 y5:Option V) (ni:Rows2) (kvi:List (Key × V)),σ=[some (.ref fa),some (.str p),some (.ref pa),y3,z4,y5]∧(∀b u,H0 b=some u→b≠d→H3 b=some u)∧H3 d=some (.frz o (.dK kvp))∧FullA K H3 CF fa d1 d2 dxf fsf kv1 kvi m1 ni∧addAll m2 (r.2.take i)=some ni∧(∀a xs,SqT K H0 a xs→SqT K H3 a xs)) ?_ ?_ ?_ ?_
 ·have kp:∀b xs,SqT K H1 b xs→SqT K (upd H1 d (.frz o (.dK kvp))) b xs:=fun b xs h=>sqt_dk (s1 _ _ f4) h
  have n3:fa≠d:=fun e=>by have:=F.obj;rw [e,s1 _ _ f4] at this;cases this
  exact⟨z3,none,m2,kv2,rfl,fun b u hb nb=>by rw [upd_ne nb];exact s1 _ _ hb,upd_same,F.frz nd1 nd2 n3 kp,rfl,fun a xs h=>kp a xs (s1.tup h)⟩
 ·rintro i σ H3 _ ⟨_,_,_,_,_,_,h,_⟩
  exact h
 ·rintro i pp a σ H3 hp ha ⟨y3,y5,ni,kvi,rfl,old,hd3,F3,hni,keep⟩
  obtain⟨⟨z,k⟩,hq,ez,hkz⟩:=pair_get f6 hp
  obtain⟨pk,pw⟩:=pp
  replace ez:pk=.inr z:=ez
  replace hkz:FunAt K H0 pw k:=hkz
  subst ez
  have hi:i < r.2.length:=(List.getElem?_eq_some_iff.mp hq).1
  have ea:=same_new ha (.tup [kV (.inr z),pw])
  have F4:=F3.same ea
  have hkl:kvi.length=ni.length:=Paired.length F3.p2
  have hnl:=addAll_len _ _ _ hni
  rw [List.length_take] at hnl
  have hw:okW z:=(hok (z,k) (List.mem_of_getElem? hq)).1
  have hin:=pk_in F4.p2 z
  refine⟨a,_,rfl,SqT.of upd_same,rfl,_,_,rfl,_,_,rfl,rfl,?_⟩
  have hd4:=ea _ _ hd3
  refine⟨_,rfl,fa,CF,dxf,fsf,_,rfl,F4.obj,cF,nK,F4.ff,_,rfl,_,rfl,d2,z,pw,kvi,rfl,hw,F4.h2,by omega,?_⟩
  by_cases c:z∈ni.map (·.1)
  ·refine .inl ⟨by rw [hin];exact decide_eq_true c,d,o,.dK kvp,hd4,hnf,qE (addAll_none hni hq c) _ (thawed f4 fun b u hb nb=>ea _ _ (old b u hb nb))⟩
  ·refine .inr ⟨by rw [hin];exact decide_eq_false c,?_⟩
   have kp5:∀b xs,SqT K (upd H3 a (.tup [kV (.inr z),pw])) b xs→SqT K (upd (upd H3 a (.tup [kV (.inr z),pw])) d2 (.dK (putK kvi (.inr z) pw))) b xs:=fun b xs h=>sqt_dk F4.h2 h
   refine⟨_,_,ni++[(z,k)],_,rfl,fun b u hb nb=>?_,?_,F4.put2 c (hkz.keep fun b xs t=>ea.tup (keep b xs t)),addAll_take hni hq c,fun b xs t=>kp5 b xs (ea.tup (keep b xs t))⟩
   ·rw [upd_ne (fun e=>by rw [e,hd2] at hb;cases hb)]
    exact ea _ _ (old b u hb nb)
   ·rw [upd_ne nd2]
    exact hd4
 ·rintro σ H3 ⟨y3,y5,ni,kvi,rfl,old,hd3,F3,hni,keep⟩
  rw [hlen,List.take_length] at hni
  exact⟨d,o,.dK kvp,hd3,hnf,qN ni hni _ y3 y5 (thawed f4 old) ⟨_,_,_,_,F3.frz nd1 nd2 (nfa F3.obj hd3) fun b xs h=>sqt_fz hd3 h⟩⟩
set_option maxHeartbeats 0 in
theorem ok_takeOpened{f fg CF:Addr}{cl:Nat→Addr}{fd fdg:FuncData} (F:Fun K "take_opened" "take_opened" sTakeOpened f fd) (GA:FnOk P w K mg base (CX1 P w) 1 fg fdg aoP (spAdd (cl 0))) (bA:Binds K fdg aoP []) (kA:PySem.W.keepIn K (.ref fg)=true) (mA:mg "add_once"=some (.ref fg)) (cF:Cls K CF) (nK:NoAttr K CF "kinds") (nF:NoAttr K CF "funs")
  (mM:mg "NoName"=some (.ref (cl 1))) (xM:PySem.W.excIn K (cl 1) bmVE "ValueError.__new__"=true):FnOk P w K mg base (CX1 P w) 2 f fd toP (spTakeOpened K CF cl):=by
 refine F.okX scTakeOpened (fun vs H Q E h=>?_) (fun cdv A outer s H vs Q E hr h=>?_)
 ·obtain⟨H0,fa,d1,d2,p,pa,m1,m2,parts,rfl,_⟩:=h
  rfl
 obtain⟨H0,fa,d1,d2,p,pa,m1,m2,parts,rfl,s0,hd1,hd2,hF,hp,hP,hok,l1,l2,hR⟩:=h
 have hu:=hu_of hr
 have lz:p.length≤100000:=Nat.le_trans hp.2 (by decide)
 have zz:p.length≤sizeLine:=Nat.le_trans lz (by decide)
 obtain⟨t1,e1,k1⟩:=to1 (f:=f) (H:=H) (E:=E) GA bA kA mA cF nK hr
 obtain⟨t2,e2,k2⟩:=to2 (f:=f) (H:=H) (E:=E) GA bA kA mA cF nF hr
 refine⟨_,@pss_cons _ _ _ _ _ (ps_if (pt_cmp (pc_dnotin hu (pv 1) (pv 2)) (by with_unfolding_all rfl))
   (@pss_one _ _ _ (ps_raise1 rfl mM xM (@pa_cons _ _ _ _ _ (pe_fstr (pj_cons pe_str (pj_cons (pe_fv (pv 1)) (pj_cons pe_str pj_nil))) (by decide)) pa_nil rfl))) pss_nil)
  (@pss_cons _ _ _ _ _ e1 (@pss_one _ _ _ e2)),?_⟩
 have hP':=hP
 obtain⟨pkv,hpa,hpk⟩:=hP'
 refine⟨_,rfl,_,rfl,pa,_,rfl,DGet.k (k:=.inr p) (s0 _ _ hpa),_,rfl,?_⟩
 rcases look_val hpk p with ⟨h1,h2⟩|⟨v,r,h1,h2,_⟩
 ·rw [h1]
  have hE:E (.ref (cl 1)) none H:=by
   unfold openR at hR
   simp only [h2] at hR
   exact hR H s0
  exact iteT ⟨_,rfl,by decide +kernel,_,rfl,.inl ⟨p,rfl,zz,p,rfl,Nat.le_trans lz (by decide),_,rfl,by decide +kernel,fun z3 hz3=>⟨(by show 1≤sizeLine;decide),hE⟩⟩⟩
 ·rw [h1]
  obtain⟨o1,o2,r1,r2,_⟩:=hok _ (look_mem h2)
  refine iteF (k1 _ H0 H fa d1 d2 pa p m1 m2 parts r s0 s0 hd1 hd2 hF hP h2 l1 r1 o1 (fun n1 a1 H4 y3 y4 s4 F4=>?_) (fun a1 H4 s4=>?_))
  ·refine k2 _ H0 H4 fa d1 d2 pa p n1 m2 parts r y3 y4 s0 s4 hd1 hd2 F4 hP h2 l2 r2 o2 (fun n2 a2 H5 y3' y5 s5 F5=>?_) (fun a2 H5 s5=>?_)
   ·unfold openR at hR
    simp only [h2,a1,a2] at hR
    exact hR H5 s5 F5
   ·unfold openR at hR
    simp only [h2,a1,a2] at hR
    exact hR H5 s5
  ·unfold openR at hR
   simp only [h2,a1] at hR
   exact hR H4 s4
end
end K41
namespace K41
open PySem L2 Kk
theorem pe_fldK{X:Cx}{e:Expr}{f:Str}{pos:Pos}{ta:TE}{K:PySem.W.Frag}(hK:X.K=K)(he:PE X e ta)(hb:attributeBase e f X.env (eval e X.env)=eval e X.env):PE X (.Attribute e f pos) (tFld K ta f):=by
 subst hK
 exact pe_fld he hb
theorem norm_2{T:Str × Str→Option Kd}{M:Int}{k:Kd}(h:∃n∈Kd.names k,T n=none):norm T M k=.no 2:=if_pos h
theorem norm_3{T:Str × Str→Option Kd}{M:Int}{k:Kd}(h:∀n∈Kd.names k,T n≠none)(c:((Kd.put T k).words:Int) > M):norm T M k=.no 3:=by
 unfold norm
 rw [if_neg (fun⟨n,hn,e⟩=>h n hn e),if_pos c]
theorem norm_k{T:Str × Str→Option Kd}{M:Int}{k:Kd}(h:∀n∈Kd.names k,T n≠none)(c:¬((Kd.put T k).words:Int) > M):norm T M k=.ok (Kd.put T k):=by
 unfold norm
 rw [if_neg (fun⟨n,hn,e⟩=>h n hn e),if_neg c]
theorem norm_words{T:Str × Str→Option Kd}{M:Int}{k k':Kd}(h:norm T M k=.ok k'):k'=Kd.put T k∧(k'.words:Int)≤M:=by
 unfold norm at h
 by_cases c1:∃n∈Kd.names k,T n=none
 ·rw [if_pos c1] at h
  cases h
 ·rw [if_neg c1] at h
  by_cases c2:((Kd.put T k).words:Int) > M
  ·rw [if_pos c2] at h
   cases h
  ·rw [if_neg c2] at h
   injection h with h
   subst h
   exact⟨rfl,by omega⟩
def NrR(cl:Nat→Addr)(K:PySem.W.Frag)(H:Hp)(Q:VK)(E:XK):Nr→Prop
 |.no c=>∀H',Same H H'→E (.ref (cl c)) none H'
 |.ok k'=>∀H',Same H H'→∀v,KdAt K H' v k'→Q v H'
theorem NrR.two{cl:Nat→Addr}{K:PySem.W.Frag}{H:Hp}{Q:VK}{E:XK}{T:Str × Str→Option Kd}{M:Int}{k:Kd}(h:NrR cl K H Q E (norm T M k))(H':Hp)(s:Same H H')(e:∃n∈Kd.names k,T n=none):E (.ref (cl 2)) none H':=by
 rw [norm_2 e] at h
 exact h H' s
theorem NrR.rest{cl:Nat→Addr}{K:PySem.W.Frag}{H:Hp}{Q:VK}{E:XK}{T:Str × Str→Option Kd}{M:Int}{k:Kd}(h:NrR cl K H Q E (norm T M k))(e:∀n∈Kd.names k,T n≠none)(H':Hp)(s:Same H H'):if ((Kd.put T k).words:Int) > M then E (.ref (cl 3)) none H' else ∀v,KdAt K H' v (Kd.put T k)→Q v H':=by
 by_cases c:((Kd.put T k).words:Int) > M
 ·rw [if_pos c]
  rw [norm_3 e c] at h
  exact h H' s
 ·rw [if_neg c]
  rw [norm_k e c] at h
  exact h H' s
theorem itk_a{k:Kd}(h:ItK k):k.words≤900:=by
 have:=leaves_words k
 have:=h.2.1
 omega
theorem itk_b{k:Kd}(h:ItK k):Kd.depth k≤40:=by
 have:=depth_leaves k
 have:=h.2.1
 omega
theorem norms_app(T:Str × Str→Option Kd)(M:Int)(b:List Kd):∀{a la:List Kd},norms T M a=.ok la→norms T M (a++b)=match norms T M b with
  |.no c=>.no c
  |.ok lb=>.ok (la++lb)
 |[],la,h=>by
  cases h
  show norms T M b=_
  cases norms T M b<;>rfl
 |k::a,la,h=>by
  unfold norms at h
  show(match norm T M k with
   |.no c=>Nrs.no c
   |.ok k'=>match norms T M (a++b) with
    |.no c=>.no c
    |.ok l=>.ok (k'::l))=_
  cases hk:norm T M k with
  |no c =>
   rw [hk] at h
   cases h
  |ok k' =>
   rw [hk] at h
   cases ha:norms T M a with
   |no c =>
    rw [ha] at h
    cases h
   |ok la' =>
    rw [ha] at h
    injection h with h
    subst h
    show(match norms T M (a++b) with
     |.no c=>Nrs.no c
     |.ok l=>.ok (k'::l))=_
    rw [norms_app T M b ha]
    cases norms T M b<;>rfl
theorem norms_one(T:Str × Str→Option Kd)(M:Int)(k:Kd):norms T M [k]=match norm T M k with
  |.no c=>.no c
  |.ok k'=>.ok [k']:=by
 unfold norms
 cases norm T M k<;>rfl
theorem norms_bad{T:Str × Str→Option Kd}{M:Int}{ks ls:List Kd}{i c:Nat}{k:Kd}(h:norms T M (ks.take i)=.ok ls)(hk:ks[i]?=some k)(hn:norm T M k=.no c):norms T M ks=.no c:=by
 obtain⟨hi,e⟩:=(List.getElem?_eq_some_iff.mp hk)
 have:ks=ks.take i++k::ks.drop (i+1):=by
  rw [←e,List.getElem_cons_drop,List.take_append_drop]
 rw [this,norms_app T M _ h]
 unfold norms
 rw [hn]
theorem norms_next{T:Str × Str→Option Kd}{M:Int}{ks ls:List Kd}{i:Nat}{k k':Kd}(h:norms T M (ks.take i)=.ok ls)(hk:ks[i]?=some k)(hn:norm T M k=.ok k'):norms T M (ks.take (i+1))=.ok (ls++[k']):=by
 rw [List.take_add_one,hk,norms_app T M _ h]
 show(match norms T M [k] with
  |.no c=>Nrs.no c
  |.ok lb=>.ok (ls++lb))=_
 rw [norms_one,hn]
abbrev tiN:List Str:=["full","item","parts","most","taken"]
abbrev tiP:List Str:=["full","item","parts","most"]
def spTakeItem(K:PySem.W.Frag)(CF:Addr)(cl:Nat→Addr):Sp:=fun vs H Q E=>∃(H0:Hp) (fa d1 d2:Addr) (v:V) (pa:Addr) (M:Int) (m1:Rows1) (m2:Rows2) (parts:Parts) (it:It),vs=[.ref fa,v,.ref pa,.int M]∧Same H0 H∧H0 d1=none∧H0 d2=none ∧
 FullAt K H CF fa d1 d2 m1 m2∧ItAt K H0 v it∧ItOk it∧PtsAt K H0 CF pa parts∧PaOk parts∧Ok1 m1∧m1.length≤100∧m2.length≤100∧0≤M∧M≤60∧ResF K CF cl H0 fa d1 d2 Q E (stepF parts M m1 m2 it)
section
variable{P:Program}{w:World}{K:PySem.W.Frag}{mg:Str→Option Value}{base:Heap}
theorem scTakeItem:FnScope tiN tiP (defScope sTakeItem):=⟨rfl,rfl,rfl,by decide +kernel,rfl,by decide +kernel,by decide +kernel⟩
set_option maxHeartbeats 0 in
theorem ok_takeItem{f fg fn fo CF:Addr}{dV:Value}{cl:Nat→Addr}{fd fdg fdn fdo:FuncData} (F:FunD K "take_item" "take_item" sTakeItem dV f fd) (GA:FnOk P w K mg base (CX1 P w) 1 fg fdg aoP (spAdd (cl 0))) (bA:Binds K fdg aoP []) (kA:PySem.W.keepIn K (.ref fg)=true) (mA:mg "add_once"=some (.ref fg))
  (GN:FnOk P w K mg base (CX1 P w) 41 fn fdn ["kind","own","parts","most"] (spNormal K CF (cl 2) (cl 3))) (bN:Binds K fdn ["kind","own","parts","most"] []) (kN:PySem.W.keepIn K (.ref fn)=true) (mN:mg "normal"=some (.ref fn))
  (GO:FnOk P w K mg base (CX1 P w) 2 fo fdo toP (spTakeOpened K CF cl)) (bO:Binds K fdo toP []) (kO:PySem.W.keepIn K (.ref fo)=true) (mO:mg "take_opened"=some (.ref fo))
  (cF:Cls K CF) (nK:NoAttr K CF "kinds") (nF:NoAttr K CF "funs") (mt:mg "tuple"=none):FnOk P w K mg base (CX1 P w) 42 f fd tiP (spTakeItem K CF cl):=by
 refine F.okX scTakeItem (fun vs H Q E h=>?_) (fun cdv A outer s H vs Q E hr h=>?_)
 ·obtain⟨H0,fa,d1,d2,v,pa,M,m1,m2,parts,it,rfl,_⟩:=h
  rfl
 obtain⟨H0,fa,d1,d2,v,pa,M,m1,m2,parts,it,rfl,s0,hd1,hd2,hF,hI,hIo,hP,hPo,ho1,l1,l2,M0,M6,hR⟩:=h
 have hu:=hu_of hr
 have hr1:Room 1 _:=hr.mono (by decide)
 have hr2:Room 2 _:=hr.mono (by decide)
 have hrN:Room 41 _:=hr.mono (by decide)
 refine⟨_,@pss_one _ _ _ (ps_if (pt_cmpR op_eq (pe_ix ix_tup (pv 1) pe_int (fun _ _=>rfl)) pe_str (nomark _))
   (@pss_one _ _ _ (ps_expr (pe_call GA hr1 rfl mA kA bA .nil pass1 (@pa_cons _ _ _ _ _ (pe_fld (pv 0) rfl) (@pa_cons _ _ _ _ _ (pe_ix ix_tup (pv 1) pe_int (fun _ _=>rfl)) (@pa_cons _ _ _ _ _ (pe_call GN hrN rfl mN kN bN .nil pass1 (@pa_cons _ _ _ _ _ (pe_ix ix_tup (pv 1) pe_int (fun _ _=>rfl)) (@pa_cons _ _ _ _ _ (pe_fld (pv 0) rfl) (@pa_cons _ _ _ _ _ (pv 2) (@pa_cons _ _ _ _ _ (pv 3) pa_nil rfl) rfl) rfl) rfl)) pa_nil rfl) rfl) rfl))))
   (@pss_one _ _ _ (ps_if (pt_cmpR op_eq (pe_ix ix_tup (pv 1) pe_int (fun _ _=>rfl)) pe_str (nomark _))
    (@pss_cons _ _ _ _ _ (ps_set (i:=4) scTakeItem.nd rfl (Or.inl rfl) (pe_callTy call_tuple_of rfl mt bootTuple (@pa_cons _ _ _ _ _ (pe_compX (own:=["word","kind"]) (caps:=["full","parts","most"]) (κ:=[0,2,3]) (g:=gTup K 2 (gCons (gName 0) (gCons (gName 1) gNil))) ⟨rfl,by decide +kernel,by decide +kernel,rfl,rfl,(fun y hy=>by simp only [List.mem_cons,List.not_mem_nil,or_false] at hy;rcases hy with rfl|rfl|rfl<;>rfl),(fun y hy=>by simp only [List.mem_cons,List.not_mem_nil,or_false] at hy;rcases hy with rfl|rfl|rfl<;>exact⟨.inl rfl,rfl,.inl rfl⟩)⟩ rfl
      (pi_tup (pe_ix ix_tup (pv 1) pe_int (fun _ _=>rfl))) (fun _ _ _ _ _=>pg_tup rfl (pgs_cons (pg_name (i:=0) (show(["word","kind","full","parts","most"]:List Str).Nodup from by decide +kernel) rfl (Or.inl rfl)) (pgs_cons (pg_name (i:=1) (show(["word","kind","full","parts","most"]:List Str).Nodup from by decide +kernel) rfl (Or.inl rfl)) pgs_nil)))
      (fun _ _ _ _ _ hps=>pe_call GN hrN rfl mN kN bN .nil hps (@pa_cons _ _ _ _ _ (pv 1) (@pa_cons _ _ _ _ _ (pe_fldK (K:=K) rfl (pv 2) rfl) (@pa_cons _ _ _ _ _ (pv 3) (@pa_cons _ _ _ _ _ (pv 4) pa_nil rfl) rfl) rfl) rfl))) pa_nil rfl)))
    (@pss_one _ _ _ (ps_expr (pe_call GA hr1 rfl mA kA bA .nil pass1 (@pa_cons _ _ _ _ _ (pe_fld (pv 0) rfl) (@pa_cons _ _ _ _ _ (pe_ix ix_tup (pv 1) pe_int (fun _ _=>rfl)) (@pa_cons _ _ _ _ _ (@pe_tup _ _ _ _ _ (@pa_cons _ _ _ _ _ (pv 4) (@pa_cons _ _ _ _ _ (pe_call GN hrN rfl mN kN bN .nil pass1 (@pa_cons _ _ _ _ _ (pe_ix ix_tup (pv 1) pe_int (fun _ _=>rfl)) (@pa_cons _ _ _ _ _ (pe_fld (pv 0) rfl) (@pa_cons _ _ _ _ _ (pv 2) (@pa_cons _ _ _ _ _ (pv 3) pa_nil rfl) rfl) rfl) rfl)) pa_nil rfl) rfl)) pa_nil rfl) rfl) rfl)))))
    (@pss_one _ _ _ (ps_expr (pe_call GO hr2 rfl mO kO bO .nil pass1 (@pa_cons _ _ _ _ _ (pv 0) (@pa_cons _ _ _ _ _ (pe_ix ix_tup (pv 1) pe_int (fun _ _=>rfl)) (@pa_cons _ _ _ _ _ (pv 2) pa_nil rfl) rfl) rfl))))))),?_⟩
 have hP':=hP
 obtain⟨pkv,hpa,hpk⟩:=hP'
 obtain⟨dx,fs,kv1,kv2,FA⟩:=hF
 have M1:M≤1000000:=by omega
 have hl1:kv1.length=m1.length:=Paired.length FA.p1
 have hl2:kv2.length=m2.length:=Paired.length FA.p2
 have hG:=tl_kb ho1 hPo
 have PA:∀{H':Hp},Same H0 H'→PartsAt K H' CF pkv (PGof parts):=fun e=>(pts_pg hpk).same e
 cases it with
 |kind z k =>
  obtain⟨p,y,rfl,hp,hy⟩:=hI
  obtain⟨hz,hk⟩:=hIo
  have hp1:=s0.tup hp
  refine⟨_,rfl,_,_,_,_,rfl,rfl,hp1,(show atI [V.str "kind",.str z,y] 0=some (.str "kind") from rfl),rfl,_,rfl,ite2 (fun _=>?_) (fun c=>absurd (by decide +kernel) c)⟩
  refine⟨_,rfl,fa,CF,dx,fs,_,rfl,FA.obj,cF,nK,FA.fk,_,rfl,_,_,_,_,rfl,rfl,hp1,(show atI [V.str "kind",.str z,y] 1=some (.str z) from rfl),_,rfl,_,_,_,_,rfl,rfl,hp1,(show atI [V.str "kind",.str z,y] 2=some y from rfl),_,rfl,fa,CF,dx,fs,_,rfl,FA.obj,cF,nK,FA.fk,_,rfl,_,rfl,?_⟩
  have hN:NrR cl K H (fun v H'=>spAdd (cl 0) [.ref d1,.str z,v] H' (fun _ H'=>Q .non H') E) E (norm (tl m1 parts) M k):=by
   unfold stepF at hR
   cases hn:norm (tl m1 parts) M k with
   |no c =>
    simp only [hn] at hR
    exact fun H' s'=>hR H' (s0.trans s')
   |ok k' =>
    simp only [hn] at hR
    intro H' s' v hv
    have FB:=FA.same s'
    refine⟨d1,z,v,kv1,rfl,hz,FB.h1,by omega,?_⟩
    have hin:=pk_in FB.p1 z
    by_cases c:z∈m1.map (·.1)
    ·refine .inl ⟨by rw [hin];exact decide_eq_true c,?_⟩
     simp only [if_pos c] at hR
     exact hR H' (s0.trans s')
    ·refine .inr ⟨by rw [hin];exact decide_eq_false c,?_⟩
     simp only [if_neg c] at hR
     exact hR _ (sput (s0.trans s') hd1) ⟨_,_,_,_,FB.put1 c hv⟩
  exact⟨y,k,d1,pa,M,kv1,pkv,look m1,PGof parts,rfl,hy.same s0,itk_a hk,itk_b hk,names_ok hk.1,M0,M1,FA.h1,pk_kv FA.p1,s0 _ _ hpa,PA s0,fun H' s' e=>hN.two H' s' e,fun e=>⟨(itk_put hG hk).1,fun H' s'=>hN.rest e H' s'⟩⟩
 |fn z ps k =>
  obtain⟨p,ta,y,zz,xs,rfl,hp,hta,hxs,hy⟩:=hI
  obtain⟨hz,hps,hpk',hk⟩:=hIo
  have hp1:=s0.tup hp
  have hta1:=s0.tup hta
  have hlen:xs.length=ps.length:=Paired.length hxs
  refine⟨_,rfl,_,_,_,_,rfl,rfl,hp1,(show atI [V.str "fun",.str z,.ref ta,y,zz] 0=some (.str "fun") from rfl),rfl,_,rfl,ite2 (fun c=>absurd c (by decide +kernel)) (fun _=>?_)⟩
  refine⟨_,rfl,_,_,_,_,rfl,rfl,hp1,(show atI [V.str "fun",.str z,.ref ta,y,zz] 0=some (.str "fun") from rfl),rfl,_,rfl,ite2 (fun _=>?_) (fun c=>absurd (by decide +kernel) c)⟩
  refine⟨_,rfl,_,_,_,_,rfl,rfl,hp1,(show atI [V.str "fun",.str z,.ref ta,y,zz] 2=some (.ref ta) from rfl),ta,rfl,⟨_,hta1⟩,?_⟩
  refine comp_t hta1 (by omega) (fun i ys H3=>ys.length≤i∧∃ls,KdsAt K H3 ys ls∧norms (tl m1 parts) M ((ps.map (·.2)).take i)=.ok ls) ⟨Nat.le_refl _,[],.nil,rfl⟩ (fun i ys H2 h=>h.1) ?_ ?_
  ·rintro i x ys H2 N hN hx s2 ⟨hyl,ls,hls,hno⟩
   obtain⟨⟨t,g⟩,hq,p',yk,rfl,hp',hyk⟩:=pair_get hxs hx
   replace hp':SqT K H0 p' [.str t,yk]:=hp'
   replace hyk:KdAt K H0 yk g:=hyk
   have hm:=List.mem_of_getElem? hq
   have hg:ItK g:=hpk' (t,g) hm
   have hq2:(ps.map (·.2))[i]?=some g:=by rw [List.getElem?_map,hq];rfl
   have F2:=FA.same s2
   have s02:=s0.trans s2
   refine⟨p',_,rfl,s02.tup hp',rfl,_,_,rfl,_,_,rfl,rfl,rfl,tYes_go ?_⟩
   have hNn:NrR cl K H2 (fun v H6=>N (ys++[v]) H6) E (norm (tl m1 parts) M g):=by
    cases hn:norm (tl m1 parts) M g with
    |no c =>
     have e:=norms_bad hno hq2 hn
     unfold stepF at hR
     simp only [e] at hR
     exact fun H' s'=>hR H' (s02.trans s')
    |ok k' =>
     exact fun H' s' v hv=>hN _ _ (s2.trans s') ⟨by rw [List.length_append];show ys.length+1≤i+1;omega,_,(hls.same s').append (.cons hv .nil),norms_next hno hq2 hn⟩
   refine⟨_,rfl,_,rfl,fa,CF,dx,fs,_,rfl,F2.obj,cF,nK,F2.fk,_,rfl,_,rfl,?_⟩
   exact⟨yk,g,d1,pa,M,kv1,pkv,look m1,PGof parts,rfl,hyk.same s02,itk_a hg,itk_b hg,names_ok hg.1,M0,M1,F2.h1,pk_kv F2.p1,s02 _ _ hpa,PA s02,fun H' s' e=>hNn.two H' s' e,fun e=>⟨(itk_put hG hg).1,fun H' s'=>hNn.rest e H' s'⟩⟩
  ·rintro ys H2 D s2 ⟨hyl,ls,hls,hno⟩ hD
   rw [hlen,show ps.length=(ps.map (·.2)).length from(List.length_map ..).symm,List.take_length] at hno
   have sD:=same_new hD (.lst ys)
   refine⟨D,ys,rfl,.inl ⟨SqL.of upd_same,fun l hl=>?_⟩⟩
   have sl:=same_new hl (.tup ys)
   have s3:=s2.trans (sD.trans sl)
   have F3:=FA.same s3
   have s03:=s0.trans s3
   have hp3:=s03.tup hp
   refine⟨_,rfl,fa,CF,dx,fs,_,rfl,F3.obj,cF,nF,F3.ff,_,rfl,_,_,_,_,rfl,rfl,hp3,(show atI [V.str "fun",.str z,.ref ta,y,zz] 1=some (.str z) from rfl),_,rfl,_,rfl,_,_,_,_,rfl,rfl,hp3,(show atI [V.str "fun",.str z,.ref ta,y,zz] 3=some y from rfl),_,rfl,fa,CF,dx,fs,_,rfl,F3.obj,cF,nK,F3.fk,_,rfl,_,rfl,?_⟩
   have hls3:=(hls.same sD).same sl
   have hl3:upd (upd H2 D (.lst ys)) l (.tup ys) l=some (.tup ys):=upd_same
   revert F3 hls3 hl3
   generalize upd (upd H2 D (.lst ys)) l (.tup ys)=B at s3 s03 ⊢
   intro F3 hls3 hl3
   have hN:NrR cl K B (fun v H'=>2≤sizeLine∧∀p2,H' p2=none→spAdd (cl 0) [.ref d2,.str z,.ref p2] (upd H' p2 (.tup [.ref l,v])) (fun _ H'=>Q .non H') E) E (norm (tl m1 parts) M k):=by
    unfold stepF at hR
    simp only [hno] at hR
    cases hn:norm (tl m1 parts) M k with
    |no c =>
     simp only [hn] at hR
     exact fun H' s'=>hR H' (s03.trans s')
    |ok k' =>
     simp only [hn] at hR
     intro H' s' v hv
     refine⟨by decide,fun p2 hp2=>?_⟩
     have s5:=same_new hp2 (.tup [.ref l,v])
     have FB:=(F3.same s').same s5
     refine⟨d2,z,.ref p2,kv2,rfl,hz,FB.h2,by omega,?_⟩
     have hin:=pk_in FB.p2 z
     by_cases c:z∈m2.map (·.1)
     ·refine .inl ⟨by rw [hin];exact decide_eq_true c,?_⟩
      simp only [if_pos c] at hR
      exact hR _ (s03.trans (s'.trans s5))
     ·refine .inr ⟨by rw [hin];exact decide_eq_false c,?_⟩
      simp only [if_neg c] at hR
      exact hR _ (sput (s03.trans (s'.trans s5)) hd2) ⟨_,_,_,_,FB.put2 c ⟨p2,l,v,ys,rfl,SqT.of upd_same,SqT.of (s5 _ _ (s' _ _ hl3)),(hls3.same s').same s5,hv.same s5⟩⟩
   exact⟨y,k,d1,pa,M,kv1,pkv,look m1,PGof parts,rfl,hy.same s03,itk_a hk,itk_b hk,names_ok hk.1,M0,M1,F3.h1,pk_kv F3.p1,s03 _ _ hpa,PA s03,fun H' s' e=>hN.two H' s' e,fun e=>⟨(itk_put hG hk).1,fun H' s'=>hN.rest e H' s'⟩⟩
 |opn q =>
  obtain⟨p,rfl,hp⟩:=hI
  have hp1:=s0.tup hp
  refine⟨_,rfl,_,_,_,_,rfl,rfl,hp1,(show atI [V.str "open",.str q] 0=some (.str "open") from rfl),rfl,_,rfl,ite2 (fun c=>absurd c (by decide +kernel)) (fun _=>?_)⟩
  refine⟨_,rfl,_,_,_,_,rfl,rfl,hp1,(show atI [V.str "open",.str q] 0=some (.str "open") from rfl),rfl,_,rfl,ite2 (fun c=>absurd c (by decide +kernel)) (fun _=>?_)⟩
  refine⟨_,rfl,_,rfl,_,_,_,_,rfl,rfl,hp1,(show atI [V.str "open",.str q] 1=some (.str q) from rfl),_,rfl,?_⟩
  rw [openR_is] at hR
  exact⟨H0,fa,d1,d2,q,pa,m1,m2,parts,rfl,s0,hd1,hd2,⟨_,_,_,_,FA⟩,hIo,hP,hPo,l1,l2,hR⟩
end
end K41
namespace K41
open PySem L2 Kk
theorem addAll_eq{α:Type}:∀(b m n:List (Str × α)),addAll m b=some n→n=m++b
 |[],m,n,h=>by
  cases h
  rw [List.append_nil]
 |q::b,m,n,h=>by
  unfold addAll at h
  by_cases c:q.1∈m.map (·.1)
  ·rw [if_pos c] at h
   cases h
  ·rw [if_neg c] at h
   rw [addAll_eq b _ _ h,List.append_assoc]
   rfl
theorem step_ok{parts:Parts}{M:Int}{m1 n1:Rows1}{m2 n2:Rows2}{it:It}(hP:PaOk parts)(hM:M≤60)(h1:Ok1 m1)(hi:ItOk it)(h:stepF parts M m1 m2 it=.ok n1 n2):Ok1 n1∧n1.length≤m1.length+2∧n2.length≤m2.length+2:=by
 have hG:=tl_kb h1 hP
 cases it with
 |kind w k =>
  unfold stepF at h
  cases hn:norm (tl m1 parts) M k with
  |no c=>simp only [hn] at h;cases h
  |ok k' =>
   simp only [hn] at h
   by_cases c:w∈m1.map (·.1)
   ·simp only [if_pos c] at h;cases h
   ·simp only [if_neg c] at h
    injection h with e1 e2
    subst e1 e2
    obtain⟨e,hw⟩:=norm_words hn
    refine⟨fun q hq=>?_,by rw [List.length_append];show m1.length+1≤_;omega,by omega⟩
    rcases List.mem_append.mp hq with hq|hq
    ·exact h1 q hq
    ·rw [List.mem_singleton.mp hq]
     exact⟨hi.1,by rw [e];exact(itk_put hG hi.2).2,by show k'.words≤60;omega⟩
 |fn w ps k =>
  unfold stepF at h
  cases hn:norms (tl m1 parts) M (ps.map (·.2)) with
  |no c=>simp only [hn] at h;cases h
  |ok ks =>
   simp only [hn] at h
   cases hn2:norm (tl m1 parts) M k with
   |no c=>simp only [hn2] at h;cases h
   |ok k' =>
    simp only [hn2] at h
    by_cases c:w∈m2.map (·.1)
    ·simp only [if_pos c] at h;cases h
    ·simp only [if_neg c] at h
     injection h with e1 e2
     subst e1 e2
     exact⟨h1,by omega,by rw [List.length_append];show m2.length+1≤_;omega⟩
 |opn p =>
  rw [openR_is] at h
  unfold openR at h
  cases hl:look parts p with
  |none=>simp only [hl] at h;cases h
  |some r =>
   simp only [hl] at h
   obtain⟨o1,o2,r1,r2,_⟩:=hP _ (look_mem hl)
   cases ha:addAll m1 r.1 with
   |none=>simp only [ha] at h;cases h
   |some a1 =>
    simp only [ha] at h
    cases hb:addAll m2 r.2 with
    |none=>simp only [hb] at h;cases h
    |some a2 =>
     simp only [hb] at h
     injection h with e1 e2
     subst e1 e2
     have z1:=addAll_eq _ _ _ ha
     have z2:=addAll_eq _ _ _ hb
     replace r1:r.1.length≤2:=r1
     replace r2:r.2.length≤2:=r2
     refine⟨fun q hq=>?_,by rw [z1,List.length_append];omega,by rw [z2,List.length_append];omega⟩
     rw [z1] at hq
     rcases List.mem_append.mp hq with hq|hq
     ·exact h1 q hq
     ·exact o1 q hq
theorem run_take{parts:Parts}{M:Int}{its:List It}{i:Nat}{it:It}{m1:Rows1}{m2:Rows2}(h:runF parts M (its.take i)=.ok m1 m2)(hi:its[i]?=some it):runF parts M (its.take (i+1))=stepF parts M m1 m2 it:=by
 rw [List.take_add_one,hi,runF_app,h]
 rfl
theorem run_bad{parts:Parts}{M:Int}{its:List It}{i c:Nat}{it:It}{m1:Rows1}{m2:Rows2}(h:runF parts M (its.take i)=.ok m1 m2)(hi:its[i]?=some it)(hs:stepF parts M m1 m2 it=.ref c):runF parts M its=.ref c:=by
 have e:=run_take h hi
 rw [hs] at e
 have:its=its.take (i+1)++its.drop (i+1):=(List.take_append_drop ..).symm
 rw [this,runF_app,e,fold_ref]
abbrev ffN:List Str:=["items","parts","most","full","item"]
abbrev ffP:List Str:=["items","parts","most"]
def RunR(K:PySem.W.Frag)(CF:Addr)(cl:Nat→Addr)(H:Hp)(Q:VK)(E:XK):FR→Prop
 |.ok m1 m2=>∀(H':Hp) (fa d1 d2:Addr),Same H H'→H d1=none→H d2=none→H fa=none→FullAt K H' CF fa d1 d2 m1 m2→Q (.ref fa) H'
 |.ref c=>∀H',Same H H'→E (.ref (cl c)) none H'
def spFull(K:PySem.W.Frag)(CF:Addr)(cl:Nat→Addr):Sp:=fun vs H Q E=>∃(ia:Addr) (xs:List V) (its:List It) (pa:Addr) (M:Int) (parts:Parts),vs=[.ref ia,.ref pa,.int M]∧SqT K H ia xs∧Paired (ItAt K H) xs its∧its.length≤40∧(∀it∈its,ItOk it) ∧
 PtsAt K H CF pa parts∧PaOk parts∧0≤M∧M≤60∧RunR K CF cl H Q E (runF parts M its)
section
variable{P:Program}{w:World}{K:PySem.W.Frag}{mg:Str→Option Value}{base:Heap}
theorem scFull:FnScope ffN ffP (defScope sFullFace):=⟨rfl,rfl,rfl,by decide +kernel,rfl,by decide +kernel,by decide +kernel⟩
set_option maxHeartbeats 0 in
theorem ok_full{f ft fi CF:Addr}{dV:Value}{cl:Nat→Addr}{fd fdt fdi:FuncData} (F:FunD K "full_face" "full_face" sFullFace dV f fd)
  (GT:FnOk P w K mg base (CX1 P w) 42 ft fdt tiP (spTakeItem K CF cl)) (bT:Binds K fdt tiP []) (kT:PySem.W.keepIn K (.ref ft)=true) (mT:mg "take_item"=some (.ref ft))
  (GI:FnOk P w K mg base CX0 1 fi fdi ["self","kinds","funs"] (spInitF CF)) (bI:Binds K fdi ["self","kinds","funs"] []) (MF:Mk K CF fi) (mC:mg "Face"=some (.ref CF)) :
  FnOk P w K mg base (CX1 P w) 43 f fd ffP (spFull K CF cl):=by
 refine F.okX scFull (fun vs H Q E h=>?_) (fun cdv A outer s H vs Q E hr h=>?_)
 ·obtain⟨ia,xs,its,pa,M,parts,rfl,_⟩:=h
  rfl
 obtain⟨ia,xs,its,pa,M,parts,rfl,hia,hxs,h20,hio,hP,hPo,M0,M6,hR⟩:=h
 have hr2:Room (1+1) _:=hr.mono (by decide)
 refine⟨_,@pss_cons _ _ _ _ _ (ps_set (i:=3) scFull.nd rfl (Or.inl rfl) (pe_make MF GI hr2 (by rfl) mC bI .nil pass0 (@pa_cons _ _ _ _ _ pe_dnewK (@pa_cons _ _ _ _ _ pe_dnewK pa_nil rfl) rfl)))
  (@pss_cons _ _ _ _ _ (ps_for PassesOwn.leaving rfl (pi_tup (pv 0)) (pg_name (i:=4) scFull.nd rfl (Or.inl rfl)) (@pss_one _ _ _ (ps_expr (pe_call GT hr rfl mT kT bT .nil pass1 (@pa_cons _ _ _ _ _ (pv 3) (@pa_cons _ _ _ _ _ (pv 4) (@pa_cons _ _ _ _ _ (pv 1) (@pa_cons _ _ _ _ _ (pv 2) pa_nil rfl) rfl) rfl) rfl)))))
  (@pss_one _ _ _ (@ps_ret _ _ _ _ (pv 3)))),?_⟩
 intro k1 hk1
 have t1:=same_new hk1 (.dK [])
 intro k2 hk2
 have t2:=same_new hk2 (.dK [])
 have t12:=t1.trans t2
 intro x dx' nx ndx nex
 have ea:=same_new ndx (.own x)
 have nx':upd (upd (upd H k1 (.dK [])) k2 (.dK [])) dx' (.own x) x=none:=by rw [upd_ne (Ne.symm nex)];exact nx
 have eab:=ea.trans (same_new nx' (.ins CF dx' []))
 refine⟨x,dx',k1,k2,[],[],rfl,upd_same,eab _ _ (t2 _ _ upd_same),eab _ _ upd_same,fun d e fs' H7 hd he nde hx lk lf lh lp hd7 he7 keep=>⟨rfl,?_⟩⟩
 have s7:Same H H7:=fun b o hb=>keep b o (eab _ _ (t12 _ _ hb)) (fun z=>by rw [z,t12.free nx] at hb;cases hb)
 have hd0:H d=none:=(t12.trans eab).free hd
 have he0:H e=none:=(t12.trans eab).free he
 have hx0:H x=none:=t12.free nx
 have F7:FullAt K H7 CF x d e [] []:=⟨dx',fs',[],[],hx,lk,lf,hd7,he7,.nil,.nil,lh,lp,nde⟩
 have hlen:xs.length=its.length:=Paired.length hxs
 refine⟨_,rfl,ia,rfl,⟨_,s7.tup hia⟩,?_⟩
 refine for_tup (K:=K) (xs:=xs) (fun i σ H3=>∃(y4:Option V) (m1:Rows1) (m2:Rows2),σ=[some (.ref ia),some (.ref pa),some (.int M),some (.ref x),y4]∧Same H H3∧FullAt K H3 CF x d e m1 m2∧runF parts M (its.take i)=.ok m1 m2∧Ok1 m1∧m1.length≤2*i∧m2.length≤2*i)
  ⟨none,[],[],rfl,s7,F7,rfl,(fun q hq=>nomatch hq),Nat.le_refl _,Nat.le_refl _⟩ ?_ ?_ ?_
 ·rintro i σ H3 _ ⟨_,_,_,_,s3,_⟩
  exact s3.tup hia
 ·rintro i y σ H3 hy ⟨y4,m1,m2,rfl,s3,F3,hrun,ho1,l1,l2⟩
  obtain⟨it,hit,hI⟩:=pair_get hxs hy
  have hil:i < its.length:=(List.getElem?_eq_some_iff.mp hit).1
  have hio':=hio it (List.mem_of_getElem? hit)
  refine⟨_,rfl,_,rfl,_,rfl,_,rfl,H,x,d,e,y,pa,M,m1,m2,parts,it,rfl,s3,hd0,he0,F3,hI,hio',hP,hPo,ho1,by omega,by omega,M0,M6,?_⟩
  cases hs:stepF parts M m1 m2 it with
  |ref c =>
   rw [run_bad hrun hit hs] at hR
   exact hR
  |ok n1 n2 =>
   obtain⟨o1,o2,o3⟩:=step_ok hPo M6 ho1 hio' hs
   exact fun H' s' F'=>⟨_,n1,n2,rfl,s',F',by rw [run_take hrun hit];exact hs,o1,by omega,by omega⟩
 ·rintro σ H3 ⟨y4,m1,m2,rfl,s3,F3,hrun,_⟩
  rw [hlen,List.take_length] at hrun
  rw [hrun] at hR
  exact⟨_,rfl,hR H3 x d e s3 hd0 he0 hx0 F3⟩
abbrev akN:List Str:=["_law_items_here","_law_parts","_law_most","_law_found","_law_refused"]
abbrev akP:List Str:=["_law_items_here","_law_parts","_law_most"]
def AskR(K:PySem.W.Frag)(CF:Addr)(H:Hp)(Q:VK):FR→Prop
 |.ok m1 m2=>∀(H':Hp) (t fa d1 d2:Addr),Same H H'→H d1=none→H d2=none→H fa=none→H' t=some (.tup [.int 9,.ref fa])→FullAt K H' CF fa d1 d2 m1 m2→Q (.ref t) H'
 |.ref c=>c≤3∧∀(H':Hp) (t:Addr),Same H H'→H' t=some (.tup [.int (c:Nat),.non])→Q (.ref t) H'
def spAsked(K:PySem.W.Frag)(CF:Addr):Sp:=fun vs H Q _=>∃(ia:Addr) (xs:List V) (its:List It) (pa:Addr) (M:Int) (parts:Parts),vs=[.ref ia,.ref pa,.int M]∧SqT K H ia xs∧Paired (ItAt K H) xs its∧its.length≤40∧(∀it∈its,ItOk it) ∧
 PtsAt K H CF pa parts∧PaOk parts∧0≤M∧M≤60∧AskR K CF H Q (runF parts M its)
theorem bindFf{f T:Addr}{fd:FuncData}{oT:Value}{dT:Option Addr}{nT:Nat}{sT:Array (Option Value)}{tk:Tok} (F:FunD K "full_face" "full_face" sFullFace (.ref T) f fd) (lT:K.lookup T=some ⟨oT,dT,.seq #[.int 40 tk] nT,sT⟩):Binds K fd ffP [.int 40 tk] :=
 F.binds lT fun _ _ _ _ _ _ us hl=>by
  have hl':us.length=2:=by simpa using hl
  match us,hl' with
  |[_,_],_=>exact⟨_,rfl,rfl⟩
theorem scAsked:FnScope akN akP (defScope sAsked):=⟨rfl,rfl,rfl,by decide +kernel,rfl,by decide +kernel,by decide +kernel⟩
set_option maxHeartbeats 0 in
theorem ok_asked{f ff CF T:Addr}{cl:Nat→Addr}{fd fdf:FuncData}{oT:Value}{dT:Option Addr}{nT:Nat}{sT:Array (Option Value)}{tk:Tok} (F:Fun K "_law_asked" "_law_asked" sAsked f fd)
  (FF:FunD K "full_face" "full_face" sFullFace (.ref T) ff fdf) (lT:K.lookup T=some ⟨oT,dT,.seq #[.int 40 tk] nT,sT⟩) (GF:FnOk P w K mg base (CX1 P w) 43 ff fdf ffP (spFull K CF cl)) (bF:Binds K fdf ffP []) (kF:PySem.W.keepIn K (.ref ff)=true) (mF:mg "full_face"=some (.ref ff))
  (m0:mg "Twice"=some (.ref (cl 0))) (m1:mg "NoName"=some (.ref (cl 1))) (m2:mg "NoKind"=some (.ref (cl 2))) (m3:mg "TooBig"=some (.ref (cl 3)))
  (x00:PySem.W.exmOne K (.ref (cl 0)) (.ref (cl 0))=some true)
  (x10:PySem.W.exmOne K (.ref (cl 1)) (.ref (cl 0))=some false) (x11:PySem.W.exmOne K (.ref (cl 1)) (.ref (cl 1))=some true)
  (x20:PySem.W.exmOne K (.ref (cl 2)) (.ref (cl 0))=some false) (x21:PySem.W.exmOne K (.ref (cl 2)) (.ref (cl 1))=some false) (x22:PySem.W.exmOne K (.ref (cl 2)) (.ref (cl 2))=some true)
  (x30:PySem.W.exmOne K (.ref (cl 3)) (.ref (cl 0))=some false) (x31:PySem.W.exmOne K (.ref (cl 3)) (.ref (cl 1))=some false) (x32:PySem.W.exmOne K (.ref (cl 3)) (.ref (cl 2))=some false) (x33:PySem.W.exmOne K (.ref (cl 3)) (.ref (cl 3))=some true) :
  FnOk P w K mg base CX0 44 f fd akP (spAsked K CF):=by
 refine F.ok scAsked (fun vs H Q E h=>?_) (fun cdv A outer s H vs Q E hr h=>?_)
 ·obtain⟨ia,xs,its,pa,M,parts,rfl,_⟩:=h
  rfl
 obtain⟨ia,xs,its,pa,M,parts,rfl,hia,hxs,h20,hio,hP,hPo,M0,M6,hR⟩:=h
 have b40:=bindFf FF lT
 have d40:Vals [V.int 40] [Value.int 40 tk]:=.cons ⟨tk,rfl⟩ .nil
 obtain⟨th,hh,hN⟩:∃th,PH (cxOf CX0 P w K mg base akN "_law_asked" (defScope sAsked) f cdv A outer s H E).nox (tryHs (List.drop 2 (defBody sAsked))) th ∧
   (∀(D:Ends) (c:Nat) d e H',c≤3→D.nx [some (.ref ia),some (.ref pa),some (.int M),some .non,some (.int c)] H'→th D (.ref (cl c)) d e [some (.ref ia),some (.ref pa),some (.int M),some .non,some (.int 9)] H'):=by
  refine⟨_,ph_cons rfl m0 (fun e=>pss_one (ps_set (i:=4) scAsked.nd rfl (Or.inl rfl) pe_int)) (ph_cons rfl m1 (fun e=>pss_one (ps_set (i:=4) scAsked.nd rfl (Or.inl rfl) pe_int)) (ph_cons rfl m2 (fun e=>pss_one (ps_set (i:=4) scAsked.nd rfl (Or.inl rfl) pe_int)) (ph_cons rfl m3 (fun e=>pss_one (ps_set (i:=4) scAsked.nd rfl (Or.inl rfl) pe_int)) ph_nil))),?_⟩
  intro D c d e H' hc q
  match c,hc with
  |0,_=>exact⟨true,x00,iteT q⟩
  |1,_=>exact⟨false,x10,iteF ⟨true,x11,iteT q⟩⟩
  |2,_=>exact⟨false,x20,iteF ⟨false,x21,iteF ⟨true,x22,iteT q⟩⟩⟩
  |3,_=>exact⟨false,x30,iteF ⟨false,x31,iteF ⟨false,x32,iteF ⟨true,x33,iteT q⟩⟩⟩⟩
 refine⟨_,pss_cons (ps_set (i:=3) scAsked.nd rfl (Or.inl rfl) pe_non)
  (pss_cons (ps_set (i:=4) scAsked.nd rfl (Or.inl rfl) pe_int)
  (pss_cons (ps_try fun pins D=>pss_one (ps_if (pt_cmpR op_eq (pv 2) pe_int (nomark _))
   (pss_one (ps_set (i:=3) scAsked.nd rfl (Or.inl rfl) (pe_callE GF hr rfl mF kF b40 d40 (passT rfl rfl hh) (pa_cons (pv 0) (pa_cons (pv 1) pa_nil)))))
   (pss_one (ps_set (i:=3) scAsked.nd rfl (Or.inl rfl) (pe_callE GF hr rfl mF kF bF .nil (passT rfl rfl hh) (pa_cons (pv 0) (pa_cons (pv 1) (pa_cons (pv 2) pa_nil))))))))
  (pss_one (ps_ret (pe_tup (pa_cons (pv 4) (pa_cons (pv 3) pa_nil))))))),?_⟩
 refine⟨_,rfl,rfl,_,rfl,ite2 (fun c=>?_) (fun c=>?_)⟩
 ·have c':V.int M=V.int 40:=of_decide_eq_true c
  obtain rfl:M=40:=by injection c'
  refine⟨_,rfl,_,rfl,ia,xs,its,pa,40,parts,rfl,hia,hxs,h20,hio,hP,hPo,M0,M6,?_⟩
  cases hs:runF parts 40 its with
  |ref c =>
   rw [hs] at hR
   intro H' s' x hx
   refine hN _ c _ _ _ hR.1 ⟨_,rfl,_,rfl,(by show 2≤sizeLine;decide),fun t ht=>?_⟩
   exact hR.2 _ t (s'.trans (same_new ht _)) upd_same
  |ok n1 n2 =>
   rw [hs] at hR
   intro H' fa d1 d2 s' h1 h2 h3 F'
   refine⟨_,rfl,_,rfl,(by show 2≤sizeLine;decide),fun t ht=>?_⟩
   exact hR _ t fa d1 d2 (s'.trans (same_new ht _)) h1 h2 h3 upd_same (F'.same (same_new ht _))
 ·refine⟨_,rfl,_,rfl,_,rfl,ia,xs,its,pa,M,parts,rfl,hia,hxs,h20,hio,hP,hPo,M0,M6,?_⟩
  cases hs:runF parts M its with
  |ref c =>
   rw [hs] at hR
   intro H' s' x hx
   refine hN _ c _ _ _ hR.1 ⟨_,rfl,_,rfl,(by show 2≤sizeLine;decide),fun t ht=>?_⟩
   exact hR.2 _ t (s'.trans (same_new ht _)) upd_same
  |ok n1 n2 =>
   rw [hs] at hR
   intro H' fa d1 d2 s' h1 h2 h3 F'
   refine⟨_,rfl,_,rfl,(by show 2≤sizeLine;decide),fun t ht=>?_⟩
   exact hR _ t fa d1 d2 (s'.trans (same_new ht _)) h1 h2 h3 upd_same (F'.same (same_new ht _))
end
end K41
namespace K41
open PySem L2 Kk
theorem pappR{α β:Type}{R:α→β→Prop}:∀{xs:List α} {ys:List β} {us:List α} {vs:List β},Paired R xs ys→Paired R us vs→Paired R (xs++us) (ys++vs)
 |_,_,_,_,.nil,h=>h
 |_,_,_,_,.cons a b,h=>.cons a (pappR b h)
def spSize(K:PySem.W.Frag)(n:Nat):Sp:=fun vs H Q _=>∃(x:V) (k:Kd),vs=[x]∧KdAt K H x k∧Kd.depth k≤n∧∀H',Same H H'→Q (.int (k.words:Int)) H'
def greatK:Nat→Kd
 |0=>.num 2
 |n+1=>.pair (greatK n) (.num (3+(n:Int)))
def spGreat(K:PySem.W.Frag):Sp:=fun vs H Q _=>∃n:Nat,vs=[.int (n:Int)]∧n≤30∧∀H' v,Same H H'→KdAt K H' v (greatK n)→Q v H'
section
variable{P:Program}{w:World}{K:PySem.W.Frag}{mg:Str→Option Value}{base:Heap}
abbrev szP:List Str:=["_law_kind_here"]
theorem scSize:FnScope szP szP (defScope sSize):=⟨rfl,rfl,rfl,by decide +kernel,rfl,by decide +kernel,by decide +kernel⟩
theorem ok_size{f:Addr}{fd:FuncData} (F:Fun K "_law_size" "_law_size" sSize f fd) (bS:Binds K fd szP []) (kS:PySem.W.keepIn K (.ref f)=true) (mS:mg "_law_size"=some (.ref f)) :
  ∀n,FnOk P w K mg base CX0 n f fd szP (spSize K n)
 |0=>⟨fun vs H Q E h=>by obtain⟨x,k,rfl,_⟩:=h;rfl,fun A outer s H args us vs Q E _ _ _ _ h=>by
   obtain⟨x,k,_,_,hd,_⟩:=h
   have:=depth_pos k
   omega⟩
 |n+1=>by
  have IH:=ok_size F bS kS mS n
  refine F.ok scSize (fun vs H Q E h=>?_) (fun cdv A outer s H vs Q E hr h=>?_)
  ·obtain⟨x,k,rfl,_⟩:=h
   rfl
  obtain⟨x,k,rfl,hk,hd,q⟩:=h
  refine⟨_,@pss_cons _ _ _ _ _ (ps_if (pt_cmpR op_eq (pe_ix ix_tup (pv 0) pe_int (fun _ _=>rfl)) pe_str (nomark _))
    (@pss_one _ _ _ (@ps_ret _ _ _ _ (pe_op op_add (pe_op op_add pe_int (pe_call IH hr rfl mS kS bS .nil pass0 (@pa_cons _ _ _ _ _ (pe_ix ix_tup (pv 0) pe_int (fun _ _=>rfl)) pa_nil rfl))) (pe_call IH hr rfl mS kS bS .nil pass0 (@pa_cons _ _ _ _ _ (pe_ix ix_tup (pv 0) pe_int (fun _ _=>rfl)) pa_nil rfl))))) pss_nil)
   (@pss_one _ _ _ (@ps_ret _ _ _ _ pe_int)),?_⟩
  cases hk with
  |@num p m t =>
   exact⟨_,rfl,_,_,_,_,rfl,rfl,t,(show atI [V.str "num",.int m] 0=some (.str "num") from rfl),rfl,_,rfl,ite2 (fun c=>absurd c (by decide +kernel)) (fun _=>q _ (Same.refl _))⟩
  |@name p a b t =>
   exact⟨_,rfl,_,_,_,_,rfl,rfl,t,(show atI [V.str "name",.str a,.str b] 0=some (.str "name") from rfl),rfl,_,rfl,ite2 (fun c=>absurd c (by decide +kernel)) (fun _=>q _ (Same.refl _))⟩
  |@pair p y z a b t ha hb =>
   have hd':1+max (Kd.depth a) (Kd.depth b)≤n+1:=hd
   refine⟨_,rfl,_,_,_,_,rfl,rfl,t,(show atI [V.str "pair",y,z] 0=some (.str "pair") from rfl),rfl,_,rfl,ite2 (fun _=>?_) (fun c=>absurd (by decide +kernel) c)⟩
   refine⟨_,rfl,_,_,_,_,rfl,rfl,t,(show atI [V.str "pair",y,z] 1=some y from rfl),y,a,rfl,ha,by omega,fun H1 s1=>?_⟩
   refine⟨_,_,rfl,rfl,_,rfl,_,_,_,_,rfl,rfl,s1.tup t,(show atI [V.str "pair",y,z] 2=some z from rfl),z,b,rfl,hb.same s1,by omega,fun H2 s2=>?_⟩
   refine⟨_,_,rfl,rfl,?_⟩
   show Q (.int ((1:Int)+(a.words:Int)+(b.words:Int))) H2
   have e:(1:Int)+(a.words:Int)+(b.words:Int)=(((Kd.pair a b).words:Nat):Int):=by
    show _=((1+a.words+b.words:Nat):Int)
    omega
   rw [e]
   exact q _ (s1.trans s2)
abbrev grN:List Str:=["_law_count","_law_kind_here","_law_k"]
theorem scGreat:FnScope grN ["_law_count"] (defScope sGreat):=⟨rfl,rfl,rfl,by decide +kernel,rfl,by decide +kernel,by decide +kernel⟩
set_option maxHeartbeats 0 in
theorem ok_great{f:Addr}{fd:FuncData} (F:Fun K "_law_great" "_law_great" sGreat f fd) (mr:mg "range"=none):FnOk P w K mg base CX0 1 f fd ["_law_count"] (spGreat K):=by
 refine F.ok scGreat (fun vs H Q E h=>?_) (fun cdv A outer s H vs Q E hr h=>?_)
 ·obtain⟨n,rfl,_⟩:=h
  rfl
 obtain⟨n,rfl,h30,q⟩:=h
 refine⟨_,@pss_cons _ _ _ _ _ (ps_set (i:=1) scGreat.nd rfl (Or.inl rfl) (@pe_tup _ _ _ _ _ (@pa_cons _ _ _ _ _ pe_str (@pa_cons _ _ _ _ _ pe_int pa_nil rfl) rfl)))
  (@pss_cons _ _ _ _ _ (ps_for PassesOwn.never rfl (pi_range1 rfl mr (@pa_cons _ _ _ _ _ (pv 0) pa_nil rfl)) (pg_name (i:=2) scGreat.nd rfl (Or.inl rfl))
   (@pss_one _ _ _ (ps_set (i:=1) scGreat.nd rfl (Or.inl rfl) (@pe_tup _ _ _ _ _ (@pa_cons _ _ _ _ _ pe_str (@pa_cons _ _ _ _ _ (pv 1) (@pa_cons _ _ _ _ _ (@pe_tup _ _ _ _ _ (@pa_cons _ _ _ _ _ pe_str (@pa_cons _ _ _ _ _ (pe_op op_add pe_int (pv 2)) pa_nil rfl) rfl)) pa_nil rfl) rfl) rfl)))))
  (@pss_one _ _ _ (@ps_ret _ _ _ _ (pv 1)))),?_⟩
 refine⟨(by show 2≤sizeLine;decide),fun p hp=>?_⟩
 have s1:=same_new hp (.tup [.str "num",.int 2])
 refine⟨_,rfl,_,rfl,by omega,by omega,?_⟩
 refine for_range (fun i σ H2=>∃(y2:Option V) (v:V),σ=[some (.int (n:Int)),some v,y2]∧Same H H2∧KdAt K H2 v (greatK i))
  ⟨none,_,rfl,s1,.num (SqT.of upd_same)⟩ ?_ ?_
 ·rintro i σ H2 hi ⟨y2,v,rfl,s2,hv⟩
  rw [Int.zero_add]
  refine⟨_,rfl,_,rfl,_,_,rfl,rfl,(by show 2≤sizeLine;decide),fun p2 hp2=>?_⟩
  have s3:=same_new hp2 (.tup [.str "num",.int (3+(i:Int))])
  refine⟨(by show 3≤sizeLine;decide),fun p3 hp3=>?_⟩
  have s4:=same_new hp3 (.tup [.str "pair",v,.ref p2])
  exact⟨_,_,rfl,s2.trans (s3.trans s4),.pair (SqT.of upd_same) (hv.same (s3.trans s4)) (.num (SqT.of (s4 _ _ upd_same)))⟩
 ·rintro σ H2 ⟨y2,v,rfl,s2,hv⟩
  exact⟨_,rfl,q _ v s2 (by simpa using hv)⟩
end
theorem ht_upd{B:Hp}{l a:Addr}{us zz:List V}{o:HO}(h:B l=some (.lst us))(t:B a=some (.tup zz)):upd B l o a=some (.tup zz):=by
 rw [upd_ne (fun e=>by rw [e,h] at t;cases t)]
 exact t
theorem PrAt.upd{K:PySem.W.Frag}{B:Hp}{l:Addr}{us:List V}{o:HO}{v:V}{q:Str × Kd}(h:B l=some (.lst us))(t:PrAt K B v q):PrAt K (upd B l o) v q:=by
 obtain⟨p,y,e1,e2,e3⟩:=t
 exact⟨p,y,e1,ht_upd h e2,kd_keep (fun _ _=>sqt_upd h) e3⟩
theorem FrAt.upd{K:PySem.W.Frag}{B:Hp}{l:Addr}{us:List V}{o:HO}{v:V}{q:Str × (List Kd × Kd)}(h:B l=some (.lst us))(t:FrAt K B v q):FrAt K (upd B l o) v q:=by
 obtain⟨p,y,e1,e2,e3⟩:=t
 exact⟨p,y,e1,ht_upd h e2,e3.keep fun _ _=>sqt_upd h⟩
structure KnOk(ns:List Int)(k:Int)(part:Str)(r1:Rows1)(r2:Rows2):Prop where
 pt:part=wordL (cellOf ns 1) k
 n1:∃n,n≤2∧r1.map (·.1)=wds (cellOf ns 4) (20+3*k) n
 n2:∃n,n≤2∧r2.map (·.1)=wds (cellOf ns 7) (20+3*k) n
 k1:∀q∈r1,Kd.ok q.2∧q.2.leaves.length≤3
 k2:∀q∈r2,q.2.1.length≤1∧∀x∈q.2.2::q.2.1,Kd.ok x∧x.leaves.length≤9
def spKnown(K:PySem.W.Frag):Sp:=fun vs H Q _=>∃(a:Addr) (ns:List Int) (k:Int),vs=[.ref a,.int k]∧SqL K H a (ns.map V.int)∧ns.length≤63∧0≤k∧k≤1 ∧
 ∀(H':Hp) (t l1 l2:Addr) (part:Str) (r1:Rows1) (r2:Rows2),Same H H'→H' t=some (.tup [.str part,.ref l1,.ref l2])→RkAt K H' l1 r1→RfAt K H' l2 r2→KnOk ns k part r1 r2→Q (.ref t) H'
theorem mixG_ok{n:Nat}{k:Kd}(h:MixG (fun x=>Kd.ok x∧x.leaves.length≤n) k):Kd.ok k∧k.leaves.length≤3*n:=by
 rcases h with ⟨h1,h2⟩|⟨a,b,⟨a1,a2⟩,⟨b1,b2⟩,rfl|rfl⟩
 ·exact⟨h1,by omega⟩
 ·refine⟨⟨a1,b1⟩,?_⟩
  show(a.leaves++b.leaves).length≤_
  rw [List.length_append]
  omega
 ·refine⟨⟨b1,a1,b1⟩,?_⟩
  show(b.leaves++(a.leaves++b.leaves)).length≤_
  rw [List.length_append,List.length_append]
  omega
theorem num_ok{n:Int}(h0:0≤n)(h1:n≤10 ^ 18):Kd.ok (.num n)∧(Kd.num n).leaves.length≤1:=⟨by trivial,Nat.le_refl _⟩
theorem wL_ok(c k:Int):okW (wordL c k):=⟨(smW_L c k).1,Nat.le_trans (smW_L c k).2 (by decide)⟩
abbrev knN:List Str:=["_law_script","_law_k","_law_part","_law_kinds","_law_j","_law_word_here","_law_cell_here","_law_hidden","_law_funs","_law_kind_here"]
abbrev knP:List Str:=["_law_script","_law_k"]
section
variable{P:Program}{w:World}{K:PySem.W.Frag}{mg:Str→Option Value}{base:Heap}
theorem scKnown:FnScope knN knP (defScope sKnown):=⟨rfl,rfl,rfl,by decide +kernel,rfl,by decide +kernel,by decide +kernel⟩
set_option maxHeartbeats 0 in
theorem kn3{f fc fw fm:Addr}{fdc fdw fdm:FuncData}
  (GC:FnOk P w K mg base CX0 1 fc fdc ["_law_script","_law_k"] (spCellX K)) (bC:Binds K fdc ["_law_script","_law_k"] []) (kC:PySem.W.keepIn K (.ref fc)=true) (mC:mg "_law_cell"=some (.ref fc))
  (GW:FnOk P w K mg base CX0 1 fw fdw wlP spWordL) (bW:Binds K fdw wlP []) (kW:PySem.W.keepIn K (.ref fw)=true) (mW:mg "_law_word"=some (.ref fw))
  (GM:FnOk P w K mg base CX0 1 fm fdm mxP (spMix K)) (bM:Binds K fdm mxP []) (kM:PySem.W.keepIn K (.ref fm)=true) (mM:mg "_law_mix"=some (.ref fm)) (mr:mg "range"=none)
  {cdv:Value} {A:Around} {outer:List Env} {s:Shared} {H:Hp} {E:XK} (hr:Room 1 (A.deeper (PyProof.Rows.envOfC "_law_known" (defScope sKnown) s.heap.objs.size f cdv))) :
  ∃t,PSs (cxOf CX0 P w K mg base knN "_law_known" (defScope sKnown) f cdv A outer s H E).nox (List.drop 3 (defBody sKnown)) t ∧
   ∀(Q:VK) (H1:Hp) (a kl:Addr) (ns:List Int) (k:Int) (part:Str) (r1:Rows1) (y4 y5 y6 y7:Option V),
    SqL K H1 a (ns.map V.int)→ns.length≤63→0≤k→k≤1→RkAt K H1 kl r1→r1.length≤2→(∀q∈r1,Kd.ok q.2∧q.2.leaves.length≤3) →
    (∀(H':Hp) (t l2:Addr) (r2:Rows2),Same H1 H'→H' t=some (.tup [.str part,.ref kl,.ref l2])→RfAt K H' l2 r2→(∃n,n≤2∧r2.map (·.1)=wds (cellOf ns 7) (20+3*k) n)→(∀q∈r2,q.2.1.length≤1∧∀x∈q.2.2::q.2.1,Kd.ok x∧x.leaves.length≤9)→Q (.ref t) H') →
    t { nx:=fun _ H'=>Q .non H',rt:=Q } [some (.ref a),some (.int k),some (.str part),some (.ref kl),y4,y5,y6,y7,none,none] H1:=by
 refine⟨_,@pss_cons _ _ _ _ _ (ps_set (i:=8) scKnown.nd rfl (Or.inl rfl) (pe_lst pa_nil))
  (@pss_cons _ _ _ _ _ (ps_for PassesOwn.never rfl (pi_range1 rfl mr (@pa_cons _ _ _ _ _ (pe_op op_mod (pe_op op_fdiv (pe_call GC hr rfl mC kC bC .nil pass0 (@pa_cons _ _ _ _ _ (pv 0) (@pa_cons _ _ _ _ _ (pe_op op_add pe_int (pv 1)) pa_nil rfl) rfl)) pe_int) pe_int) pa_nil rfl)) (pg_name (i:=4) scKnown.nd rfl (Or.inl rfl))
   (@pss_cons _ _ _ _ _ (ps_set (i:=9) scKnown.nd rfl (Or.inl rfl) (pe_call GM hr rfl mM kM bM .nil pass0 (@pa_cons _ _ _ _ _ (pe_op op_add (pe_call GC hr rfl mC kC bC .nil pass0 (@pa_cons _ _ _ _ _ (pv 0) (@pa_cons _ _ _ _ _ (pe_op op_add pe_int (pv 4)) pa_nil rfl) rfl)) (pv 1)) (@pa_cons _ _ _ _ _ (pe_comp (own:=["_law_word_here","_law_kind_here"]) (caps:=[]) (κ:=[]) (cl:=[]) rfl ⟨rfl,by decide +kernel,by decide +kernel,rfl,rfl,(fun y hy=>nomatch hy),(fun y hy=>nomatch hy)⟩ rfl
     (pi_list (pv 3)) (fun _ _ _ _=>pg_two (K:=K) (i:=0) (j:=1) rfl rfl (show(["_law_word_here","_law_kind_here"]:List Str).Nodup from by decide +kernel) rfl (Or.inl rfl) (Or.inr rfl) rfl (Or.inl rfl) (Or.inr rfl)) (fun _ _ _ _=>pv 1)) pa_nil rfl) rfl)))
   (@pss_one _ _ _ (ps_expr (pe_bm PySem.F.plainAttrs_list PySem.F.slot_list_append PySem.F.type_list_append mt_append (pv 8) (@pa_cons _ _ _ _ _ (@pe_tup _ _ _ _ _ (@pa_cons _ _ _ _ _ (pe_call GW hr rfl mW kW bW .nil pass0 (@pa_cons _ _ _ _ _ (pe_call GC hr rfl mC kC bC .nil pass0 (@pa_cons _ _ _ _ _ (pv 0) (@pa_cons _ _ _ _ _ pe_int pa_nil rfl) rfl)) (@pa_cons _ _ _ _ _ (pe_op op_add (pe_op op_add pe_int (pe_op op_mul pe_int (pv 1))) (pv 4)) pa_nil rfl) rfl)) (@pa_cons _ _ _ _ _ (@pe_tup _ _ _ _ _ (@pa_cons _ _ _ _ _ (pe_op op_mulT (@pe_tup _ _ _ _ _ (@pa_cons _ _ _ _ _ (pv 9) pa_nil rfl)) (pv 4)) (@pa_cons _ _ _ _ _ (@pe_tup _ _ _ _ _ (@pa_cons _ _ _ _ _ pe_str (@pa_cons _ _ _ _ _ (pe_op op_add pe_int (pv 1)) pa_nil rfl) rfl)) pa_nil rfl) rfl)) pa_nil rfl) rfl)) pa_nil rfl))))))
  (@pss_one _ _ _ (@ps_ret _ _ _ _ (@pe_tup _ _ _ _ _ (@pa_cons _ _ _ _ _ (pv 2) (@pa_cons _ _ _ _ _ (pv 3) (@pa_cons _ _ _ _ _ (pv 8) pa_nil rfl) rfl) rfl))))),?_⟩
 intro Q H1 a kl ns k part r1 y4 y5 y6 y7 hA h63 k0 k1 hK hr1 hall q
 have cl:∀{H':Hp},Same H1 H'→SqL K H' a (ns.map V.int):=fun e=>sql_same e hA
 refine⟨(by show 0≤sizeLine;decide),fun fl hfl=>?_⟩
 have s1:=same_new hfl (.lst [])
 refine⟨_,rfl,_,rfl,_,_,rfl,rfl,a,ns,2+k,rfl,cl s1,h63,by omega,by omega,fun c hc=>?_⟩
 have b0:=Int.emod_nonneg (c / 3) (show(3:Int)≠0 by decide)
 have b1:=Int.emod_lt_of_pos (c / 3) (show(0:Int) < 3 by decide)
 refine⟨_,_,rfl,rfl,⟨by decide,by decide⟩,_,_,rfl,rfl,(by show(0:Int) < 3;decide),_,rfl,by omega,by omega,?_⟩
 refine for_range (fun i σ H2=>∃(z4 z9:Option V) (us:List V) (m2:Rows2),σ=[some (.ref a),some (.int k),some (.str part),some (.ref kl),z4,y5,y6,y7,some (.ref fl),z9]∧Same H1 H2∧H2 fl=some (.lst us)∧Paired (FrAt K H2) us m2∧m2.map (·.1)=wds (cellOf ns 7) (20+3*k) i∧∀q∈m2,q.2.1.length≤1∧∀x∈q.2.2::q.2.1,Kd.ok x∧x.leaves.length≤9)
  ⟨y4,none,[],[],rfl,s1,upd_same,.nil,rfl,fun q hq=>nomatch hq⟩ ?_ ?_
 ·rintro i σ H2 hi ⟨z4,z9,us,m2,rfl,s2,hu2,hp2,hk2,hm2⟩
  rw [Int.zero_add]
  have hi2:i < 2+1:=by omega
  have hul:us.length=i:=by
   have e1:=Paired.length hp2
   have e2:=congrArg List.length hk2
   rw [List.length_map,wds_len] at e2
   omega
  refine⟨_,rfl,_,rfl,_,_,rfl,rfl,a,ns,6+(i:Int),rfl,cl s2,h63,by omega,by omega,fun c2 hc2=>?_⟩
  obtain⟨rx,hkl,hrx⟩:=hK.same s2
  have hrl:=Paired.length hrx
  refine⟨_,rfl,_,_,rfl,rfl,_,rfl,kl,rfl,⟨_,SqL.of hkl⟩,?_⟩
  refine comp_l (SqL.of hkl) (by omega) (fun j ys H3=>ys.length≤j∧∃ks:List Kd,KdsAt K H3 ys ks∧∀x∈ks,Kd.ok x∧x.leaves.length≤3) ⟨Nat.le_refl _,[],.nil,fun x hx=>nomatch hx⟩ (fun _ _ _ h=>h.1) ?_ ?_
  ·rintro j x ys H3 N hN hx s3 ⟨hyl,ks,hks,hkk⟩
   obtain⟨⟨z,kk⟩,hq,p,y,rfl,hp,hy⟩:=pair_get hrx hx
   replace hp:H2 p=some (.tup [.str z,y]):=hp
   replace hy:KdAt K H2 y kk:=hy
   refine⟨p,_,rfl,SqT.of (s3 _ _ hp),rfl,_,_,rfl,_,_,rfl,rfl,rfl,tYes_go ⟨_,rfl,hN _ _ s3 ⟨by rw [List.length_append];show ys.length+1≤j+1;omega,ks++[kk],hks.append (.cons (hy.same s3) .nil),fun x hx=>?_⟩⟩⟩
   rcases List.mem_append.mp hx with h|h
   ·exact hkk x h
   ·rw [List.mem_singleton.mp h]
    exact hall _ (List.mem_of_getElem? hq)
  rintro ys H3 D s3 ⟨hyl,ks,hks,hkk⟩ hD
  have t3:=same_new hD (.lst ys)
  have kl5:=hks.length
  refine⟨_,D,ys,ks,(fun x=>Kd.ok x∧x.leaves.length≤3),rfl,upd_same,hks.same t3,by omega,hkk,fun n n0 n1=>⟨(num_ok n0 n1).1,Nat.le_trans (num_ok n0 n1).2 (by decide)⟩,fun H4 v kk s4 hv hm=>?_⟩
  obtain⟨g1,g2⟩:=mixG_ok hm
  have s24:=s3.trans (t3.trans s4)
  have s14:=s2.trans s24
  refine⟨_,rfl,.inl ⟨rfl,_,SqL.of (s24 _ _ hu2)⟩,_,rfl,a,ns,7,rfl,cl s14,h63,by decide,by decide,fun c7 hc7=>?_⟩
  refine⟨_,rfl,_,_,rfl,rfl,.inl ⟨by decide,by decide⟩,_,_,rfl,rfl,_,rfl,_,_,rfl,rfl,c7,20+3*k+(i:Int),rfl,fun H5 s5=>?_⟩
  refine⟨_,rfl,(by show 1≤sizeLine;decide),fun p1 hp1=>?_⟩
  have s6:=same_new hp1 (.tup [v])
  refine⟨_,rfl,p1,(i:Int),[v],rfl,rfl,SqT.of upd_same,(fun e=>by cases e),by omega,by omega,by show 1*(i:Int).toNat≤1000;omega,fun p2 H7 s7 hp2'=>?_⟩
  refine⟨_,rfl,_,_,rfl,rfl,(by show 2≤sizeLine;decide),fun p8 hp8=>?_⟩
  have s8:=same_new hp8 (.tup [.str "num",.int (3+k)])
  refine⟨(by show 2≤sizeLine;decide),fun p9 hp9=>?_⟩
  have s9:=same_new hp9 (.tup [.ref p2,.ref p8])
  refine⟨(by show 2≤sizeLine;decide),fun pz hpz=>?_⟩
  have sz:=same_new hpz (.tup [.str (wordL c7 (20+3*k+(i:Int))),.ref p9])
  have sB:=s24.trans (s5.trans (s6.trans (s7.trans (s8.trans (s9.trans sz)))))
  have hfB:=sB _ _ hu2
  refine⟨fl,us,.ref pz,rfl,rfl,hfB,Nat.lt_of_lt_of_le (Nat.lt_succ_self _) (small (by omega)),?_⟩
  have hrep:∃g:List Kd,g.length≤i∧KdsAt K H7 (List.replicate (i:Int).toNat [v]).flatten g∧∀x∈g,x=kk:=by
   have hvv:=((hv.same s5).same s6).same s7
   rw [Int.toNat_natCast]
   clear hi hul hk2 hi2 hp2' s7
   have:∀j:Nat,∃g:List Kd,g.length≤j∧KdsAt K H7 (List.replicate j [v]).flatten g∧∀x∈g,x=kk:=by
    intro j
    induction j with
    |zero=>exact⟨[],Nat.le_refl _,.nil,fun x hx=>nomatch hx⟩
    |succ j ih =>
     obtain⟨g,h1,h2,h3⟩:=ih
     refine⟨kk::g,by show g.length+1≤_;omega,?_,fun x hx=>?_⟩
     ·rw [List.replicate_succ,List.flatten_cons]
      exact .cons hvv h2
     ·rcases List.mem_cons.mp hx with h|h
      ·exact h
      ·exact h3 x h
   exact this i
  obtain⟨g,hgl,hgk,hge⟩:=hrep
  have hFr:FrAt K (upd (upd (upd H7 p8 (.tup [.str "num",.int (3+k)])) p9 (.tup [.ref p2,.ref p8])) pz (.tup [.str (wordL c7 (20+3*k+(i:Int))),.ref p9])) (.ref pz) (wordL c7 (20+3*k+(i:Int)),(g,.num (3+k))) :=
   ⟨pz,.ref p9,rfl,upd_same,p9,p2,.ref p8,_,rfl,SqT.of (sz _ _ upd_same),(s8.trans (s9.trans sz)).tup hp2',hgk.same (s8.trans (s9.trans sz)),.num (SqT.of ((s9.trans sz) _ _ upd_same))⟩
  refine⟨_,_,us++[.ref pz],m2++[(wordL c7 (20+3*k+(i:Int)),(g,.num (3+k)))],rfl,sput (s2.trans sB) hfl,upd_same,?_,?_,fun q hq=>?_⟩
  ·exact pappR (Paired.mapP hp2 fun _ _ h=>(h.same sB).upd hfB) (.cons (hFr.upd hfB) .nil)
  ·rw [List.map_append,hk2,wds_snoc,hc7]
   rfl
  ·rcases List.mem_append.mp hq with h|h
   ·exact hm2 q h
   ·rw [List.mem_singleton.mp h]
    refine⟨by show g.length≤1;omega,fun x hx=>?_⟩
    rcases List.mem_cons.mp hx with h|h
    ·rw [h]
     exact⟨by trivial,by show 1≤9;decide⟩
    ·rw [hge x h]
     exact⟨g1,by omega⟩
 ·rintro σ H2 ⟨z4,z9,us,m2,rfl,s2,hu2,hp2,hk2,hm2⟩
  refine⟨_,rfl,_,rfl,_,rfl,(by show 3≤sizeLine;decide),fun t ht=>?_⟩
  have s3:=same_new ht (.tup [.str part,.ref kl,.ref fl])
  exact q _ t fl m2 (s2.trans s3) upd_same ⟨us,s3 _ _ hu2,Paired.mapP hp2 fun _ _ h=>h.same s3⟩ ⟨_,by omega,hk2⟩ hm2
set_option maxHeartbeats 0 in
theorem ok_known{f fc fw fm:Addr}{fd fdc fdw fdm:FuncData} (F:Fun K "_law_known" "_law_known" sKnown f fd)
  (GC:FnOk P w K mg base CX0 1 fc fdc ["_law_script","_law_k"] (spCellX K)) (bC:Binds K fdc ["_law_script","_law_k"] []) (kC:PySem.W.keepIn K (.ref fc)=true) (mC:mg "_law_cell"=some (.ref fc))
  (GW:FnOk P w K mg base CX0 1 fw fdw wlP spWordL) (bW:Binds K fdw wlP []) (kW:PySem.W.keepIn K (.ref fw)=true) (mW:mg "_law_word"=some (.ref fw))
  (GM:FnOk P w K mg base CX0 1 fm fdm mxP (spMix K)) (bM:Binds K fdm mxP []) (kM:PySem.W.keepIn K (.ref fm)=true) (mM:mg "_law_mix"=some (.ref fm)) (mr:mg "range"=none) :
  FnOk P w K mg base CX0 2 f fd knP (spKnown K):=by
 refine F.ok scKnown (fun vs H Q E h=>?_) (fun cdv A outer s H vs Q E hr h=>?_)
 ·obtain⟨a,ns,k,rfl,_⟩:=h
  rfl
 obtain⟨a,ns,k,rfl,hA,h63,k0,k1,q⟩:=h
 have hu:=hr.units
 obtain⟨t3,e3,k3⟩:=kn3 (f:=f) (outer:=outer) (H:=H) (E:=E) GC bC kC mC GW bW kW mW GM bM kM mM mr hr
 have cl:∀{H':Hp},Same H H'→SqL K H' a (ns.map V.int):=fun e=>sql_same e hA
 refine⟨_,@pss_cons _ _ _ _ _ (ps_set (i:=2) scKnown.nd rfl (Or.inr rfl) (pe_call GW hr rfl mW kW bW .nil pass0 (@pa_cons _ _ _ _ _ (pe_call GC hr rfl mC kC bC .nil pass0 (@pa_cons _ _ _ _ _ (pv 0) (@pa_cons _ _ _ _ _ pe_int pa_nil rfl) rfl)) (@pa_cons _ _ _ _ _ (pv 1) pa_nil rfl) rfl)))
  (@pss_cons _ _ _ _ _ (ps_set (i:=3) scKnown.nd rfl (Or.inl rfl) (pe_lst pa_nil))
  (@pss_cons _ _ _ _ _ (ps_for PassesOwn.never rfl (pi_range1 rfl mr (@pa_cons _ _ _ _ _ (pe_op op_mod (pe_call GC hr rfl mC kC bC .nil pass0 (@pa_cons _ _ _ _ _ (pv 0) (@pa_cons _ _ _ _ _ (pe_op op_add pe_int (pv 1)) pa_nil rfl) rfl)) pe_int) pa_nil rfl)) (pg_name (i:=4) scKnown.nd rfl (Or.inl rfl))
   (@pss_cons _ _ _ _ _ (ps_set (i:=5) scKnown.nd rfl (Or.inl rfl) (pe_call GW hr rfl mW kW bW .nil pass0 (@pa_cons _ _ _ _ _ (pe_call GC hr rfl mC kC bC .nil pass0 (@pa_cons _ _ _ _ _ (pv 0) (@pa_cons _ _ _ _ _ pe_int pa_nil rfl) rfl)) (@pa_cons _ _ _ _ _ (pe_op op_add (pe_op op_add pe_int (pe_op op_mul pe_int (pv 1))) (pv 4)) pa_nil rfl) rfl)))
   (@pss_cons _ _ _ _ _ (ps_set (i:=6) scKnown.nd rfl (Or.inl rfl) (pe_op op_add (pe_call GC hr rfl mC kC bC .nil pass0 (@pa_cons _ _ _ _ _ (pv 0) (@pa_cons _ _ _ _ _ (pe_op op_add pe_int (pv 4)) pa_nil rfl) rfl)) (pv 1)))
   (@pss_cons _ _ _ _ _ (ps_comp_if (i0:=7) (own:=["_law_one","_law_kind_here"]) (caps:=["_law_part"]) (κ:=[2]) scKnown.nd rfl (Or.inl rfl) rfl ⟨rfl,by decide +kernel,by decide +kernel,rfl,rfl,one_of rfl,one_of ⟨.inl rfl,rfl,.inl rfl⟩⟩ rfl
    (pi_list (pv 3)) (fun _ _ _ _=>pg_two (K:=K) (i:=0) (j:=1) rfl rfl (show(["_law_one","_law_kind_here","_law_part"]:List Str).Nodup from by decide +kernel) rfl (Or.inl rfl) (Or.inr rfl) rfl (Or.inl rfl) (Or.inr rfl))
    (fun _ _ _ _=>pt_cmpR (eqK (K:=K) rfl hu) (pv 1) (@pe_tup _ _ _ _ _ (@pa_cons _ _ _ _ _ pe_str (@pa_cons _ _ _ _ _ (pv 2) (@pa_cons _ _ _ _ _ (pv 0) pa_nil rfl) rfl) rfl)) (nomark _)) (fun _ _ _ _=>pv 1))
   (@pss_one _ _ _ (ps_expr (pe_bm PySem.F.plainAttrs_list PySem.F.slot_list_append PySem.F.type_list_append mt_append (pv 3) (@pa_cons _ _ _ _ _ (@pe_tup _ _ _ _ _ (@pa_cons _ _ _ _ _ (pv 5) (@pa_cons _ _ _ _ _ (pe_ix ix_list (pe_lst (@pa_cons _ _ _ _ _ (pe_call GM hr rfl mM kM bM .nil pass0 (@pa_cons _ _ _ _ _ (pv 6) (@pa_cons _ _ _ _ _ (pe_op op_cat (pv 7) (pe_lst (@pa_cons _ _ _ _ _ (@pe_tup _ _ _ _ _ (@pa_cons _ _ _ _ _ pe_str (@pa_cons _ _ _ _ _ pe_str (@pa_cons _ _ _ _ _ pe_str pa_nil rfl) rfl) rfl)) pa_nil rfl))) pa_nil rfl) rfl)) (@pa_cons _ _ _ _ _ (@pe_tup _ _ _ _ _ (@pa_cons _ _ _ _ _ pe_str (@pa_cons _ _ _ _ _ (pv 2) (@pa_cons _ _ _ _ _ (pv 5) pa_nil rfl) rfl) rfl)) pa_nil rfl) rfl)) (pe_op op_mod (pe_op op_fdiv (pv 6) pe_int) pe_int) (fun _ _=>rfl)) pa_nil rfl) rfl)) pa_nil rfl))))))))
  e3)),?_⟩
 refine⟨_,rfl,a,ns,1,rfl,hA,h63,by decide,by decide,fun c1 hc1=>?_⟩
 refine⟨_,rfl,c1,k,rfl,fun H1 s1=>?_⟩
 refine⟨(by show 0≤sizeLine;decide),fun kl hkl=>?_⟩
 have s2:=same_new hkl (.lst [])
 have s12:=s1.trans s2
 have hkl0:H kl=none:=s1.free hkl
 refine⟨_,rfl,_,rfl,_,_,rfl,rfl,a,ns,2+k,rfl,cl s12,h63,by omega,by omega,fun c hc=>?_⟩
 have b0:=Int.emod_nonneg c (show(3:Int)≠0 by decide)
 have b1:=Int.emod_lt_of_pos c (show(0:Int) < 3 by decide)
 refine⟨_,_,rfl,rfl,(by show(0:Int) < 3;decide),_,rfl,by omega,by omega,?_⟩
 refine for_range (fun i σ H2=>∃(z4 z5 z6 z7:Option V) (us:List V) (m1:Rows1),σ=[some (.ref a),some (.int k),some (.str (wordL c1 k)),some (.ref kl),z4,z5,z6,z7,none,none]∧Same H H2∧H2 kl=some (.lst us)∧Paired (PrAt K H2) us m1∧m1.map (·.1)=wds (cellOf ns 4) (20+3*k) i∧∀q∈m1,okW q.1∧Kd.ok q.2∧q.2.leaves.length≤3)
  ⟨none,none,none,none,[],[],rfl,s12,upd_same,.nil,rfl,fun q hq=>nomatch hq⟩ ?_ ?_
 ·rintro i σ H2 hi ⟨z4,z5,z6,z7,us,m1,rfl,s3,hu2,hp2,hk2,hm2⟩
  rw [Int.zero_add]
  have hul:us.length=m1.length:=Paired.length hp2
  have hml:m1.length=i:=by
   have e2:=congrArg List.length hk2
   rw [List.length_map,wds_len] at e2
   exact e2
  refine⟨_,rfl,a,ns,4,rfl,cl s3,h63,by decide,by decide,fun c4 hc4=>?_⟩
  refine⟨_,rfl,_,_,rfl,rfl,.inl ⟨by decide,by decide⟩,_,_,rfl,rfl,_,rfl,_,_,rfl,rfl,c4,20+3*k+(i:Int),rfl,fun H4 s4=>?_⟩
  have s34:=s3.trans s4
  refine⟨_,rfl,_,rfl,_,_,rfl,rfl,a,ns,5+(i:Int),rfl,cl s34,h63,by omega,by omega,fun c5 hc5=>?_⟩
  refine⟨_,rfl,_,_,rfl,rfl,?_⟩
  have hu4:=s4 _ _ hu2
  have hp4:=Paired.mapP hp2 fun _ _ (h:PrAt K H2 _ _)=>h.same s4
  refine⟨_,rfl,kl,rfl,⟨_,SqL.of hu4⟩,?_⟩
  refine comp_l (SqL.of hu4) (by omega) (fun j ys H3=>ys.length≤j∧∃ks:List Kd,KdsAt K H3 ys ks∧∀x∈ks,Kd.ok x∧x.leaves.length≤1) ⟨Nat.le_refl _,[],.nil,fun x hx=>nomatch hx⟩ (fun _ _ _ h=>h.1) ?_ ?_
  ·rintro j x ys H5 N hN hx s5 ⟨hyl,ks,hks,hkk⟩
   obtain⟨⟨z,kk⟩,hq,p,y,rfl,hp,hy⟩:=pair_get hp4 hx
   replace hp:H4 p=some (.tup [.str z,y]):=hp
   replace hy:KdAt K H4 y kk:=hy
   obtain⟨oz,ok,od⟩:=hm2 (z,kk) (List.mem_of_getElem? hq)
   refine⟨p,_,rfl,SqT.of (s5 _ _ hp),rfl,_,_,rfl,_,_,rfl,rfl,rfl,?_⟩
   refine⟨_,rfl,_,rfl,_,rfl,(by show 3≤sizeLine;decide),fun p2 hp2=>?_⟩
   have s6:=same_new hp2 (.tup [.str "name",.str (wordL c1 k),.str z])
   have hdep:Kd.depth kk≤60:=by
    have:=depth_leaves kk
    replace od:kk.leaves.length≤3:=od
    omega
   refine⟨_,_,kd_dat (hy.same (s5.trans s6)),kd_dat (.name (SqT.of upd_same)),kd_shaped ok hdep,kd_shaped ⟨wL_ok _ _,oz⟩ (by show 1≤60;decide),_,rfl,?_⟩
   refine ite2 (fun c=>?_) (fun c=>?_)
   ·have c':kk=.name (wordL c1 k) z:=of_decide_eq_true (by rw [←eqv_dat];exact c)
    refine⟨_,rfl,hN _ _ (s5.trans s6) ⟨by rw [List.length_append];show ys.length+1≤j+1;omega,ks++[kk],(hks.same s6).append (.cons (hy.same (s5.trans s6)) .nil),fun x hx=>?_⟩⟩
    rcases List.mem_append.mp hx with h|h
    ·exact hkk x h
    ·rw [List.mem_singleton.mp h]
     exact⟨ok,by rw [c'];exact Nat.le_refl _⟩
   ·exact hN _ _ (s5.trans s6) ⟨by omega,ks,hks.same s6,hkk⟩
  rintro ys H5 D s5 ⟨hyl,ks,hks,hkk⟩ hD
  have t3:=same_new hD (.lst ys)
  have kl5:=hks.length
  refine⟨_,rfl,.inl ⟨rfl,_,SqL.of ((s5.trans t3) _ _ hu4)⟩,_,rfl,_,rfl,_,rfl,(by show 3≤sizeLine;decide),fun p1 hp1=>?_⟩
  have t4:=same_new hp1 (.tup [.str "name",.str "far",.str "k"])
  refine⟨(by show 1≤sizeLine;decide),fun p2 hp2=>?_⟩
  have t5:=same_new hp2 (.lst [.ref p1])
  refine⟨D,p2,_,_,rfl,rfl,(t4.trans t5) _ _ upd_same,upd_same,small (by show ys.length+1≤1000;omega),fun p3 hp3=>?_⟩
  have t6:=same_new hp3 (.lst (ys++[.ref p1]))
  have t36:=t3.trans (t4.trans (t5.trans t6))
  refine⟨_,p3,ys++[.ref p1],ks++[.name "far" "k"],(fun x=>Kd.ok x∧x.leaves.length≤1),rfl,upd_same,(hks.same t36).append (.cons (.name (SqT.of ((t5.trans t6) _ _ upd_same))) .nil),by rw [List.length_append];show ks.length+1≤50;omega,fun x hx=>?_,fun n n0 n1=>num_ok n0 n1,fun H6 v kk s6 hv hm=>?_⟩
  ·rcases List.mem_append.mp hx with h|h
   ·exact hkk x h
   ·rw [List.mem_singleton.mp h]
    exact⟨⟨⟨by decide +kernel,by decide +kernel⟩,⟨by decide +kernel,by decide +kernel⟩⟩,Nat.le_refl _⟩
  obtain⟨g1,g2⟩:=mixG_ok hm
  have s46:=s5.trans (t36.trans s6)
  refine⟨_,rfl,_,rfl,(by show 3≤sizeLine;decide),fun p7 hp7=>?_⟩
  have s7:=same_new hp7 (.tup [.str "name",.str (wordL c1 k),.str (wordL c4 (20+3*k+(i:Int)))])
  refine⟨(by show 2≤sizeLine;decide),fun p8 hp8=>?_⟩
  have s8:=same_new hp8 (.lst [v,.ref p7])
  have two:(c5+k) / 9%2=0∨(c5+k) / 9%2=1:=by omega
  have pick:∃(vv:V) (k':Kd),atI [v,V.ref p7] ((c5+k) / 9%2)=some vv∧KdAt K (upd (upd H6 p7 (.tup [.str "name",.str (wordL c1 k),.str (wordL c4 (20+3*k+(i:Int)))])) p8 (.lst [v,.ref p7])) vv k'∧Kd.ok k'∧k'.leaves.length≤3:=by
   rcases two with e|e
   ·exact⟨v,kk,by rw [e];rfl,hv.same (s7.trans s8),g1,g2⟩
   ·exact⟨.ref p7,.name (wordL c1 k) (wordL c4 (20+3*k+(i:Int))),by rw [e];rfl,.name (SqT.of (s8 _ _ upd_same)),⟨wL_ok _ _,wL_ok _ _⟩,by show 1≤3;decide⟩
  obtain⟨vv,k',hat,hkv,ho,hle⟩:=pick
  refine⟨_,rfl,_,_,rfl,rfl,⟨by decide,by decide⟩,_,_,rfl,rfl,(by show(0:Int) < 2;decide),p8,_,_,_,rfl,rfl,SqL.of upd_same,hat,(by show 2≤sizeLine;decide),fun p9 hp9=>?_⟩
  have s9:=same_new hp9 (.tup [.str (wordL c4 (20+3*k+(i:Int))),vv])
  have sB:=s46.trans (s7.trans (s8.trans s9))
  have hfB:=sB _ _ hu4
  refine⟨kl,us,.ref p9,rfl,rfl,hfB,Nat.lt_of_lt_of_le (Nat.lt_succ_self _) (small (by omega)),?_⟩
  refine⟨_,_,_,_,us++[.ref p9],m1++[(wordL c4 (20+3*k+(i:Int)),k')],rfl,sput (s34.trans sB) hkl0,upd_same,?_,?_,fun q hq=>?_⟩
  ·exact pappR (Paired.mapP hp4 fun _ _ h=>(h.same sB).upd hfB) (.cons (PrAt.upd hfB ⟨p9,vv,rfl,upd_same,hkv.same s9⟩) .nil)
  ·rw [List.map_append,hk2,wds_snoc,hc4]
   rfl
  ·rcases List.mem_append.mp hq with h|h
   ·exact hm2 q h
   ·rw [List.mem_singleton.mp h]
    exact⟨wL_ok _ _,ho,hle⟩
 ·rintro σ H2 ⟨z4,z5,z6,z7,us,m1,rfl,s3,hu2,hp2,hk2,hm2⟩
  have hml:m1.length=(c%3).toNat:=by
   have e2:=congrArg List.length hk2
   rw [List.length_map,wds_len] at e2
   rw [e2]
   all_goals rfl
  refine k3 Q H2 a kl ns k (wordL c1 k) m1 z4 z5 z6 z7 (cl s3) h63 k0 k1 ⟨us,hu2,hp2⟩ (by omega) (fun q hq=>(hm2 q hq).2) fun H' t l2 r2 s' ht hr2 hn2 hk2'=>?_
  exact q H' t kl l2 (wordL c1 k) m1 r2 (s3.trans s') ht (RkAt.same s' ⟨us,hu2,hp2⟩) hr2 ⟨by rw [hc1],⟨_,by omega,hk2⟩,hn2,fun q hq=>(hm2 q hq).2,hk2'⟩
end
end K41
namespace K41
open PySem L2 Kk
structure GA where
 g:Addr
 il:Addr
 ol:Addr
 fl:Addr
 gd:Addr
 pl:Addr
structure LS where
 items:List It
 own:Rows1
 funs:Rows2
 G:Str × Str→Option Kd
 ops:List Str
structure GotA(K:PySem.W.Frag)(H:Hp)(A:GA)(gkv:List (Key × V))(S:LS)(N:Nat)(ix ox fx:List V)(dkv:List (List Key × V)):Prop where
 hg:H A.g=some (.dK gkv)
 vi:valV gkv (.inr "items")=some (.ref A.il)
 vo:valV gkv (.inr "own")=some (.ref A.ol)
 vf:valV gkv (.inr "funs")=some (.ref A.fl)
 vd:valV gkv (.inr "given")=some (.ref A.gd)
 vp:valV gkv (.inr "opened")=some (.ref A.pl)
 hi:H A.il=some (.lst ix)
 ho:H A.ol=some (.lst ox)
 hf:H A.fl=some (.lst fx)
 hd:H A.gd=some (.dT dkv)
 hp:H A.pl=some (.lst (S.ops.map V.str))
 pi:Paired (ItAt K H) ix S.items
 po:Paired (PrAt K H) ox S.own
 pf:Paired (FrAt K H) fx S.funs
 gv:GvAt K H dkv S.G
 gk:∀p∈dkv,∃n,p.1=keyN n
 dl:dkv.length≤N
 n1:A.il≠A.ol
 n2:A.il≠A.fl
 n3:A.il≠A.pl
 n4:A.ol≠A.fl
 n5:A.ol≠A.pl
 n6:A.fl≠A.pl
def GotAt(K:PySem.W.Frag)(H:Hp)(A:GA)(gkv:List (Key × V))(S:LS)(N:Nat):Prop:=∃ix ox fx dkv,GotA K H A gkv S N ix ox fx dkv
section
variable{K:PySem.W.Frag}{H H':Hp}{A:GA}{gkv:List (Key × V)}{S:LS}{N:Nat}{ix ox fx:List V}{dkv:List (List Key × V)}
theorem GotA.same(F:GotA K H A gkv S N ix ox fx dkv)(e:Same H H'):GotA K H' A gkv S N ix ox fx dkv :=
 ⟨e _ _ F.hg,F.vi,F.vo,F.vf,F.vd,F.vp,e _ _ F.hi,e _ _ F.ho,e _ _ F.hf,e _ _ F.hd,e _ _ F.hp,Paired.mapP F.pi fun _ _ t=>t.same e,Paired.mapP F.po fun _ _ t=>t.same e,Paired.mapP F.pf fun _ _ t=>t.same e,F.gv.same e,F.gk,F.dl,F.n1,F.n2,F.n3,F.n4,F.n5,F.n6⟩
theorem ne_dl{a b:Addr}{x:List (Key × V)}{y:List V}(h:H a=some (.dK x))(h2:H b=some (.lst y)):a≠b:=fun e=>by rw [e,h2] at h;cases h
theorem ne_tl{a b:Addr}{x:List (List Key × V)}{y:List V}(h:H a=some (.dT x))(h2:H b=some (.lst y)):a≠b:=fun e=>by rw [e,h2] at h;cases h
theorem ne_dt{a b:Addr}{x:List (Key × V)}{y:List (List Key × V)}(h:H a=some (.dK x))(h2:H b=some (.dT y)):a≠b:=fun e=>by rw [e,h2] at h;cases h
theorem GvAt.keepT{G:Str × Str→Option Kd}(h:GvAt K H dkv G)(kp:∀a xs,SqT K H a xs→SqT K H' a xs):GvAt K H' dkv G:=fun n=>by
 rcases h n with h|⟨v,k,h1,h2,h3⟩
 ·exact .inl h
 ·exact .inr ⟨v,k,h1,h2,kd_keep kp h3⟩
theorem GotA.addI(F:GotA K H A gkv S N ix ox fx dkv){vs:List V}{its:List It}(hv:Paired (ItAt K H) vs its):GotA K (upd H A.il (.lst (ix++vs))) A gkv { S with items:=S.items++its } N (ix++vs) ox fx dkv:=by
 have kp:∀{a xs},SqT K H a xs→SqT K (upd H A.il (.lst (ix++vs))) a xs:=fun t=>sqt_upd F.hi t
 exact⟨by rw [upd_ne (ne_dl F.hg F.hi)];exact F.hg,F.vi,F.vo,F.vf,F.vd,F.vp,upd_same,by rw [upd_ne (Ne.symm F.n1)];exact F.ho,by rw [upd_ne (Ne.symm F.n2)];exact F.hf,by rw [upd_ne (ne_tl F.hd F.hi)];exact F.hd,by rw [upd_ne (Ne.symm F.n3)];exact F.hp,
  pappR (Paired.mapP F.pi fun _ _ t=>t.keep fun _ _=>kp) (Paired.mapP hv fun _ _ t=>t.keep fun _ _=>kp),Paired.mapP F.po fun _ _ t=>t.upd F.hi,Paired.mapP F.pf fun _ _ t=>t.upd F.hi,F.gv.keepT fun _ _=>kp,F.gk,F.dl,F.n1,F.n2,F.n3,F.n4,F.n5,F.n6⟩
theorem GotA.addO(F:GotA K H A gkv S N ix ox fx dkv){vs:List V}{r:Rows1}(hv:Paired (PrAt K H) vs r):GotA K (upd H A.ol (.lst (ox++vs))) A gkv { S with own:=S.own++r } N ix (ox++vs) fx dkv:=by
 have kp:∀{a xs},SqT K H a xs→SqT K (upd H A.ol (.lst (ox++vs))) a xs:=fun t=>sqt_upd F.ho t
 exact⟨by rw [upd_ne (ne_dl F.hg F.ho)];exact F.hg,F.vi,F.vo,F.vf,F.vd,F.vp,by rw [upd_ne F.n1];exact F.hi,upd_same,by rw [upd_ne (Ne.symm F.n4)];exact F.hf,by rw [upd_ne (ne_tl F.hd F.ho)];exact F.hd,by rw [upd_ne (Ne.symm F.n5)];exact F.hp,
  Paired.mapP F.pi fun _ _ t=>t.keep fun _ _=>kp,pappR (Paired.mapP F.po fun _ _ t=>t.upd F.ho) (Paired.mapP hv fun _ _ t=>t.upd F.ho),Paired.mapP F.pf fun _ _ t=>t.upd F.ho,F.gv.keepT fun _ _=>kp,F.gk,F.dl,F.n1,F.n2,F.n3,F.n4,F.n5,F.n6⟩
theorem GotA.addF(F:GotA K H A gkv S N ix ox fx dkv){vs:List V}{r:Rows2}(hv:Paired (FrAt K H) vs r):GotA K (upd H A.fl (.lst (fx++vs))) A gkv { S with funs:=S.funs++r } N ix ox (fx++vs) dkv:=by
 have kp:∀{a xs},SqT K H a xs→SqT K (upd H A.fl (.lst (fx++vs))) a xs:=fun t=>sqt_upd F.hf t
 exact⟨by rw [upd_ne (ne_dl F.hg F.hf)];exact F.hg,F.vi,F.vo,F.vf,F.vd,F.vp,by rw [upd_ne F.n2];exact F.hi,by rw [upd_ne F.n4];exact F.ho,upd_same,by rw [upd_ne (ne_tl F.hd F.hf)];exact F.hd,by rw [upd_ne (Ne.symm F.n6)];exact F.hp,
  Paired.mapP F.pi fun _ _ t=>t.keep fun _ _=>kp,Paired.mapP F.po fun _ _ t=>t.upd F.hf,pappR (Paired.mapP F.pf fun _ _ t=>t.upd F.hf) (Paired.mapP hv fun _ _ t=>t.upd F.hf),F.gv.keepT fun _ _=>kp,F.gk,F.dl,F.n1,F.n2,F.n3,F.n4,F.n5,F.n6⟩
theorem GotA.addP(F:GotA K H A gkv S N ix ox fx dkv)(z:Str):GotA K (upd H A.pl (.lst (S.ops.map V.str++[.str z]))) A gkv { S with ops:=S.ops++[z] } N ix ox fx dkv:=by
 have kp:∀{a xs},SqT K H a xs→SqT K (upd H A.pl (.lst (S.ops.map V.str++[.str z]))) a xs:=fun t=>sqt_upd F.hp t
 exact⟨by rw [upd_ne (ne_dl F.hg F.hp)];exact F.hg,F.vi,F.vo,F.vf,F.vd,F.vp,by rw [upd_ne F.n3];exact F.hi,by rw [upd_ne F.n5];exact F.ho,by rw [upd_ne F.n6];exact F.hf,by rw [upd_ne (ne_tl F.hd F.hp)];exact F.hd,by rw [upd_same,List.map_append];rfl,
  Paired.mapP F.pi fun _ _ t=>t.keep fun _ _=>kp,Paired.mapP F.po fun _ _ t=>t.upd F.hp,Paired.mapP F.pf fun _ _ t=>t.upd F.hp,F.gv.keepT fun _ _=>kp,F.gk,F.dl,F.n1,F.n2,F.n3,F.n4,F.n5,F.n6⟩
abbrev putG(G:Str × Str→Option Kd)(n:Str × Str)(k:Kd):Str × Str→Option Kd:=fun m=>if m=n then some k else G m
theorem mem_putK{kvs:List (List Key × V)}{k:List Key}{v:V}{p:List Key × V}(h:p∈putK kvs k v):p.1=k∨∃q∈kvs,q.1=p.1:=by
 unfold putK at h
 split at h
 ·obtain⟨q,hq,e⟩:=List.mem_map.mp h
  refine .inr ⟨q,hq,?_⟩
  rw [←e]
  split<;>rfl
 ·rcases List.mem_append.mp h with h|h
  ·exact .inr ⟨p,h,rfl⟩
  ·rw [List.mem_singleton.mp h]
   exact .inl rfl
theorem PrAt.updT{v:V}{q:Str × Kd}{l:Addr}{o:HO}{xs:List (List Key × V)}(h:H l=some (.dT xs))(t:PrAt K H v q):PrAt K (L2.upd H l o) v q:=by
 obtain⟨p,y,e1,e2,e3⟩:=t
 exact⟨p,y,e1,by rw [upd_ne (fun e=>by rw [e,h] at e2;cases e2)];exact e2,kd_keep (fun _ _ t=>sqt_dt h t) e3⟩
theorem FrAt.updT{v:V}{q:Str × (List Kd × Kd)}{l:Addr}{o:HO}{xs:List (List Key × V)}(h:H l=some (.dT xs))(t:FrAt K H v q):FrAt K (L2.upd H l o) v q:=by
 obtain⟨p,y,e1,e2,e3⟩:=t
 exact⟨p,y,e1,by rw [upd_ne (fun e=>by rw [e,h] at e2;cases e2)];exact e2,e3.keep fun _ _ t=>sqt_dt h t⟩
theorem GotA.addG(F:GotA K H A gkv S N ix ox fx dkv){n:Str × Str}{v:V}{k:Kd}(hv:KdAt K H v k):GotA K (upd H A.gd (.dT (putK dkv (keyN n) v))) A gkv { S with G:=putG S.G n k } (N+1) ix ox fx (putK dkv (keyN n) v):=by
 have kp:∀a xs,SqT K H a xs→SqT K (upd H A.gd (.dT (putK dkv (keyN n) v))) a xs:=fun a xs t=>sqt_dt F.hd t
 exact⟨by rw [upd_ne (ne_dt F.hg F.hd)];exact F.hg,F.vi,F.vo,F.vf,F.vd,F.vp,by rw [upd_ne (Ne.symm (ne_tl F.hd F.hi))];exact F.hi,by rw [upd_ne (Ne.symm (ne_tl F.hd F.ho))];exact F.ho,by rw [upd_ne (Ne.symm (ne_tl F.hd F.hf))];exact F.hf,upd_same,by rw [upd_ne (Ne.symm (ne_tl F.hd F.hp))];exact F.hp,
  Paired.mapP F.pi fun _ _ t=>t.keep kp,Paired.mapP F.po fun _ _ t=>t.updT F.hd,Paired.mapP F.pf fun _ _ t=>t.updT F.hd,gv_put (F.gv.keepT kp) (kd_keep kp hv),fun p hp=>(by
   rcases mem_putK hp with e|⟨q,hq,e⟩
   ·exact⟨n,e⟩
   ·rw [←e]
    exact F.gk q hq),(by
   have:=length_putK dkv (keyN n) v
   have:=F.dl
   omega),F.n1,F.n2,F.n3,F.n4,F.n5,F.n6⟩
end
def KK(G:Str × Str→Option Kd)(k:Kd):Prop:=Kd.ok k∧k.leaves.length≤3∧(∀n∈Kd.names k,G n≠none)∧(Kd.put G k).words≤40
theorem KK.itk{G:Str × Str→Option Kd}{k:Kd}(h:KK G k):ItK k:=⟨h.1,by have:=h.2.1;omega,.inl h.2.1⟩
structure Fine(S:LS):Prop where
 ow:∀q∈S.own,okW q.1
 og:∀q∈S.own,S.G ("",q.1)≠none
 gw:∀n,S.G n≠none→okW n.1∧okW n.2
 gk:∀n k,S.G n=some k→Kd.ok k∧k.words≤40
def LfG(G:Str × Str→Option Kd)(x:Kd):Prop:=(∃n:Str × Str,x=.name n.1 n.2∧G n≠none∧okW n.1∧okW n.2)∨∃n:Int,x=.num n
def spKindL(K:PySem.W.Frag):Sp:=fun vs H Q _=>∃(c:Int) (A:GA) (gkv:List (Key × V)) (S:LS) (N:Nat),vs=[.int c,.ref A.g]∧GotAt K H A gkv S N∧N≤60∧S.own.length≤40∧N+S.own.length≤48∧Fine S ∧
 ∀(H':Hp) (v:V) (k:Kd),Same H H'→KdAt K H' v k→KK S.G k→Q v H'
theorem lfg_ok{G:Str × Str→Option Kd}{x:Kd}(h:LfG G x):Kd.ok x∧x.leaves.length≤1∧∀n∈Kd.names x,G n≠none:=by
 rcases h with ⟨n,rfl,h1,h2,h3⟩|⟨n,rfl⟩
 ·exact⟨⟨h2,h3⟩,Nat.le_refl _,fun m hm=>by rw [List.mem_singleton.mp hm];exact h1⟩
 ·exact⟨by trivial,Nat.le_refl _,fun m hm=>nomatch hm⟩
theorem mixG_kk{G:Str × Str→Option Kd}{k:Kd}(h:MixG (LfG G) k):Kd.ok k∧k.leaves.length≤3∧∀n∈Kd.names k,G n≠none:=by
 rcases h with h|⟨a,b,ha,hb,rfl|rfl⟩
 ·obtain⟨h1,h2,h3⟩:=lfg_ok h
  exact⟨h1,by omega,h3⟩
 ·obtain⟨a1,a2,a3⟩:=lfg_ok ha
  obtain⟨b1,b2,b3⟩:=lfg_ok hb
  refine⟨⟨a1,b1⟩,?_,fun n hn=>?_⟩
  ·show(a.leaves++b.leaves).length≤_
   rw [List.length_append]
   omega
  ·rcases List.mem_append.mp (show n∈Kd.names a++Kd.names b from hn) with h|h
   ·exact a3 n h
   ·exact b3 n h
 ·obtain⟨a1,a2,a3⟩:=lfg_ok ha
  obtain⟨b1,b2,b3⟩:=lfg_ok hb
  refine⟨⟨b1,a1,b1⟩,?_,fun n hn=>?_⟩
  ·show(b.leaves++(a.leaves++b.leaves)).length≤_
   rw [List.length_append,List.length_append]
   omega
  ·rcases List.mem_append.mp (show n∈Kd.names b++(Kd.names a++Kd.names b) from hn) with h|h
   ·exact b3 n h
   ·rcases List.mem_append.mp h with h|h
    ·exact a3 n h
    ·exact b3 n h
theorem put_deep{G:Str × Str→Option Kd}(hG:∀n k,G n=some k→Kd.ok k∧k.words≤40){k:Kd}(h:k.leaves.length≤3):Kd.depth (Kd.put G k)≤63:=by
 have e:=put_leaves (G:=G) (c:=21) (by decide) (fun n g e=>by
  have:=leaves_words g
  have:=(hG n g e).2
  omega) k
 have:=depth_leaves (Kd.put G k)
 omega
abbrev klN:List Str:=["_law_cell_here","_law_got","_law_given","_law_some","_law_kind_here"]
abbrev klP:List Str:=["_law_cell_here","_law_got"]
theorem thawedT{H0 H3:Hp}{d:Addr}{kv:List (List Key × V)}(hd:H0 d=some (.dT kv))(old:∀b u,H0 b=some u→b≠d→H3 b=some u):Same H0 (upd H3 d (.dT kv)):=fun b u hb=>by
 by_cases e:b=d
 ·rw [e] at hb ⊢
  rw [hd] at hb
  cases hb
  exact upd_same
 ·rw [upd_ne e]
  exact old b u hb e
theorem keyN_str{n:Str × Str}:(keyN n).map kV=[.str n.1,.str n.2]:=rfl
section
variable{P:Program}{w:World}{K:PySem.W.Frag}{mg:Str→Option Value}{base:Heap}
theorem scKindL:FnScope klN klP (defScope sKindL):=⟨rfl,rfl,rfl,by decide +kernel,rfl,by decide +kernel,by decide +kernel⟩
set_option maxHeartbeats 0 in
theorem ok_kindL{f fm fp fs:Addr}{fd fdm fdp fds:FuncData} (F:Fun K "_law_kind" "_law_kind" sKindL f fd)
  (GM:FnOk P w K mg base CX0 1 fm fdm mxP (spMix K)) (bM:Binds K fdm mxP []) (kM:PySem.W.keepIn K (.ref fm)=true) (mM:mg "_law_mix"=some (.ref fm))
  (GP:FnOk P w K mg base CX0 3 fp fdp plP (spPut K 3)) (bP:Binds K fdp plP []) (kP:PySem.W.keepIn K (.ref fp)=true) (mP:mg "_law_put"=some (.ref fp))
  (GS:FnOk P w K mg base CX0 63 fs fds szP (spSize K 63)) (bS:Binds K fds szP []) (kS:PySem.W.keepIn K (.ref fs)=true) (mS:mg "_law_size"=some (.ref fs)) :
  FnOk P w K mg base CX0 64 f fd klP (spKindL K):=by
 refine F.ok scKindL (fun vs H Q E h=>?_) (fun cdv A outer s H vs Q E hr h=>?_)
 ·obtain⟨c,A,gkv,S,N,rfl,_⟩:=h
  rfl
 obtain⟨c,GA',gkv,S,N,rfl,⟨ix,ox,fx,dkv,FG⟩,hN,hO,hNO,fine,q⟩:=h
 have hu:=hu_of hr
 have hr1:Room 1 _:=hr.mono (by decide)
 have hr3:Room 3 _:=hr.mono (by decide)
 refine⟨_,@pss_cons _ _ _ _ _ (ps_set (i:=2) scKindL.nd rfl (Or.inl rfl) (pe_dget hu (pv 1) pe_str (fun _ _=>rfl)))
  (@pss_cons _ _ _ _ _ (ps_comp (i0:=3) (own:=["_law_word_here","_law_kind_here"]) (caps:=[]) (κ:=[]) (cl:=[]) scKindL.nd rfl (Or.inl rfl) rfl ⟨rfl,by decide +kernel,by decide +kernel,rfl,rfl,(fun y hy=>nomatch hy),(fun y hy=>nomatch hy)⟩ rfl
    (pi_list (pe_dget hu (pv 1) pe_str (fun _ _=>rfl))) (fun _ _ _ _=>pg_two (K:=K) (i:=0) (j:=1) rfl rfl (show(["_law_word_here","_law_kind_here"]:List Str).Nodup from by decide +kernel) rfl (Or.inl rfl) (Or.inr rfl) rfl (Or.inl rfl) (Or.inr rfl))
    (fun _ _ _ _=>pe_tup (@pa_cons _ _ _ _ _ pe_str (@pa_cons _ _ _ _ _ pe_str (@pa_cons _ _ _ _ _ (pv 0) pa_nil rfl) rfl) rfl)))
  (@pss_cons _ _ _ _ _ (ps_set (i:=3) scKindL.nd rfl (Or.inl rfl) (pe_op op_cat (pv 3) (pe_thaw (pe_comp_if (own:=["_law_name"]) (caps:=[]) (κ:=[]) (cl:=[]) rfl ⟨rfl,by decide +kernel,by decide +kernel,rfl,rfl,(fun y hy=>nomatch hy),(fun y hy=>nomatch hy)⟩ rfl
    (pi_keysT (pv 2)) (fun _ _ _ _=>pg_name (i:=0) (show(["_law_name"]:List Str).Nodup from by decide +kernel) rfl (Or.inl rfl))
    (fun _ _ _ _=>pt_cmpR op_ne (pe_ix (r:=rIxT K) ix_tup (pv 0) pe_int (fun _ _=>rfl)) pe_str (nomark _)) (fun _ _ _ _=>pe_tup (@pa_cons _ _ _ _ _ pe_str (@pa_cons _ _ _ _ _ (pe_ix (r:=rIxT K) ix_tup (pv 0) pe_int (fun _ _=>rfl)) (@pa_cons _ _ _ _ _ (pe_ix (r:=rIxT K) ix_tup (pv 0) pe_int (fun _ _=>rfl)) pa_nil rfl) rfl) rfl))))))
  (@pss_cons _ _ _ _ _ (ps_set (i:=4) scKindL.nd rfl (Or.inl rfl) (pe_call GM hr1 rfl mM kM bM .nil pass0 (@pa_cons _ _ _ _ _ (pv 0) (@pa_cons _ _ _ _ _ (pv 3) pa_nil rfl) rfl)))
  (@pss_cons _ _ _ _ _ (ps_if (pt_cmpR op_gt (pe_call GS hr rfl mS kS bS .nil pass0 (@pa_cons _ _ _ _ _ (pe_call GP hr3 rfl mP kP bP .nil pass0 (@pa_cons _ _ _ _ _ (pv 4) (@pa_cons _ _ _ _ _ (pv 2) pa_nil rfl) rfl)) pa_nil rfl)) pe_int (nomark _))
   (@pss_one _ _ _ (@ps_ret _ _ _ _ (@pe_tup _ _ _ _ _ (@pa_cons _ _ _ _ _ pe_str (@pa_cons _ _ _ _ _ (pe_op op_add pe_int (pe_op op_mod (pv 0) (pe_op op_pow pe_int pe_int))) pa_nil rfl) rfl)))) pss_nil)
  (@pss_one _ _ _ (@ps_ret _ _ _ _ (pv 4))))))),?_⟩
 refine⟨_,rfl,GA'.g,_,rfl,FG.vd▸DGet.k (k:=.inr "given") FG.hg,?_⟩
 refine⟨_,rfl,GA'.g,_,rfl,FG.vo▸DGet.k (k:=.inr "own") FG.hg,GA'.ol,rfl,⟨_,SqL.of FG.ho⟩,?_⟩
 have hol:ox.length=S.own.length:=Paired.length FG.po
 refine comp_l (SqL.of FG.ho) (by omega) (fun i ys H3=>ys.length≤i∧∃ks:List Kd,KdsAt K H3 ys ks∧∀x∈ks,LfG S.G x) ⟨Nat.le_refl _,[],.nil,fun x hx=>nomatch hx⟩ (fun _ _ _ h=>h.1) ?_ ?_
 ·rintro i x ys H3 Nx hNx hx s3 ⟨hyl,ks,hks,hkk⟩
  obtain⟨⟨z,kk⟩,hq,p,y,rfl,hp,hy⟩:=pair_get FG.po hx
  replace hp:H p=some (.tup [.str z,y]):=hp
  refine⟨p,_,rfl,SqT.of (s3 _ _ hp),rfl,_,_,rfl,_,_,rfl,rfl,rfl,tYes_go ⟨_,rfl,(by show 3≤sizeLine;decide),fun p2 hp2=>?_⟩⟩
  have s4:=same_new hp2 (.tup [.str "name",.str "",.str z])
  refine hNx _ _ (s3.trans s4) ⟨by rw [List.length_append];show ys.length+1≤i+1;omega,ks++[.name "" z],(hks.same s4).append (.cons (.name (SqT.of upd_same)) .nil),fun x hx=>?_⟩
  rcases List.mem_append.mp hx with h|h
  ·exact hkk x h
  ·rw [List.mem_singleton.mp h]
   exact .inl ⟨("",z),rfl,fine.og _ (List.mem_of_getElem? hq),ok_empty,fine.ow _ (List.mem_of_getElem? hq)⟩
 rintro ys H3 D s3 ⟨hyl,ks,hks,hkk⟩ hD
 have t3:=same_new hD (.lst ys)
 have s4:=s3.trans t3
 have hks4:=hks.same t3
 have hD4:upd H3 D (.lst ys) D=some (.lst ys):=upd_same
 revert s4 hks4 hD4
 generalize upd H3 D (.lst ys)=H4
 intro s4 hks4 hD4
 have F4:=FG.same s4
 refine⟨_,rfl,_,rfl,GA'.gd,dkv,rfl,F4.hd,fun o as hpa=>?_⟩
 have hal:dkv.length=as.length:=Paired.length hpa
 have hdl:=FG.dl
 have old5:∀b u,H4 b=some u→b≠GA'.gd→upd H4 GA'.gd (.frz o (.dT dkv)) b=some u:=fun b u hb nb=>by rw [upd_ne nb];exact hb
 refine comp_kT hal (by omega) upd_same (fun i ys H5=>ys.length≤i∧∃ks:List Kd,KdsAt K H5 ys ks∧∀x∈ks,LfG S.G x) ⟨Nat.le_refl _,[],.nil,fun x hx=>nomatch hx⟩ (fun _ _ _ h=>h.1) ?_ ?_
 ·rintro i a ys5 H5 Nx hNx hx s5 ⟨hyl5,ks5,hks5,hkk5⟩
  obtain⟨p,hp,hpt⟩:∃p,dkv[i]?=some p∧H4 a=some (.tup (p.1.map kV)):=by
   have hi:i < dkv.length:=by
    have:=(List.getElem?_eq_some_iff.mp hx).1
    omega
   obtain⟨b,hb,hh⟩:=pair_get hpa (List.getElem?_eq_getElem hi)
   rw [hx] at hb
   cases hb
   exact⟨_,List.getElem?_eq_getElem hi,hh⟩
  obtain⟨n,hn⟩:=FG.gk p (List.mem_of_getElem? hp)
  rw [hn,keyN_str] at hpt
  have hG:S.G n≠none:=by
   rcases FG.gv n with ⟨h1,_⟩|⟨v,k,_,h2,_⟩
   ·exfalso
    have:valV dkv (keyN n)≠none:=fun e=>by
     unfold valV at e
     rw [Option.map_eq_none_iff,List.find?_eq_none] at e
     exact e p (List.mem_of_getElem? hp) (decide_eq_true hn)
    exact this h1
   ·rw [h2]
    exact fun e=>nomatch e
  have ha5:H5 a=some (.tup [.str n.1,.str n.2]):=s5 _ _ (old5 _ _ hpt (fun e=>by rw [e,F4.hd] at hpt;cases hpt))
  refine⟨rfl,_,rfl,_,_,_,_,rfl,rfl,SqT.of ha5,(show atI [V.str n.1,.str n.2] 0=some (.str n.1) from rfl),rfl,_,rfl,ite2 (fun _=>?_) (fun _=>hNx _ _ s5 ⟨by omega,ks5,hks5,hkk5⟩)⟩
  refine⟨_,rfl,_,_,_,_,rfl,rfl,SqT.of ha5,(show atI [V.str n.1,.str n.2] 0=some (.str n.1) from rfl),_,rfl,_,_,_,_,rfl,rfl,SqT.of ha5,(show atI [V.str n.1,.str n.2] 1=some (.str n.2) from rfl),(by show 3≤sizeLine;decide),fun p2 hp2=>?_⟩
  have s6:=same_new hp2 (.tup [.str "name",.str n.1,.str n.2])
  refine hNx _ _ (s5.trans s6) ⟨by rw [List.length_append];show ys5.length+1≤i+1;omega,ks5++[.name n.1 n.2],(hks5.same s6).append (.cons (.name (SqT.of upd_same)) .nil),fun x hx=>?_⟩
  rcases List.mem_append.mp hx with h|h
  ·exact hkk5 x h
  ·rw [List.mem_singleton.mp h]
   exact .inl ⟨n,rfl,hG,(fine.gw n hG).1,(fine.gw n hG).2⟩
 rintro ys5 H5 D5 s5 ⟨hyl5,ks5,hks5,hkk5⟩ hD5
 have hgd5:H5 GA'.gd=some (.frz o (.dT dkv)):=s5 _ _ upd_same
 have nD5:GA'.gd≠D5:=fun e=>by rw [e,hD5] at hgd5;cases hgd5
 have t5:=same_new hD5 (.lst ys5)
 refine⟨GA'.gd,o,.dT dkv,t5 _ _ hgd5,fun o' u' e=>(by have e':H GA'.gd=some (.frz o' u'):=e;rw [FG.hd] at e';cases e'),?_⟩
 have s6:Same H4 (upd (upd H5 D5 (.lst ys5)) GA'.gd (.dT dkv)):=thawedT F4.hd fun b u hb nb=>t5 _ _ (s5 _ _ (old5 b u hb nb))
 have kp6:∀a xs,SqT K H5 a xs→SqT K (upd (upd H5 D5 (.lst ys5)) GA'.gd (.dT dkv)) a xs:=fun a xs t=>by
  rcases t5.tup t with (t|⟨o',t⟩)|t
  ·exact .inl (.inl (by rw [upd_ne (fun e=>by rw [e,t5 _ _ hgd5] at t;cases t)];exact t))
  ·exact .inl (.inr ⟨o',by rw [upd_ne (fun e=>by rw [e,t5 _ _ hgd5] at t;cases t)];exact t⟩)
  ·exact .inr t
 have hks6:=kds_keep kp6 hks5
 have hD6:upd (upd H5 D5 (.lst ys5)) GA'.gd (.dT dkv) D5=some (.lst ys5):=by rw [upd_ne (Ne.symm nD5)];exact upd_same
 revert s6 hks6 hD6
 generalize upd (upd H5 D5 (.lst ys5)) GA'.gd (.dT dkv)=H6
 intro s6 hks6 hD6
 clear hks5 hgd5 t5 kp6 s5 hD5 hpa old5
 have hl1:=hks.length
 have hl2:=hks6.length
 have hyl':ys.length≤ox.length:=hyl
 have hyl5':ys5.length≤as.length:=hyl5
 refine⟨D,D5,_,_,rfl,rfl,s6 _ _ hD4,hD6,small (by omega),fun p7 hp7=>?_⟩
 have s7:=same_new hp7 (.lst (ys++ys5))
 have s07:=s4.trans (s6.trans s7)
 refine⟨_,rfl,_,rfl,c,p7,ys++ys5,ks++ks5,LfG S.G,rfl,upd_same,((hks4.same s6).same s7).append (hks6.same s7),by rw [List.length_append];omega,fun x hx=>(List.mem_append.mp hx).elim (hkk x) (hkk5 x),fun n _ _=>.inr ⟨n,rfl⟩,fun H8 v k s8 hv hm=>?_⟩
 obtain⟨k1,k2,k3⟩:=mixG_kk hm
 have s08:=s07.trans s8
 have F8:=FG.same s08
 have hdep:Kd.depth k≤3:=Nat.le_trans (depth_leaves k) k2
 refine⟨_,rfl,_,rfl,v,GA'.gd,k,dkv,S.G,rfl,hv,hdep,F8.hd,F8.gv,fun H9 v9 s9 hv9=>?_⟩
 refine⟨v9,_,rfl,hv9,put_deep fine.gk k2,fun H10 s10=>?_⟩
 have s010:=s08.trans (s9.trans s10)
 refine⟨_,_,rfl,rfl,_,rfl,ite2 (fun c40=>?_) (fun c40=>?_)⟩
 ·refine⟨_,rfl,_,_,rfl,rfl,⟨by decide,by decide,by decide⟩,_,_,rfl,rfl,e18,_,_,rfl,rfl,(by show 2≤sizeLine;decide),fun p11 hp11=>?_⟩
  exact q _ _ _ (s010.trans (same_new hp11 _)) (.num (SqT.of upd_same)) ⟨by trivial,by show 1≤3;decide,fun n hn=>(nomatch hn),by show 1≤40;decide⟩
 ·have c':¬(((Kd.put S.G k).words:Int) > 40):=fun z=>c40 (decide_eq_true z)
  exact⟨_,rfl,q _ v k s010 (hv.same (s9.trans s10)) ⟨k1,k2,k3,by omega⟩⟩
end
end K41
namespace K41
open PySem L2 Kk
structure Fr(H0:Hp)(A:GA):Prop where
 g:H0 A.g=none
 il:H0 A.il=none
 ol:H0 A.ol=none
 fl:H0 A.fl=none
 gd:H0 A.gd=none
 pl:H0 A.pl=none
def openG(G:Str × Str→Option Kd)(r1:Rows1):Str × Str→Option Kd:=r1.foldl (fun G q=>putG G ("",q.1) q.2) G
def openS(S:LS)(part:Str)(r1:Rows1)(r2:Rows2):LS:=⟨S.items++[.opn part],S.own++r1,S.funs++r2,openG S.G r1,S.ops++[part]⟩
def addK(S:LS)(wz:Str)(k:Kd):LS:={ S with items:=S.items++[.kind wz k],own:=S.own++[(wz,Kd.put S.G k)],G:=putG S.G ("",wz) (Kd.put S.G k) }
def addFn(S:LS)(fz:Str)(ps:List (Str × Kd))(k:Kd):LS:={ S with items:=S.items++[.fn fz ps k],funs:=S.funs++[(fz,((ps.map (·.2)).map (Kd.put S.G),Kd.put S.G k))] }
def AddS(S:LS)(wz fz:Str)(S':LS):Prop:=(∃k,KK S.G k∧S'=addK S wz k)∨∃ps k,ps.length≤4∧(∀q∈ps,KK S.G q.2)∧KK S.G k∧S'=addFn S fz ps k
theorem GotA.le{K:PySem.W.Frag}{H:Hp}{A:GA}{gkv:List (Key × V)}{S:LS}{N M:Nat}{ix ox fx:List V}{dkv:List (List Key × V)}(F:GotA K H A gkv S N ix ox fx dkv)(h:N≤M):GotA K H A gkv S M ix ox fx dkv :=
 { F with dl:=Nat.le_trans F.dl h }
def spOpenL(K:PySem.W.Frag):Sp:=fun vs H Q _=>∃(H0:Hp) (t l1 l2:Addr) (part:Str) (r1:Rows1) (r2:Rows2) (A:GA) (gkv:List (Key × V)) (S:LS) (N:Nat),vs=[.ref t,.ref A.g]∧Same H0 H∧Fr H0 A∧H0 t=some (.tup [.str part,.ref l1,.ref l2])∧RkAt K H0 l1 r1∧RfAt K H0 l2 r2∧r1.length≤2∧r2.length≤2 ∧
 GotAt K H A gkv S N∧N≤200∧S.items.length≤200∧S.own.length≤200∧S.funs.length≤200∧S.ops.length≤200∧∀H',Same H0 H'→GotAt K H' A gkv (openS S part r1 r2) (N+2)→Q .non H'
abbrev opN:List Str:=["_law_row","_law_got","_law_word_here","_law_kind_here"]
abbrev opP:List Str:=["_law_row","_law_got"]
def spAddL(K:PySem.W.Frag):Sp:=fun vs H Q _=>∃(H0:Hp) (c:Int) (wz fz:Str) (A:GA) (gkv:List (Key × V)) (S:LS) (N:Nat),vs=[.int c,.str wz,.str fz,.ref A.g]∧Same H0 H∧Fr H0 A∧GotAt K H A gkv S N∧N≤60∧S.own.length≤40∧N+S.own.length≤48∧S.items.length≤200∧S.funs.length≤200∧Fine S ∧
 ∀H' S',Same H0 H'→GotAt K H' A gkv S' (N+1)→AddS S wz fz S'→Q .non H'
section
variable{P:Program}{w:World}{K:PySem.W.Frag}{mg:Str→Option Value}{base:Heap}
theorem scOpenL:FnScope opN opP (defScope sOpenL):=⟨rfl,rfl,rfl,by decide +kernel,rfl,by decide +kernel,by decide +kernel⟩
set_option maxHeartbeats 0 in
theorem ok_openL{f:Addr}{fd:FuncData} (F:Fun K "_law_open" "_law_open" sOpenL f fd):FnOk P w K mg base CX0 1 f fd opP (spOpenL K):=by
 refine F.ok scOpenL (fun vs H Q E h=>?_) (fun cdv A outer s H vs Q E hr h=>?_)
 ·obtain⟨H0,t,l1,l2,part,r1,r2,A,gkv,S,N,rfl,_⟩:=h
  rfl
 obtain⟨H0,t,l1,l2,part,r1,r2,B,gkv,S,N,rfl,s0,fr,ht,⟨rx,hl1,hrx⟩,⟨rf,hl2,hrf⟩,b1,b2,⟨ix,ox,fx,dkv,FG⟩,hN,hi,ho,hf,hp,q⟩:=h
 have hu:=hu_of hr
 refine⟨_,@pss_cons _ _ _ _ _ (ps_expr (pe_bm PySem.F.plainAttrs_list PySem.F.slot_list_append PySem.F.type_list_append mt_append (pe_dget hu (pv 1) pe_str (fun _ _=>rfl)) (@pa_cons _ _ _ _ _ (pe_ix ix_tup (pv 0) pe_int (fun _ _=>rfl)) pa_nil rfl)))
  (@pss_cons _ _ _ _ _ (ps_expr (pe_bm PySem.F.plainAttrs_list PySem.F.slot_list_append PySem.F.type_list_append mt_append (pe_dget hu (pv 1) pe_str (fun _ _=>rfl)) (@pa_cons _ _ _ _ _ (@pe_tup _ _ _ _ _ (@pa_cons _ _ _ _ _ pe_str (@pa_cons _ _ _ _ _ (pe_ix ix_tup (pv 0) pe_int (fun _ _=>rfl)) pa_nil rfl) rfl)) pa_nil rfl)))
  (@pss_cons _ _ _ _ _ (ps_expr (pe_bm PySem.F.plainAttrs_list PySem.F.slot_list_extend PySem.F.type_list_extend mt_extend (pe_dget hu (pv 1) pe_str (fun _ _=>rfl)) (@pa_cons _ _ _ _ _ (pe_ix ix_tup (pv 0) pe_int (fun _ _=>rfl)) pa_nil rfl)))
  (@pss_cons _ _ _ _ _ (ps_expr (pe_bm PySem.F.plainAttrs_list PySem.F.slot_list_extend PySem.F.type_list_extend mt_extend (pe_dget hu (pv 1) pe_str (fun _ _=>rfl)) (@pa_cons _ _ _ _ _ (pe_ix ix_tup (pv 0) pe_int (fun _ _=>rfl)) pa_nil rfl)))
  (@pss_one _ _ _ (ps_for PassesOwn.never rfl (pi_list (pe_ix ix_tup (pv 0) pe_int (fun _ _=>rfl))) (pg_tup rfl (pgs_cons (pg_name (i:=2) scOpenL.nd rfl (Or.inl rfl)) (pgs_cons (pg_name (i:=3) scOpenL.nd rfl (Or.inl rfl)) pgs_nil)))
   (@pss_one _ _ _ (ps_dput hu (pe_dget hu (pv 1) pe_str (fun _ _=>rfl)) (@pe_tup _ _ _ _ _ (@pa_cons _ _ _ _ _ pe_str (@pa_cons _ _ _ _ _ (pv 2) pa_nil rfl) rfl)) (pv 3) rfl))))))),?_⟩
 have il:=Paired.length FG.pi
 have ol:=Paired.length FG.po
 have fl:=Paired.length FG.pf
 have xl:=Paired.length hrx
 have yl:=Paired.length hrf
 have big:∀{n:Nat},n≤999→n < sizeLine:=fun h=>Nat.lt_of_lt_of_le (Nat.lt_succ_self _) (small (by omega))
 refine⟨_,rfl,B.g,.ref B.pl,rfl,FG.vp▸DGet.k (k:=.inr "opened") FG.hg,.inl ⟨rfl,_,SqL.of FG.hp⟩,_,rfl,t,_,_,_,rfl,rfl,SqT.of (s0 _ _ ht),(show atI [V.str part,.ref l1,.ref l2] 0=some (.str part) from rfl),B.pl,_,.str part,rfl,rfl,FG.hp,big (by rw [List.length_map];omega),?_⟩
 have F1:=FG.addP part
 have s1:Same H0 (upd H B.pl (.lst (S.ops.map V.str++[.str part]))):=sput s0 fr.pl
 revert F1 s1
 generalize upd H B.pl (.lst (S.ops.map V.str++[.str part]))=H1
 intro F1 s1
 refine⟨_,rfl,B.g,.ref B.il,rfl,F1.vi▸DGet.k (k:=.inr "items") F1.hg,.inl ⟨rfl,_,SqL.of F1.hi⟩,_,rfl,t,_,_,_,rfl,rfl,SqT.of (s1 _ _ ht),(show atI [V.str part,.ref l1,.ref l2] 0=some (.str part) from rfl),(by show 2≤sizeLine;decide),fun p1 hp1=>?_⟩
 have t2:=same_new hp1 (.tup [.str "open",.str part])
 have F2:=F1.same t2
 have F3:=F2.addI (vs:=[.ref p1]) (its:=[.opn part]) (.cons ⟨p1,rfl,SqT.of upd_same⟩ .nil)
 have s3:Same H0 (upd (upd H1 p1 (.tup [.str "open",.str part])) B.il (.lst (ix++[.ref p1]))):=sput (s1.trans t2) fr.il
 refine⟨B.il,_,.ref p1,rfl,rfl,F2.hi,big (by omega),?_⟩
 revert F3 s3
 generalize upd (upd H1 p1 (.tup [.str "open",.str part])) B.il (.lst (ix++[.ref p1]))=H3
 intro F3 s3
 refine⟨_,rfl,B.g,.ref B.ol,rfl,F3.vo▸DGet.k (k:=.inr "own") F3.hg,.inl ⟨rfl,_,SqL.of F3.ho⟩,_,rfl,t,_,_,_,rfl,rfl,SqT.of (s3 _ _ ht),(show atI [V.str part,.ref l1,.ref l2] 1=some (.ref l1) from rfl),B.ol,l1,_,_,rfl,rfl,F3.ho,s3 _ _ hl1,small (by omega),?_⟩
 have F4:=F3.addO (vs:=rx) (r:=r1) (Paired.mapP hrx fun _ _ h=>h.same s3)
 have s4:Same H0 (upd H3 B.ol (.lst (ox++rx))):=sput s3 fr.ol
 revert F4 s4
 generalize upd H3 B.ol (.lst (ox++rx))=H4
 intro F4 s4
 refine⟨_,rfl,B.g,.ref B.fl,rfl,F4.vf▸DGet.k (k:=.inr "funs") F4.hg,.inl ⟨rfl,_,SqL.of F4.hf⟩,_,rfl,t,_,_,_,rfl,rfl,SqT.of (s4 _ _ ht),(show atI [V.str part,.ref l1,.ref l2] 2=some (.ref l2) from rfl),B.fl,l2,_,_,rfl,rfl,F4.hf,s4 _ _ hl2,small (by omega),?_⟩
 have F5:=F4.addF (vs:=rf) (r:=r2) (Paired.mapP hrf fun _ _ h=>h.same s4)
 have s5:Same H0 (upd H4 B.fl (.lst (fx++rf))):=sput s4 fr.fl
 revert F5 s5
 generalize upd H4 B.fl (.lst (fx++rf))=H5
 intro F5 s5
 refine⟨_,rfl,t,_,_,_,rfl,rfl,SqT.of (s5 _ _ ht),(show atI [V.str part,.ref l1,.ref l2] 1=some (.ref l1) from rfl),l1,rfl,⟨_,SqL.of (s5 _ _ hl1)⟩,?_⟩
 refine for_list (K:=K) (xs:=rx) (fun i σ H6=>∃(y2 y3:Option V) (dk:List (List Key × V)),σ=[some (.ref t),some (.ref B.g),y2,y3]∧Same H0 H6∧GotA K H6 B gkv { openS S part r1 r2 with G:=openG S.G (r1.take i) } (N+i) (ix++[V.ref p1]) (ox++rx) (fx++rf) dk)
  ⟨none,none,dkv,rfl,s5,F5⟩ ?_ ?_ ?_
 ·rintro i σ H6 _ ⟨_,_,_,_,s6,_⟩
  exact SqL.of (s6 _ _ hl1)
 ·rintro i y σ H6 hy ⟨y2,y3,dk,rfl,s6,F6⟩
  obtain⟨⟨z,k⟩,hq,p,yv,rfl,hp',hyk⟩:=pair_get hrx hy
  replace hp':H0 p=some (.tup [.str z,yv]):=hp'
  replace hyk:KdAt K H0 yv k:=hyk
  have hil:=(List.getElem?_eq_some_iff.mp hy).1
  have hdl:=F6.dl
  refine⟨p,_,rfl,SqT.of (s6 _ _ hp'),rfl,_,_,rfl,_,_,rfl,rfl,_,rfl,_,rfl,B.g,.ref B.gd,rfl,F6.vd▸DGet.k (k:=.inr "given") F6.hg,_,rfl,(by show 2≤sizeLine;decide),fun p2 hp2=>?_⟩
  have t7:=same_new hp2 (.tup [.str "",.str z])
  have F7:=F6.same t7
  have F8:=F7.addG (n:=("",z)) ((hyk.same s6).same t7)
  refine⟨B.gd,_,rfl,DPut.t (k:=keyN ("",z)) F7.hd (by rw [upd_same]<;>rfl) (big (by omega)),?_⟩
  have et:r1.take (i+1)=r1.take i++[(z,k)]:=by rw [List.take_add_one,hq];rfl
  refine⟨_,_,putK dk (keyN ("",z)) yv,rfl,sput (s6.trans t7) fr.gd,?_⟩
  have eG:openG S.G (r1.take (i+1))=putG (openG S.G (r1.take i)) ("",z) k:=by
   unfold openG
   rw [et,List.foldl_append]
   rfl
  rw [eG]
  exact F8
 ·rintro σ H6 ⟨y2,y3,dk,rfl,s6,F6⟩
  rw [xl,List.take_length] at F6
  exact q H6 s6 ⟨_,_,_,_,F6.le (by omega)⟩
end
end K41
namespace K41
open PySem L2 Kk
abbrev adN:List Str:=["_law_cell_here","_law_word_here","_law_fun","_law_got","_law_given","_law_kind_here","_law_args","_law_params"]
abbrev adP:List Str:=["_law_cell_here","_law_word_here","_law_fun","_law_got"]
theorem kds_eq{K:PySem.W.Frag}{H:Hp}:∀{xs:List V} {ks:List Kd},KdsAt K H xs ks→∀{i:Nat} {k:Kd},ks[i]?=some k→∃x,xs[i]?=some x∧KdAt K H x k
 |_,_,.nil,i,k,h=>by simp at h
 |_,_,.cons a b,0,k,h=>by
  obtain rfl:=Option.some.inj h
  exact⟨_,rfl,a⟩
 |_,_,.cons a b,i+1,k,h=>kds_eq b (i:=i) h
section
variable{P:Program}{w:World}{K:PySem.W.Frag}{mg:Str→Option Value}{base:Heap}
theorem scAddL:FnScope adN adP (defScope sAddL):=⟨rfl,rfl,rfl,by decide +kernel,rfl,by decide +kernel,by decide +kernel⟩
set_option maxHeartbeats 0 in
theorem ok_addL{f fk fp:Addr}{fd fdk fdp:FuncData} (F:Fun K "_law_add" "_law_add" sAddL f fd)
  (GK:FnOk P w K mg base CX0 64 fk fdk klP (spKindL K)) (bK:Binds K fdk klP []) (kK:PySem.W.keepIn K (.ref fk)=true) (mK:mg "_law_kind"=some (.ref fk))
  (GP:FnOk P w K mg base CX0 3 fp fdp plP (spPut K 3)) (bP:Binds K fdp plP []) (kP:PySem.W.keepIn K (.ref fp)=true) (mP:mg "_law_put"=some (.ref fp))
  (mt:mg "tuple"=none) (mr:mg "range"=none) (ml:mg "len"=none):FnOk P w K mg base CX0 65 f fd adP (spAddL K):=by
 refine F.ok scAddL (fun vs H Q E h=>?_) (fun cdv A outer s H vs Q E hr h=>?_)
 ·obtain⟨H0,c,wz,fz,A,gkv,S,N,rfl,_⟩:=h
  rfl
 obtain⟨H0,c,wz,fz,B,gkv,S,N,rfl,s0,fr,⟨ix,ox,fx,dkv,FG⟩,hN,hO,hNO,hI,hFn,fine,q⟩:=h
 have hu:=hu_of hr
 have hr3:Room 3 _:=hr.mono (by decide)
 have il:=Paired.length FG.pi
 have ol:=Paired.length FG.po
 have fl:=Paired.length FG.pf
 have dl:=FG.dl
 have l4:(Str.ofString "abcd").length≤sizeLine:=by decide +kernel
 have h4:((Str.ofString "abcd").cps.toList.length:Int)=4:=by decide +kernel
 have big:∀{n:Nat},n≤999→n < sizeLine:=fun h=>Nat.lt_of_lt_of_le (Nat.lt_succ_self _) (small (by omega))
 refine⟨_,@pss_cons _ _ _ _ _ (ps_set (i:=4) scAddL.nd rfl (Or.inr rfl) (pe_dget hu (pv 3) pe_str (fun _ _=>rfl)))
  (@pss_one _ _ _ (ps_if (pt_cmpR op_eq (pe_op op_mod (pv 0) pe_int) pe_int (nomark _))
   (@pss_cons _ _ _ _ _ (ps_set (i:=5) scAddL.nd rfl (Or.inl rfl) (pe_call GK hr rfl mK kK bK .nil pass0 (@pa_cons _ _ _ _ _ (pe_op op_fdiv (pv 0) pe_int) (@pa_cons _ _ _ _ _ (pv 3) pa_nil rfl) rfl)))
   (@pss_cons _ _ _ _ _ (ps_expr (pe_bm PySem.F.plainAttrs_list PySem.F.slot_list_append PySem.F.type_list_append mt_append (pe_dget hu (pv 3) pe_str (fun _ _=>rfl)) (@pa_cons _ _ _ _ _ (@pe_tup _ _ _ _ _ (@pa_cons _ _ _ _ _ pe_str (@pa_cons _ _ _ _ _ (pv 1) (@pa_cons _ _ _ _ _ (pv 5) pa_nil rfl) rfl) rfl)) pa_nil rfl)))
   (@pss_cons _ _ _ _ _ (ps_expr (pe_bm PySem.F.plainAttrs_list PySem.F.slot_list_append PySem.F.type_list_append mt_append (pe_dget hu (pv 3) pe_str (fun _ _=>rfl)) (@pa_cons _ _ _ _ _ (@pe_tup _ _ _ _ _ (@pa_cons _ _ _ _ _ (pv 1) (@pa_cons _ _ _ _ _ (pe_call GP hr3 rfl mP kP bP .nil pass0 (@pa_cons _ _ _ _ _ (pv 5) (@pa_cons _ _ _ _ _ (pv 4) pa_nil rfl) rfl)) pa_nil rfl) rfl)) pa_nil rfl)))
   (@pss_one _ _ _ (ps_dput hu (pv 4) (@pe_tup _ _ _ _ _ (@pa_cons _ _ _ _ _ pe_str (@pa_cons _ _ _ _ _ (pv 1) pa_nil rfl) rfl)) (pe_call GP hr3 rfl mP kP bP .nil pass0 (@pa_cons _ _ _ _ _ (pv 5) (@pa_cons _ _ _ _ _ (pv 4) pa_nil rfl) rfl)) rfl)))))
   (@pss_cons _ _ _ _ _ (ps_set (i:=6) scAddL.nd rfl (Or.inr rfl) (pe_comp (own:=["_law_j"]) (caps:=["_law_cell_here","_law_got"]) (κ:=[0,3]) rfl ⟨rfl,by decide +kernel,by decide +kernel,rfl,rfl,two_of rfl rfl,two_of ⟨.inl rfl,rfl,.inl rfl⟩ ⟨.inl rfl,rfl,.inl rfl⟩⟩ rfl
     (pi_range1 rfl mr (@pa_cons _ _ _ _ _ (pe_op op_mod (pe_op op_fdiv (pv 0) pe_int) pe_int) pa_nil rfl)) (fun _ _ _ _=>pg_name (i:=0) (show(["_law_j","_law_cell_here","_law_got"]:List Str).Nodup from by decide +kernel) rfl (Or.inl rfl))
     (fun _ _ _ _=>pe_call GK hr rfl mK kK bK .nil pass0 (@pa_cons _ _ _ _ _ (pe_op op_add (pe_op op_fdiv (pv 1) (pe_op op_add (pv 0) pe_int)) (pe_op op_mul pe_int (pv 0))) (@pa_cons _ _ _ _ _ (pv 2) pa_nil rfl) rfl))))
   (@pss_cons _ _ _ _ _ (ps_set (i:=5) scAddL.nd rfl (Or.inl rfl) (pe_call GK hr rfl mK kK bK .nil pass0 (@pa_cons _ _ _ _ _ (pe_op op_fdiv (pv 0) pe_int) (@pa_cons _ _ _ _ _ (pv 3) pa_nil rfl) rfl)))
   (@pss_cons _ _ _ _ _ (ps_set (i:=7) scAddL.nd rfl (Or.inl rfl) (pe_callTy call_tuple_of rfl mt bootTuple (@pa_cons _ _ _ _ _ (pe_comp (own:=["_law_j"]) (caps:=["_law_args"]) (κ:=[6]) rfl ⟨rfl,by decide +kernel,by decide +kernel,rfl,rfl,one_of rfl,one_of ⟨.inl rfl,rfl,.inl rfl⟩⟩ rfl
     (pi_range1 rfl mr (@pa_cons _ _ _ _ _ (pe_callB call_len_seq rfl ml PySem.boot_len (@pa_cons _ _ _ _ _ (pv 6) pa_nil rfl)) pa_nil rfl)) (fun _ _ _ _=>pg_name (i:=0) (show(["_law_j","_law_args"]:List Str).Nodup from by decide +kernel) rfl (Or.inl rfl))
     (fun _ _ _ _=>pe_tup (@pa_cons _ _ _ _ _ (pe_ix (r:=rIxS) ix_str pe_str (pv 0) (fun _ _=>rfl)) (@pa_cons _ _ _ _ _ (pe_ix (r:=rIxL K) ix_list (pv 1) (pv 0) (fun _ _=>rfl)) pa_nil rfl) rfl))) pa_nil rfl)))
   (@pss_cons _ _ _ _ _ (ps_expr (pe_bm PySem.F.plainAttrs_list PySem.F.slot_list_append PySem.F.type_list_append mt_append (pe_dget hu (pv 3) pe_str (fun _ _=>rfl)) (@pa_cons _ _ _ _ _ (@pe_tup _ _ _ _ _ (@pa_cons _ _ _ _ _ pe_str (@pa_cons _ _ _ _ _ (pv 2) (@pa_cons _ _ _ _ _ (pv 7) (@pa_cons _ _ _ _ _ (pv 5) (@pa_cons _ _ _ _ _ (@pe_tup _ _ _ _ _ (@pa_cons _ _ _ _ _ pe_str (@pa_cons _ _ _ _ _ pe_str pa_nil rfl) rfl)) pa_nil rfl) rfl) rfl) rfl) rfl)) pa_nil rfl)))
   (@pss_one _ _ _ (ps_expr (pe_bm PySem.F.plainAttrs_list PySem.F.slot_list_append PySem.F.type_list_append mt_append (pe_dget hu (pv 3) pe_str (fun _ _=>rfl)) (@pa_cons _ _ _ _ _ (@pe_tup _ _ _ _ _ (@pa_cons _ _ _ _ _ (pv 2) (@pa_cons _ _ _ _ _ (@pe_tup _ _ _ _ _ (@pa_cons _ _ _ _ _ (pe_callTy call_tuple_of rfl mt bootTuple (@pa_cons _ _ _ _ _ (pe_comp (own:=["_law_one"]) (caps:=["_law_given"]) (κ:=[4]) rfl ⟨rfl,by decide +kernel,by decide +kernel,rfl,rfl,one_of rfl,one_of ⟨.inl rfl,rfl,.inl rfl⟩⟩ rfl
     (pi_list (pv 6)) (fun _ _ _ _=>pg_name (i:=0) (show(["_law_one","_law_given"]:List Str).Nodup from by decide +kernel) rfl (Or.inl rfl)) (fun _ _ _ _=>pe_call GP hr3 rfl mP kP bP .nil pass0 (@pa_cons _ _ _ _ _ (pv 0) (@pa_cons _ _ _ _ _ (pv 1) pa_nil rfl) rfl))) pa_nil rfl)) (@pa_cons _ _ _ _ _ (pe_call GP hr3 rfl mP kP bP .nil pass0 (@pa_cons _ _ _ _ _ (pv 5) (@pa_cons _ _ _ _ _ (pv 4) pa_nil rfl) rfl)) pa_nil rfl) rfl)) pa_nil rfl) rfl)) pa_nil rfl)))))))))),?_⟩
 refine⟨_,rfl,B.g,.ref B.gd,rfl,FG.vd▸DGet.k (k:=.inr "given") FG.hg,?_⟩
 refine⟨_,rfl,_,_,rfl,rfl,(by show(0:Int) < 2;decide),rfl,_,rfl,ite2 (fun _=>?_) (fun _=>?_)⟩
 ·-- a kind
  refine⟨_,rfl,_,_,rfl,rfl,⟨by decide,by decide⟩,_,rfl,c / 2,B,gkv,S,N,rfl,⟨_,_,_,_,FG⟩,hN,hO,hNO,fine,fun H1 v k s1 hv hk=>?_⟩
  have F1:=FG.same s1
  have hd3:Kd.depth k≤3:=Nat.le_trans (depth_leaves k) hk.2.1
  refine⟨_,rfl,B.g,.ref B.il,rfl,F1.vi▸DGet.k (k:=.inr "items") F1.hg,.inl ⟨rfl,_,SqL.of F1.hi⟩,_,rfl,_,rfl,(by show 3≤sizeLine;decide),fun p1 hp1=>?_⟩
  have t2:=same_new hp1 (.tup [.str "kind",.str wz,v])
  have F2:=F1.same t2
  refine⟨B.il,_,.ref p1,rfl,rfl,F2.hi,big (by omega),?_⟩
  have F3:=F2.addI (vs:=[.ref p1]) (its:=[.kind wz k]) (.cons ⟨p1,v,rfl,SqT.of upd_same,hv.same t2⟩ .nil)
  have hv3:KdAt K (upd (upd H1 p1 (.tup [.str "kind",.str wz,v])) B.il (.lst (ix++[.ref p1]))) v k:=kd_keep (fun _ _ t=>sqt_upd F2.hi t) (hv.same t2)
  have s3:Same H0 (upd (upd H1 p1 (.tup [.str "kind",.str wz,v])) B.il (.lst (ix++[.ref p1]))):=sput (s0.trans (s1.trans t2)) fr.il
  revert F3 hv3 s3
  generalize upd (upd H1 p1 (.tup [.str "kind",.str wz,v])) B.il (.lst (ix++[.ref p1]))=H3
  intro F3 hv3 s3
  refine⟨_,rfl,B.g,.ref B.ol,rfl,F3.vo▸DGet.k (k:=.inr "own") F3.hg,.inl ⟨rfl,_,SqL.of F3.ho⟩,_,rfl,_,rfl,_,rfl,v,B.gd,k,dkv,S.G,rfl,hv3,hd3,F3.hd,F3.gv,fun H4 v4 s4 hv4=>⟨(by show 2≤sizeLine;decide),fun p5 hp5=>?_⟩⟩
  have t5:=same_new hp5 (.tup [.str wz,v4])
  have F5:=(F3.same s4).same t5
  refine⟨B.ol,_,.ref p5,rfl,rfl,F5.ho,big (by omega),?_⟩
  have F6:=F5.addO (vs:=[.ref p5]) (r:=[(wz,Kd.put S.G k)]) (.cons ⟨p5,v4,rfl,upd_same,hv4.same t5⟩ .nil)
  have hv6:KdAt K (upd (upd H4 p5 (.tup [.str wz,v4])) B.ol (.lst (ox++[.ref p5]))) v k:=kd_keep (fun _ _ t=>sqt_upd F5.ho t) ((hv3.same s4).same t5)
  have s6:Same H0 (upd (upd H4 p5 (.tup [.str wz,v4])) B.ol (.lst (ox++[.ref p5]))):=sput (s3.trans (s4.trans t5)) fr.ol
  revert F6 hv6 s6
  generalize upd (upd H4 p5 (.tup [.str wz,v4])) B.ol (.lst (ox++[.ref p5]))=H6
  intro F6 hv6 s6
  refine⟨_,rfl,_,rfl,v,B.gd,k,dkv,S.G,rfl,hv6,hd3,F6.hd,F6.gv,fun H7 v7 s7 hv7=>⟨_,rfl,_,rfl,(by show 2≤sizeLine;decide),fun p8 hp8=>?_⟩⟩
  have t8:=same_new hp8 (.tup [.str "",.str wz])
  have F8:=(F6.same s7).same t8
  refine⟨B.gd,_,rfl,DPut.t (k:=keyN ("",wz)) F8.hd (by rw [upd_same]<;>rfl) (big (by omega)),?_⟩
  exact q _ (addK S wz k) (sput (s6.trans (s7.trans t8)) fr.gd) ⟨_,_,_,_,F8.addG (n:=("",wz)) (hv7.same t8)⟩ (.inl ⟨k,hk,rfl⟩)
 ·-- a function
  have b0:=Int.emod_nonneg (c / 2) (show(5:Int)≠0 by decide)
  have b1:=Int.emod_lt_of_pos (c / 2) (show(0:Int) < 5 by decide)
  refine⟨_,rfl,_,_,rfl,rfl,⟨by decide,by decide⟩,_,_,rfl,rfl,(by show(0:Int) < 5;decide),_,rfl,by omega,by omega,?_⟩
  refine comp_r (m:=(c / 2%5).toNat) (by omega) (fun j ys H3=>ys.length=j∧∃ks:List Kd,KdsAt K H3 ys ks∧∀k∈ks,KK S.G k) ⟨rfl,[],.nil,fun k hk=>nomatch hk⟩ (fun _ _ _ h=>Nat.le_of_eq h.1) ?_ ?_
  ·rintro j ys H3 Nx hNx hj s3 ⟨hyl,ks,hks,hall⟩
   refine⟨rfl,tYes_go ⟨_,rfl,_,rfl,_,_,rfl,rfl,_,_,rfl,rfl,⟨by omega,by omega⟩,_,rfl,_,_,rfl,rfl,.inl ⟨by decide,by decide⟩,_,_,rfl,rfl,_,rfl,_,B,gkv,S,N,rfl,⟨_,_,_,_,FG.same s3⟩,hN,hO,hNO,fine,fun H4 v k s4 hv hm=>hNx _ _ (s3.trans s4) ⟨by rw [List.length_append,hyl];rfl,ks++[k],(hks.same s4).append (.cons hv .nil),fun k' hk'=>?_⟩⟩⟩
   rcases List.mem_append.mp hk' with h|h
   ·exact hall k' h
   ·rw [List.mem_singleton.mp h]
    exact hm
  rintro ys H3 D s3 ⟨hyl,ks,hks,hall⟩ hD
  have t3:=same_new hD (.lst ys)
  have hyl4:ys.length≤4:=by omega
  have s4:=s3.trans t3
  have hks4:=hks.same t3
  have hD4:upd H3 D (.lst ys) D=some (.lst ys):=upd_same
  revert s4 hks4 hD4
  generalize upd H3 D (.lst ys)=H4
  intro s4 hks4 hD4
  have ksl:=hks.length
  refine⟨_,rfl,_,_,rfl,rfl,⟨by decide,by decide⟩,_,rfl,c / 11,B,gkv,S,N,rfl,⟨_,_,_,_,FG.same s4⟩,hN,hO,hNO,fine,fun H5 v k s5 hv hk=>?_⟩
  have hD5:=s5 _ _ hD4
  have hks5:=hks4.same s5
  refine⟨_,rfl,D,_,rfl,.inl (SqL.of hD5),_,rfl,by omega,by omega,?_⟩
  refine comp_r (m:=ys.length) (by omega) (fun j us H6=>us.length=j∧∃ps:List (Str × Kd),WithsAt K H6 us ps∧ps.map (·.2)=ks.take j) ⟨rfl,[],.nil,rfl⟩ (fun _ _ _ h=>Nat.le_of_eq h.1) ?_ ?_
  ·rintro j us H6 Nx hNx hj s6 ⟨hul,ps,hps,hpk⟩
   obtain⟨g,hg⟩:=at_ex (xs:=(Str.ofString "abcd").cps.toList) (i:=(j:Int)) (by omega) (by rw [h4];omega)
   have hjk:j < ks.length:=by omega
   obtain⟨x,hx,hxk⟩:=kds_eq hks5 (List.getElem?_eq_getElem hjk)
   refine⟨rfl,tYes_go ⟨_,rfl,_,_,_,rfl,rfl,l4,hg,_,rfl,_,rfl,D,ys,_,x,rfl,rfl,SqL.of (s6 _ _ hD5),atI_nat hx,(by show 2≤sizeLine;decide),fun p7 hp7=>?_⟩⟩
   have t7:=same_new hp7 (.tup [.str ⟨#[g]⟩,x])
   refine hNx _ _ (s6.trans t7) ⟨by rw [List.length_append,hul];rfl,ps++[(⟨#[g]⟩,ks[j])],pappR (Paired.mapP hps fun _ _ h=>h.same t7) (.cons ⟨p7,x,rfl,SqT.of upd_same,(hxk.same s6).same t7⟩ .nil),?_⟩
   rw [List.map_append,hpk,List.take_add_one,List.getElem?_eq_getElem hjk]
   rfl
  rintro us H6 D6 s6 ⟨hul,ps,hps,hpk⟩ hD6
  have hpk':ps.map (·.2)=ks:=by rw [hpk,ksl,List.take_length]
  have t6:=same_new hD6 (.lst us)
  refine⟨D6,us,rfl,.inl ⟨SqL.of upd_same,fun ta hta=>?_⟩⟩
  have t7:=same_new hta (.tup us)
  have s7:=s5.trans (s6.trans (t6.trans t7))
  have hta7:upd (upd H6 D6 (.lst us)) ta (.tup us) ta=some (.tup us):=upd_same
  have hps7:WithsAt K (upd (upd H6 D6 (.lst us)) ta (.tup us)) us ps:=Paired.mapP hps fun _ _ h=>h.same (t6.trans t7)
  have hv7:KdAt K (upd (upd H6 D6 (.lst us)) ta (.tup us)) v k:=hv.same (s6.trans (t6.trans t7))
  revert s7 hta7 hps7 hv7
  generalize upd (upd H6 D6 (.lst us)) ta (.tup us)=H7
  intro s7 hta7 hps7 hv7
  have F7:=FG.same (s4.trans s7)
  have hd3:Kd.depth k≤3:=Nat.le_trans (depth_leaves k) hk.2.1
  refine⟨_,rfl,B.g,.ref B.il,rfl,F7.vi▸DGet.k (k:=.inr "items") F7.hg,.inl ⟨rfl,_,SqL.of F7.hi⟩,_,rfl,_,rfl,_,rfl,(by show 2≤sizeLine;decide),fun p8 hp8=>?_⟩
  have t8:=same_new hp8 (.tup [.str "var",.str "a"])
  refine⟨(by show 5≤sizeLine;decide),fun p9 hp9=>?_⟩
  have t9:=same_new hp9 (.tup [.str "fun",.str fz,.ref ta,v,.ref p8])
  have t89:=t8.trans t9
  have F9:=F7.same t89
  refine⟨B.il,_,.ref p9,rfl,rfl,F9.hi,big (by omega),?_⟩
  have F10:=F9.addI (vs:=[.ref p9]) (its:=[.fn fz ps k]) (.cons ⟨p9,ta,v,.ref p8,us,rfl,SqT.of upd_same,SqT.of (t89 _ _ hta7),Paired.mapP hps7 fun _ _ h=>h.same t89,hv7.same t89⟩ .nil)
  have kp10:∀{a xs},SqT K (upd (upd H7 p8 (.tup [.str "var",.str "a"])) p9 (.tup [.str "fun",.str fz,.ref ta,v,.ref p8])) a xs→SqT K (upd (upd (upd H7 p8 (.tup [.str "var",.str "a"])) p9 (.tup [.str "fun",.str fz,.ref ta,v,.ref p8])) B.il (.lst (ix++[.ref p9]))) a xs:=fun t=>sqt_upd F9.hi t
  have hv10:=kd_keep (fun _ _=>kp10) (hv7.same t89)
  have hks10:=kds_keep (fun _ _=>kp10) ((hks4.same s7).same t89)
  have hDn:D≠B.il:=fun e=>by
   have:=(FG.same s4).hi
   rw [←e,hD4] at this
   have hDH:H D=none:=s3.free hD
   rw [e,FG.hi] at hDH
   cases hDH
  have hD10:upd (upd (upd H7 p8 (.tup [.str "var",.str "a"])) p9 (.tup [.str "fun",.str fz,.ref ta,v,.ref p8])) B.il (.lst (ix++[.ref p9])) D=some (.lst ys):=by
   rw [upd_ne hDn]
   exact t89 _ _ (s7 _ _ hD4)
  have s10:Same H0 (upd (upd (upd H7 p8 (.tup [.str "var",.str "a"])) p9 (.tup [.str "fun",.str fz,.ref ta,v,.ref p8])) B.il (.lst (ix++[.ref p9]))):=sput (s0.trans (s4.trans (s7.trans t89))) fr.il
  revert F10 hv10 hks10 hD10 s10
  generalize upd (upd (upd H7 p8 (.tup [.str "var",.str "a"])) p9 (.tup [.str "fun",.str fz,.ref ta,v,.ref p8])) B.il (.lst (ix++[.ref p9]))=H10
  intro F10 hv10 hks10 hD10 s10
  refine⟨_,rfl,B.g,.ref B.fl,rfl,F10.vf▸DGet.k (k:=.inr "funs") F10.hg,.inl ⟨rfl,_,SqL.of F10.hf⟩,_,rfl,_,rfl,D,rfl,⟨_,SqL.of hD10⟩,?_⟩
  refine comp_l (SqL.of hD10) (by omega) (fun j us H11=>us.length≤j∧KdsAt K H11 us ((ks.take j).map (Kd.put S.G))) ⟨Nat.le_refl _,.nil⟩ (fun _ _ _ h=>h.1) ?_ ?_
  ·rintro j x us H11 Nx hNx hx s11 ⟨hul,hus⟩
   obtain⟨kk,hkk,hxk⟩:=hks10.get hx
   have hKK:=hall kk (List.mem_of_getElem? hkk)
   have F11:=F10.same s11
   refine⟨rfl,tYes_go ⟨_,rfl,_,rfl,x,B.gd,kk,dkv,S.G,rfl,hxk.same s11,Nat.le_trans (depth_leaves kk) hKK.2.1,F11.hd,F11.gv,fun H12 v12 s12 hv12=>hNx _ _ (s11.trans s12) ⟨by rw [List.length_append];show us.length+1≤j+1;omega,?_⟩⟩⟩
   rw [List.take_add_one,hkk,List.map_append]
   exact(hus.same s12).append (.cons hv12 .nil)
  rintro us2 H11 D11 s11 ⟨hul2,hus2⟩ hD11
  rw [ksl,List.take_length] at hus2
  have t11:=same_new hD11 (.lst us2)
  refine⟨D11,us2,rfl,.inl ⟨SqL.of upd_same,fun tb htb=>?_⟩⟩
  have t12:=same_new htb (.tup us2)
  have s12:=s11.trans (t11.trans t12)
  have F12:=F10.same s12
  refine⟨_,rfl,_,rfl,v,B.gd,k,dkv,S.G,rfl,hv10.same s12,hd3,F12.hd,F12.gv,fun H13 v13 s13 hv13=>⟨(by show 2≤sizeLine;decide),fun p14 hp14=>?_⟩⟩
  have t14:=same_new hp14 (.tup [.ref tb,v13])
  refine⟨(by show 2≤sizeLine;decide),fun p15 hp15=>?_⟩
  have t15:=same_new hp15 (.tup [.str fz,.ref p14])
  have tz:=s13.trans (t14.trans t15)
  have F15:=F12.same tz
  refine⟨B.fl,_,.ref p15,rfl,rfl,F15.hf,big (by omega),?_⟩
  refine q _ (addFn S fz ps k) (sput (s10.trans (s12.trans tz)) fr.fl) ⟨_,_,_,_,(F15.addF (vs:=[.ref p15]) (r:=[(fz,((ps.map fun(q:Str × Kd)=>q.2).map (Kd.put S.G),Kd.put S.G k))]) (.cons ⟨p15,.ref p14,rfl,upd_same,p14,tb,v13,us2,rfl,SqT.of (t15 _ _ upd_same),SqT.of (tz _ _ upd_same),?_,hv13.same (t14.trans t15)⟩ .nil)).le (by omega)⟩ (.inr ⟨ps,k,?_,?_,hk,rfl⟩)
  ·rw [hpk']
   exact hus2.same (t11.trans (t12.trans tz))
  ·have:=congrArg List.length hpk'
   rw [List.length_map] at this
   omega
  ·intro q' hq'
   refine hall _ ?_
   rw [←hpk']
   exact List.mem_map.mpr ⟨q',hq',rfl⟩
end
end K41
namespace K41
open PySem L2 Kk
inductive Wr (kr:Parts) (S:LS) (wz fz pz:Str):Nat→It→Prop
 |own {old:Str} {n:Int}:old∈S.own.map (·.1)→Wr kr S wz fz pz 0 (.kind old (.num n))
 |fn {old:Str}:old∈S.funs.map (·.1)→Wr kr S wz fz pz 0 (.fn old [] (.num 2))
 |opn {p:Str} {r:Rows1 × Rows2}:(p,r)∈kr→p∈S.ops→0 < r.1.length+r.2.length→Wr kr S wz fz pz 0 (.opn p)
 |nopart:Wr kr S wz fz pz 1 (.opn pz)
 |self:Wr kr S wz fz pz 2 (.kind wz (.pair (.num 2) (.name "" wz)))
 |arg {p:Str} {r:Rows1 × Rows2} {rest:Parts}:kr=(p,r)::rest→Wr kr S wz fz pz 2 (.fn fz [("x",.name p wz)] (.num 2))
 |ans:Wr kr S wz fz pz 2 (.fn fz [] (.name pz wz))
 |big1:Wr kr S wz fz pz 3 (.kind wz (greatK 20))
 |big2:Wr kr S wz fz pz 3 (.fn fz [("a",.num 2),("b",greatK 20)] (.num 3))
 |big3:Wr kr S wz fz pz 3 (.fn fz [("a",.num 2)] (greatK 20))
def RowAt(K:PySem.W.Frag)(H:Hp)(v:V)(q:Str × (Rows1 × Rows2)):Prop:=∃t l1 l2,v=.ref t∧H t=some (.tup [.str q.1,.ref l1,.ref l2])∧RkAt K H l1 q.2.1∧RfAt K H l2 q.2.2
theorem RowAt.same{K:PySem.W.Frag}{H H':Hp}{v:V}{q:Str × (Rows1 × Rows2)}(e:Same H H')(h:RowAt K H v q):RowAt K H' v q:=by
 obtain⟨t,l1,l2,h1,h2,h3,h4⟩:=h
 exact⟨t,l1,l2,h1,e _ _ h2,h3.same e,h4.same e⟩
def KnAt(K:PySem.W.Frag)(H:Hp)(kn:Addr)(kr:Parts):Prop:=∃ts,H kn=some (.lst ts)∧Paired (RowAt K H) ts kr
theorem KnAt.same{K:PySem.W.Frag}{H H':Hp}{kn:Addr}{kr:Parts}(e:Same H H')(h:KnAt K H kn kr):KnAt K H' kn kr:=by
 obtain⟨ts,h1,h2⟩:=h
 exact⟨ts,e _ _ h1,Paired.mapP h2 fun _ _ t=>t.same e⟩
def rLen(K:PySem.W.Frag):List V→Hp→VK→Prop:=fun xs H Q=>∃p ys,xs=[.ref p]∧(SqL K H p ys∨SqT K H p ys)∧Q (.int ys.length) H
theorem call_lenK{X:Cx}{K:PySem.W.Frag}(hK:X.K=K):CallR X (.builtin "len") (rLen K):=by
 subst hK
 exact call_len_seq
def spWrong(K:PySem.W.Frag):Sp:=fun vs H Q _=>∃(c:Int) (wt:Addr) (wz fz pz:Str) (kn:Addr) (kr:Parts) (A:GA) (gkv:List (Key × V)) (S:LS) (N:Nat),vs=[.int c,.ref wt,.ref kn,.ref A.g]∧SqT K H wt [.str wz,.str fz,.str pz]∧KnAt K H kn kr∧kr.length=2∧GotAt K H A gkv S N∧S.own.length≤200∧S.funs.length≤200 ∧
 ∀(H':Hp) (t:Addr) (v:V) (d:Nat) (it:It),Same H H'→H' t=some (.tup [.int (d:Int),v])→ItAt K H' v it→Wr kr S wz fz pz d it→Q (.ref t) H'
abbrev wrN:List Str:=["_law_cell_here","_law_words","_law_known_here","_law_got","_law_word_here","_law_fun","_law_part","_law_sort","_law_opened","_law_old"]
abbrev wrP:List Str:=["_law_cell_here","_law_words","_law_known_here","_law_got"]
section
variable{P:Program}{w:World}{K:PySem.W.Frag}{mg:Str→Option Value}{base:Heap}
theorem scWrong:FnScope wrN wrP (defScope sWrong):=⟨rfl,rfl,rfl,by decide +kernel,rfl,by decide +kernel,by decide +kernel⟩
set_option maxHeartbeats 0 in
theorem ok_wrong{f fg:Addr}{fd fdg:FuncData} (F:Fun K "_law_wrong" "_law_wrong" sWrong f fd)
  (GG:FnOk P w K mg base CX0 1 fg fdg ["_law_count"] (spGreat K)) (bG:Binds K fdg ["_law_count"] []) (kG:PySem.W.keepIn K (.ref fg)=true) (mG:mg "_law_great"=some (.ref fg))
  (ml:mg "len"=none):FnOk P w K mg base CX0 2 f fd wrP (spWrong K):=by
 refine F.ok scWrong (fun vs H Q E h=>?_) (fun cdv A outer s H vs Q E hr h=>?_)
 ·obtain⟨c,wt,wz,fz,pz,kn,kr,A,gkv,S,N,rfl,_⟩:=h
  rfl
 obtain⟨c,wt,wz,fz,pz,kn,kr,B,gkv,S,N,rfl,hwt,⟨ts,hkn,hts⟩,hk2,⟨ix,ox,fx,dkv,FG⟩,hO,hFn,q⟩:=h
 have hu:=hu_of hr
 have hr1:Room 1 _:=hr.mono (by decide)
 have ol:=Paired.length FG.po
 have fl:=Paired.length FG.pf
 have tl':=Paired.length hts
 obtain⟨t6,d6,k6⟩:∃t,PSs (cxOf CX0 P w K mg base wrN "_law_wrong" (defScope sWrong) f cdv A outer s H E).nox (List.drop 6 (defBody sWrong)) t∧∀(H4:Hp) (D:Addr) (zs:List Str),Same H H4→H4 D=some (.lst (zs.map V.str))→(∀z∈zs,∃r,(z,r)∈kr∧z∈S.ops∧0 < r.1.length+r.2.length)→t { nx:=fun _ H'=>Q .non H',rt:=Q } [some (.int c),some (.ref wt),some (.ref kn),some (.ref B.g),some (.str wz),some (.str fz),some (.str pz),some (.int (c%8)),some (.ref D),none] H4:=by
  refine⟨_,(@pss_cons _ _ _ _ _ (ps_if (pt_cmpR op_eq (pv 7) pe_int (nomark _)) (@pss_one _ _ _ (@ps_ret _ _ _ _ (@pe_tup _ _ _ _ _ (@pa_cons _ _ _ _ _ pe_int (@pa_cons _ _ _ _ _ (@pe_tup _ _ _ _ _ (@pa_cons _ _ _ _ _ pe_str (@pa_cons _ _ _ _ _ (pv 6) pa_nil rfl) rfl)) pa_nil rfl) rfl)))) pss_nil) (@pss_cons _ _ _ _ _ (ps_if (pt_cmpR op_eq (pv 7) pe_int (nomark _)) (@pss_one _ _ _ (@ps_ret _ _ _ _ (@pe_tup _ _ _ _ _ (@pa_cons _ _ _ _ _ pe_int (@pa_cons _ _ _ _ _ (@pe_tup _ _ _ _ _ (@pa_cons _ _ _ _ _ pe_str (@pa_cons _ _ _ _ _ (pv 4) (@pa_cons _ _ _ _ _ (@pe_tup _ _ _ _ _ (@pa_cons _ _ _ _ _ pe_str (@pa_cons _ _ _ _ _ (@pe_tup _ _ _ _ _ (@pa_cons _ _ _ _ _ pe_str (@pa_cons _ _ _ _ _ pe_int pa_nil rfl) rfl)) (@pa_cons _ _ _ _ _ (@pe_tup _ _ _ _ _ (@pa_cons _ _ _ _ _ pe_str (@pa_cons _ _ _ _ _ pe_str (@pa_cons _ _ _ _ _ (pv 4) pa_nil rfl) rfl) rfl)) pa_nil rfl) rfl) rfl)) pa_nil rfl) rfl) rfl)) pa_nil rfl) rfl)))) pss_nil) (@pss_cons _ _ _ _ _ (ps_if (pt_cmpR op_eq (pv 7) pe_int (nomark _)) (@pss_one _ _ _ (@ps_ret _ _ _ _ (@pe_tup _ _ _ _ _ (@pa_cons _ _ _ _ _ pe_int (@pa_cons _ _ _ _ _ (@pe_tup _ _ _ _ _ (@pa_cons _ _ _ _ _ pe_str (@pa_cons _ _ _ _ _ (pv 5) (@pa_cons _ _ _ _ _ (@pe_tup _ _ _ _ _ (@pa_cons _ _ _ _ _ (@pe_tup _ _ _ _ _ (@pa_cons _ _ _ _ _ pe_str (@pa_cons _ _ _ _ _ (@pe_tup _ _ _ _ _ (@pa_cons _ _ _ _ _ pe_str (@pa_cons _ _ _ _ _ (pe_ix ix_tup (pe_ix ix_list (pv 2) pe_int (fun _ _=>rfl)) pe_int (fun _ _=>rfl)) (@pa_cons _ _ _ _ _ (pv 4) pa_nil rfl) rfl) rfl)) pa_nil rfl) rfl)) pa_nil rfl)) (@pa_cons _ _ _ _ _ (@pe_tup _ _ _ _ _ (@pa_cons _ _ _ _ _ pe_str (@pa_cons _ _ _ _ _ pe_int pa_nil rfl) rfl)) (@pa_cons _ _ _ _ _ (@pe_tup _ _ _ _ _ (@pa_cons _ _ _ _ _ pe_str (@pa_cons _ _ _ _ _ pe_str pa_nil rfl) rfl)) pa_nil rfl) rfl) rfl) rfl) rfl)) pa_nil rfl) rfl)))) pss_nil) (@pss_cons _ _ _ _ _ (ps_if (pt_cmpR op_eq (pv 7) pe_int (nomark _)) (@pss_one _ _ _ (@ps_ret _ _ _ _ (@pe_tup _ _ _ _ _ (@pa_cons _ _ _ _ _ pe_int (@pa_cons _ _ _ _ _ (@pe_tup _ _ _ _ _ (@pa_cons _ _ _ _ _ pe_str (@pa_cons _ _ _ _ _ (pv 5) (@pa_cons _ _ _ _ _ (@pe_tup _ _ _ _ _ pa_nil) (@pa_cons _ _ _ _ _ (@pe_tup _ _ _ _ _ (@pa_cons _ _ _ _ _ pe_str (@pa_cons _ _ _ _ _ (pv 6) (@pa_cons _ _ _ _ _ (pv 4) pa_nil rfl) rfl) rfl)) (@pa_cons _ _ _ _ _ (@pe_tup _ _ _ _ _ (@pa_cons _ _ _ _ _ pe_str (@pa_cons _ _ _ _ _ pe_str pa_nil rfl) rfl)) pa_nil rfl) rfl) rfl) rfl) rfl)) pa_nil rfl) rfl)))) pss_nil) (@pss_cons _ _ _ _ _ (ps_if (pt_cmpR op_eq (pe_op op_mod (pe_op op_fdiv (pv 0) pe_int) pe_int) pe_int (nomark _)) (@pss_one _ _ _ (@ps_ret _ _ _ _ (@pe_tup _ _ _ _ _ (@pa_cons _ _ _ _ _ pe_int (@pa_cons _ _ _ _ _ (@pe_tup _ _ _ _ _ (@pa_cons _ _ _ _ _ pe_str (@pa_cons _ _ _ _ _ (pv 4) (@pa_cons _ _ _ _ _ (pe_call GG hr1 rfl mG kG bG .nil pass0 (@pa_cons _ _ _ _ _ pe_int pa_nil rfl)) pa_nil rfl) rfl) rfl)) pa_nil rfl) rfl)))) pss_nil) (@pss_cons _ _ _ _ _ (ps_if (pt_cmpR op_eq (pe_op op_mod (pe_op op_fdiv (pv 0) pe_int) pe_int) pe_int (nomark _)) (@pss_one _ _ _ (@ps_ret _ _ _ _ (@pe_tup _ _ _ _ _ (@pa_cons _ _ _ _ _ pe_int (@pa_cons _ _ _ _ _ (@pe_tup _ _ _ _ _ (@pa_cons _ _ _ _ _ pe_str (@pa_cons _ _ _ _ _ (pv 5) (@pa_cons _ _ _ _ _ (@pe_tup _ _ _ _ _ (@pa_cons _ _ _ _ _ (@pe_tup _ _ _ _ _ (@pa_cons _ _ _ _ _ pe_str (@pa_cons _ _ _ _ _ (@pe_tup _ _ _ _ _ (@pa_cons _ _ _ _ _ pe_str (@pa_cons _ _ _ _ _ pe_int pa_nil rfl) rfl)) pa_nil rfl) rfl)) (@pa_cons _ _ _ _ _ (@pe_tup _ _ _ _ _ (@pa_cons _ _ _ _ _ pe_str (@pa_cons _ _ _ _ _ (pe_call GG hr1 rfl mG kG bG .nil pass0 (@pa_cons _ _ _ _ _ pe_int pa_nil rfl)) pa_nil rfl) rfl)) pa_nil rfl) rfl)) (@pa_cons _ _ _ _ _ (@pe_tup _ _ _ _ _ (@pa_cons _ _ _ _ _ pe_str (@pa_cons _ _ _ _ _ pe_int pa_nil rfl) rfl)) (@pa_cons _ _ _ _ _ (@pe_tup _ _ _ _ _ (@pa_cons _ _ _ _ _ pe_str (@pa_cons _ _ _ _ _ pe_str pa_nil rfl) rfl)) pa_nil rfl) rfl) rfl) rfl) rfl)) pa_nil rfl) rfl)))) pss_nil) (@pss_one _ _ _ (@ps_ret _ _ _ _ (@pe_tup _ _ _ _ _ (@pa_cons _ _ _ _ _ pe_int (@pa_cons _ _ _ _ _ (@pe_tup _ _ _ _ _ (@pa_cons _ _ _ _ _ pe_str (@pa_cons _ _ _ _ _ (pv 5) (@pa_cons _ _ _ _ _ (@pe_tup _ _ _ _ _ (@pa_cons _ _ _ _ _ (@pe_tup _ _ _ _ _ (@pa_cons _ _ _ _ _ pe_str (@pa_cons _ _ _ _ _ (@pe_tup _ _ _ _ _ (@pa_cons _ _ _ _ _ pe_str (@pa_cons _ _ _ _ _ pe_int pa_nil rfl) rfl)) pa_nil rfl) rfl)) pa_nil rfl)) (@pa_cons _ _ _ _ _ (pe_call GG hr1 rfl mG kG bG .nil pass0 (@pa_cons _ _ _ _ _ pe_int pa_nil rfl)) (@pa_cons _ _ _ _ _ (@pe_tup _ _ _ _ _ (@pa_cons _ _ _ _ _ pe_str (@pa_cons _ _ _ _ _ pe_str pa_nil rfl) rfl)) pa_nil rfl) rfl) rfl) rfl) rfl)) pa_nil rfl) rfl)))))))))),?_⟩
  intro H4 D zs s4 hD4 hzs
  have F4:=FG.same s4
  have hwt4:=s4.tup hwt
  refine⟨_,rfl,rfl,_,rfl,ite2 (fun _=>?_) (fun _=>?_)⟩
  ·refine⟨_,rfl,(by show 2≤sizeLine;decide),fun p1 h1=>?_⟩
   have e1:=same_new h1 (.tup [.str "open",.str pz])
   refine⟨(by show 2≤sizeLine;decide),fun p2 h2=>?_⟩
   have e2:=same_new h2 (.tup [.int 1,.ref p1])
   exact q _ p2 _ 1 (.opn pz) (s4.trans (e1.trans e2)) upd_same ⟨p1,rfl,SqT.of (e2 _ _ upd_same)⟩ .nopart
  refine⟨_,rfl,rfl,_,rfl,ite2 (fun _=>?_) (fun _=>?_)⟩
  ·refine⟨_,rfl,(by show 2≤sizeLine;decide),fun p1 h1=>?_⟩
   have e1:=same_new h1 (.tup [.str "num",.int 2])
   refine⟨_,rfl,(by show 3≤sizeLine;decide),fun p2 h2=>?_⟩
   have e2:=same_new h2 (.tup [.str "name",.str "",.str wz])
   refine⟨(by show 3≤sizeLine;decide),fun p3 h3=>?_⟩
   have e3:=same_new h3 (.tup [.str "pair",.ref p1,.ref p2])
   refine⟨(by show 3≤sizeLine;decide),fun p4 h4=>?_⟩
   have e4:=same_new h4 (.tup [.str "kind",.str wz,.ref p3])
   refine⟨(by show 2≤sizeLine;decide),fun p5 h5=>?_⟩
   have e5:=same_new h5 (.tup [.int 2,.ref p4])
   have e45:=e4.trans e5
   exact q _ p5 _ 2 (.kind wz (.pair (.num 2) (.name "" wz))) (s4.trans (e1.trans (e2.trans (e3.trans e45)))) upd_same ⟨p4,.ref p3,rfl,SqT.of (e5 _ _ upd_same),.pair (SqT.of (e45 _ _ upd_same)) (.num (SqT.of ((e2.trans (e3.trans e45)) _ _ upd_same))) (.name (SqT.of ((e3.trans e45) _ _ upd_same)))⟩ .self
  refine⟨_,rfl,rfl,_,rfl,ite2 (fun _=>?_) (fun _=>?_)⟩
  ·obtain⟨⟨p0,r0⟩,rest,rfl⟩:∃q rest,kr=q::rest:=List.exists_cons_of_length_pos (by omega)
   obtain⟨tv,ts',rfl,t,l1,l2,rfl,ht,_⟩:∃tv ts',ts=tv::ts'∧RowAt K H tv (p0,r0):=by
    cases hts with
    |cons a b=>exact⟨_,_,rfl,a⟩
   replace ht:H t=some (.tup [.str p0,.ref l1,.ref l2]):=ht
   refine⟨_,rfl,_,rfl,kn,_,_,_,rfl,rfl,SqL.of (s4 _ _ hkn),(show atI (V.ref t::ts') 0=some (.ref t) from atI_nat (j:=0) rfl),t,_,_,_,rfl,rfl,SqT.of (s4 _ _ ht),(show atI [V.str p0,.ref l1,.ref l2] 0=some (.str p0) from rfl),_,rfl,(by show 3≤sizeLine;decide),fun p1 h1=>?_⟩
   have e1:=same_new h1 (.tup [.str "name",.str p0,.str wz])
   refine⟨(by show 2≤sizeLine;decide),fun p2 h2=>?_⟩
   have e2:=same_new h2 (.tup [.str "x",.ref p1])
   refine⟨(by show 1≤sizeLine;decide),fun p3 h3=>?_⟩
   have e3:=same_new h3 (.tup [.ref p2])
   refine⟨(by show 2≤sizeLine;decide),fun p4 h4=>?_⟩
   have e4:=same_new h4 (.tup [.str "num",.int 2])
   refine⟨(by show 2≤sizeLine;decide),fun p5 h5=>?_⟩
   have e5:=same_new h5 (.tup [.str "var",.str "x"])
   refine⟨(by show 5≤sizeLine;decide),fun p6 h6=>?_⟩
   have e6:=same_new h6 (.tup [.str "fun",.str fz,.ref p3,.ref p4,.ref p5])
   refine⟨(by show 2≤sizeLine;decide),fun p7 h7=>?_⟩
   have e7:=same_new h7 (.tup [.int 2,.ref p6])
   have e67:=e6.trans e7
   have e57:=e5.trans e67
   have e47:=e4.trans e57
   have e37:=e3.trans e47
   exact q _ p7 _ 2 (.fn fz [("x",.name p0 wz)] (.num 2)) (s4.trans (e1.trans (e2.trans e37))) upd_same ⟨p6,p3,.ref p4,.ref p5,[.ref p2],rfl,SqT.of (e7 _ _ upd_same),SqT.of (e47 _ _ upd_same),.cons ⟨p2,.ref p1,rfl,SqT.of (e37 _ _ upd_same),.name (SqT.of ((e2.trans e37) _ _ upd_same))⟩ .nil,.num (SqT.of (e57 _ _ upd_same))⟩ (.arg rfl)
  refine⟨_,rfl,rfl,_,rfl,ite2 (fun _=>?_) (fun _=>?_)⟩
  ·refine⟨_,rfl,(by show 0≤sizeLine;decide),fun p1 h1=>?_⟩
   have e1:=same_new h1 (.tup [])
   refine⟨_,rfl,_,rfl,(by show 3≤sizeLine;decide),fun p2 h2=>?_⟩
   have e2:=same_new h2 (.tup [.str "name",.str pz,.str wz])
   refine⟨(by show 2≤sizeLine;decide),fun p3 h3=>?_⟩
   have e3:=same_new h3 (.tup [.str "var",.str "x"])
   refine⟨(by show 5≤sizeLine;decide),fun p4 h4=>?_⟩
   have e4:=same_new h4 (.tup [.str "fun",.str fz,.ref p1,.ref p2,.ref p3])
   refine⟨(by show 2≤sizeLine;decide),fun p5 h5=>?_⟩
   have e5:=same_new h5 (.tup [.int 2,.ref p4])
   have e35:=e3.trans (e4.trans e5)
   exact q _ p5 _ 2 (.fn fz [] (.name pz wz)) (s4.trans (e1.trans (e2.trans e35))) upd_same ⟨p4,p1,.ref p2,.ref p3,[],rfl,SqT.of (e5 _ _ upd_same),SqT.of ((e2.trans e35) _ _ upd_same),.nil,.name (SqT.of (e35 _ _ upd_same))⟩ .ans
  refine⟨_,rfl,_,_,rfl,rfl,⟨by decide,by decide⟩,_,_,rfl,rfl,(by show(0:Int) < 3;decide),rfl,_,rfl,ite2 (fun _=>?_) (fun _=>?_)⟩
  ·refine⟨_,rfl,20,rfl,by decide,fun H5 v s5 hv=>⟨(by show 3≤sizeLine;decide),fun p1 h1=>?_⟩⟩
   have e1:=same_new h1 (.tup [.str "kind",.str wz,v])
   refine⟨(by show 2≤sizeLine;decide),fun p2 h2=>?_⟩
   have e2:=same_new h2 (.tup [.int 3,.ref p1])
   exact q _ p2 _ 3 (.kind wz (greatK 20)) (s4.trans (s5.trans (e1.trans e2))) upd_same ⟨p1,v,rfl,SqT.of (e2 _ _ upd_same),hv.same (e1.trans e2)⟩ .big1
  refine⟨_,rfl,_,_,rfl,rfl,⟨by decide,by decide⟩,_,_,rfl,rfl,(by show(0:Int) < 3;decide),rfl,_,rfl,ite2 (fun _=>?_) (fun _=>?_)⟩
  ·refine⟨_,rfl,(by show 2≤sizeLine;decide),fun p1 h1=>?_⟩
   have e1:=same_new h1 (.tup [.str "num",.int 2])
   refine⟨(by show 2≤sizeLine;decide),fun p2 h2=>?_⟩
   have e2:=same_new h2 (.tup [.str "a",.ref p1])
   refine⟨20,rfl,by decide,fun H5 v s5 hv=>⟨(by show 2≤sizeLine;decide),fun p3 h3=>?_⟩⟩
   have e3:=same_new h3 (.tup [.str "b",v])
   refine⟨(by show 2≤sizeLine;decide),fun p4 h4=>?_⟩
   have e4:=same_new h4 (.tup [.ref p2,.ref p3])
   refine⟨(by show 2≤sizeLine;decide),fun p5 h5=>?_⟩
   have e5:=same_new h5 (.tup [.str "num",.int 3])
   refine⟨(by show 2≤sizeLine;decide),fun p6 h6=>?_⟩
   have e6:=same_new h6 (.tup [.str "var",.str "a"])
   refine⟨(by show 5≤sizeLine;decide),fun p7 h7=>?_⟩
   have e7:=same_new h7 (.tup [.str "fun",.str fz,.ref p4,.ref p5,.ref p6])
   refine⟨(by show 2≤sizeLine;decide),fun p8 h8=>?_⟩
   have e8:=same_new h8 (.tup [.int 3,.ref p7])
   have e68:=e6.trans (e7.trans e8)
   have e58:=e5.trans e68
   have e48:=e4.trans e58
   have e38:=e3.trans e48
   have s58:=s5.trans e38
   exact q _ p8 _ 3 (.fn fz [("a",.num 2),("b",greatK 20)] (.num 3)) (s4.trans (e1.trans (e2.trans s58))) upd_same ⟨p7,p4,.ref p5,.ref p6,[.ref p2,.ref p3],rfl,SqT.of (e8 _ _ upd_same),SqT.of (e58 _ _ upd_same),.cons ⟨p2,.ref p1,rfl,SqT.of (s58 _ _ upd_same),.num (SqT.of ((e2.trans s58) _ _ upd_same))⟩ (.cons ⟨p3,v,rfl,SqT.of (e48 _ _ upd_same),hv.same e38⟩ .nil),.num (SqT.of (e68 _ _ upd_same))⟩ .big2
  ·refine⟨_,rfl,(by show 2≤sizeLine;decide),fun p1 h1=>?_⟩
   have e1:=same_new h1 (.tup [.str "num",.int 2])
   refine⟨(by show 2≤sizeLine;decide),fun p2 h2=>?_⟩
   have e2:=same_new h2 (.tup [.str "a",.ref p1])
   refine⟨(by show 1≤sizeLine;decide),fun p3 h3=>?_⟩
   have e3:=same_new h3 (.tup [.ref p2])
   refine⟨20,rfl,by decide,fun H5 v s5 hv=>⟨(by show 2≤sizeLine;decide),fun p4 h4=>?_⟩⟩
   have e4:=same_new h4 (.tup [.str "var",.str "a"])
   refine⟨(by show 5≤sizeLine;decide),fun p5 h5=>?_⟩
   have e5:=same_new h5 (.tup [.str "fun",.str fz,.ref p3,v,.ref p4])
   refine⟨(by show 2≤sizeLine;decide),fun p6 h6=>?_⟩
   have e6:=same_new h6 (.tup [.int 3,.ref p5])
   have e46:=e4.trans (e5.trans e6)
   have s56:=s5.trans e46
   exact q _ p6 _ 3 (.fn fz [("a",.num 2)] (greatK 20)) (s4.trans (e1.trans (e2.trans (e3.trans s56)))) upd_same ⟨p5,p3,v,.ref p4,[.ref p2],rfl,SqT.of (e6 _ _ upd_same),SqT.of (s56 _ _ upd_same),.cons ⟨p2,.ref p1,rfl,SqT.of ((e3.trans s56) _ _ upd_same),.num (SqT.of ((e2.trans (e3.trans s56)) _ _ upd_same))⟩ .nil,hv.same e46⟩ .big3
 obtain⟨t5,d5,k5⟩:∃t,PSs (cxOf CX0 P w K mg base wrN "_law_wrong" (defScope sWrong) f cdv A outer s H E).nox (List.drop 5 (defBody sWrong)) t∧∀(H4:Hp) (D:Addr) (zs:List Str),Same H H4→H4 D=some (.lst (zs.map V.str))→(∀z∈zs,∃r,(z,r)∈kr∧z∈S.ops∧0 < r.1.length+r.2.length)→t { nx:=fun _ H'=>Q .non H',rt:=Q } [some (.int c),some (.ref wt),some (.ref kn),some (.ref B.g),some (.str wz),some (.str fz),some (.str pz),some (.int (c%8)),some (.ref D),none] H4:=by
  refine⟨_,(@pss_cons _ _ _ _ _ (ps_if (PW.pt (pw_and (pt_cmpR op_eq (pv 7) pe_int (nomark _)) (pw_and1 (pt_cmpR op_gt (pe_callB call_len_seq rfl ml PySem.boot_len (@pa_cons _ _ _ _ _ (pv 8) pa_nil rfl)) pe_int (nomark _))))) (@pss_one _ _ _ (@ps_ret _ _ _ _ (@pe_tup _ _ _ _ _ (@pa_cons _ _ _ _ _ pe_int (@pa_cons _ _ _ _ _ (@pe_tup _ _ _ _ _ (@pa_cons _ _ _ _ _ pe_str (@pa_cons _ _ _ _ _ (pe_ix ix_list (pv 8) pe_int (fun _ _=>rfl)) pa_nil rfl) rfl)) pa_nil rfl) rfl)))) pss_nil) d6),?_⟩
  intro H4 D zs s4 hD4 hzs
  refine⟨_,rfl,rfl,_,rfl,ite2 (fun _=>⟨_,rfl,D,_,rfl,.inl (SqL.of hD4),_,_,rfl,rfl,_,rfl,ite2 (fun c1=>?_) (fun _=>k6 H4 D zs s4 hD4 hzs)⟩) (fun _=>iteF (k6 H4 D zs s4 hD4 hzs))⟩
  cases zs with
  |nil=>exact absurd c1 (by decide)
  |cons z zs' =>
   obtain⟨r,h1,h2,h3⟩:=hzs z (List.mem_cons_self ..)
   refine⟨_,rfl,D,_,_,.str z,rfl,rfl,SqL.of hD4,atI_nat (j:=0) rfl,(by show 2≤sizeLine;decide),fun p1 g1=>?_⟩
   have e1:=same_new g1 (.tup [.str "open",.str z])
   refine⟨(by show 2≤sizeLine;decide),fun p2 g2=>?_⟩
   have e2:=same_new g2 (.tup [.int 0,.ref p1])
   exact q _ p2 _ 0 (.opn z) (s4.trans (e1.trans e2)) upd_same ⟨p1,rfl,SqT.of (e2 _ _ upd_same)⟩ (.opn h1 h2 h3)
 obtain⟨t4,d4,k4⟩:∃t,PSs (cxOf CX0 P w K mg base wrN "_law_wrong" (defScope sWrong) f cdv A outer s H E).nox (List.drop 4 (defBody sWrong)) t∧∀(H4:Hp) (D:Addr) (zs:List Str),Same H H4→H4 D=some (.lst (zs.map V.str))→(∀z∈zs,∃r,(z,r)∈kr∧z∈S.ops∧0 < r.1.length+r.2.length)→t { nx:=fun _ H'=>Q .non H',rt:=Q } [some (.int c),some (.ref wt),some (.ref kn),some (.ref B.g),some (.str wz),some (.str fz),some (.str pz),some (.int (c%8)),some (.ref D),none] H4:=by
  refine⟨_,(@pss_cons _ _ _ _ _ (ps_if (PW.pt (pw_and (pt_cmpR op_eq (pv 7) pe_int (nomark _)) (pw_and1 (pt_cmpR op_gt (pe_callB call_len_seq rfl ml PySem.boot_len (@pa_cons _ _ _ _ _ (pe_dget hu (pv 3) pe_str (fun _ _=>rfl)) pa_nil rfl)) pe_int (nomark _))))) (@pss_cons _ _ _ _ _ (ps_set (i:=9) scWrong.nd rfl (Or.inl rfl) (pe_ix ix_tup (pe_ix ix_list (pe_dget hu (pv 3) pe_str (fun _ _=>rfl)) (pe_op op_mod (pe_op op_fdiv (pv 0) pe_int) (pe_callB call_len_seq rfl ml PySem.boot_len (@pa_cons _ _ _ _ _ (pe_dget hu (pv 3) pe_str (fun _ _=>rfl)) pa_nil rfl))) (fun _ _=>rfl)) pe_int (fun _ _=>rfl))) (@pss_one _ _ _ (@ps_ret _ _ _ _ (@pe_tup _ _ _ _ _ (@pa_cons _ _ _ _ _ pe_int (@pa_cons _ _ _ _ _ (@pe_tup _ _ _ _ _ (@pa_cons _ _ _ _ _ pe_str (@pa_cons _ _ _ _ _ (pv 9) (@pa_cons _ _ _ _ _ (@pe_tup _ _ _ _ _ pa_nil) (@pa_cons _ _ _ _ _ (@pe_tup _ _ _ _ _ (@pa_cons _ _ _ _ _ pe_str (@pa_cons _ _ _ _ _ pe_int pa_nil rfl) rfl)) (@pa_cons _ _ _ _ _ (@pe_tup _ _ _ _ _ (@pa_cons _ _ _ _ _ pe_str (@pa_cons _ _ _ _ _ pe_int (@pa_cons _ _ _ _ _ pe_int pa_nil rfl) rfl) rfl)) pa_nil rfl) rfl) rfl) rfl) rfl)) pa_nil rfl) rfl))))) pss_nil) d5),?_⟩
  intro H4 D zs s4 hD4 hzs
  have F4:=FG.same s4
  refine⟨_,rfl,rfl,_,rfl,ite2 (fun _=>⟨_,rfl,B.g,.ref B.fl,rfl,F4.vf▸DGet.k (k:=.inr "funs") F4.hg,B.fl,_,rfl,.inl (SqL.of F4.hf),_,_,rfl,rfl,_,rfl,ite2 (fun c1=>?_) (fun _=>k5 H4 D zs s4 hD4 hzs)⟩) (fun _=>iteF (k5 H4 D zs s4 hD4 hzs))⟩
  have c1':((fx.length:Nat):Int) > 0:=of_decide_eq_true c1
  obtain⟨v,hv⟩:=at_ex (xs:=fx) (i:=c / 8%((fx.length:Nat):Int)) (Int.emod_nonneg _ (by omega)) (Int.emod_lt_of_pos _ c1')
  obtain⟨j,_,hj⟩:=Option.bind_eq_some_iff.mp (show((ixN fx.length (c / 8%((fx.length:Nat):Int))).bind fun j=>fx[j]?)=some v from hv)
  obtain⟨⟨z,kk⟩,hq,p,y,rfl,hp,hy⟩:=pair_get F4.pf hj
  replace hp:H4 p=some (.tup [.str z,y]):=hp
  have hz:z∈S.funs.map (·.1):=List.mem_map.mpr ⟨_,List.mem_of_getElem? hq,rfl⟩
  refine⟨_,rfl,B.g,.ref B.fl,rfl,F4.vf▸DGet.k (k:=.inr "funs") F4.hg,_,rfl,_,_,rfl,rfl,⟨by decide,by decide⟩,_,rfl,B.g,.ref B.fl,rfl,F4.vf▸DGet.k (k:=.inr "funs") F4.hg,B.fl,_,rfl,.inl (SqL.of F4.hf),_,_,rfl,rfl,c1',B.fl,_,_,_,rfl,rfl,SqL.of F4.hf,hv,p,_,_,_,rfl,rfl,SqT.of hp,(show atI [V.str z,y] 0=some (.str z) from rfl),?_⟩
  refine⟨_,rfl,(by show 0≤sizeLine;decide),fun p1 h1=>?_⟩
  have e1:=same_new h1 (.tup [])
  refine⟨(by show 2≤sizeLine;decide),fun p2 h2=>?_⟩
  have e2:=same_new h2 (.tup [.str "num",.int 2])
  refine⟨(by show 3≤sizeLine;decide),fun p3 h3=>?_⟩
  have e3:=same_new h3 (.tup [.str "lit",.int 0,.int 2])
  refine⟨(by show 5≤sizeLine;decide),fun p4 h4=>?_⟩
  have e4:=same_new h4 (.tup [.str "fun",.str z,.ref p1,.ref p2,.ref p3])
  refine⟨(by show 2≤sizeLine;decide),fun p5 h5=>?_⟩
  have e5:=same_new h5 (.tup [.int 0,.ref p4])
  have e35:=e3.trans (e4.trans e5)
  exact q _ p5 _ 0 (.fn z [] (.num 2)) (s4.trans (e1.trans (e2.trans e35))) upd_same ⟨p4,p1,.ref p2,.ref p3,[],rfl,SqT.of (e5 _ _ upd_same),SqT.of ((e2.trans e35) _ _ upd_same),.nil,.num (SqT.of (e35 _ _ upd_same))⟩ (.fn hz)
 obtain⟨t3,d3,k3⟩:∃t,PSs (cxOf CX0 P w K mg base wrN "_law_wrong" (defScope sWrong) f cdv A outer s H E).nox (List.drop 3 (defBody sWrong)) t∧∀(H4:Hp) (D:Addr) (zs:List Str),Same H H4→H4 D=some (.lst (zs.map V.str))→(∀z∈zs,∃r,(z,r)∈kr∧z∈S.ops∧0 < r.1.length+r.2.length)→t { nx:=fun _ H'=>Q .non H',rt:=Q } [some (.int c),some (.ref wt),some (.ref kn),some (.ref B.g),some (.str wz),some (.str fz),some (.str pz),some (.int (c%8)),some (.ref D),none] H4:=by
  refine⟨_,(@pss_cons _ _ _ _ _ (ps_if (PW.pt (pw_and (pt_cmpR op_eq (pv 7) pe_int (nomark _)) (pw_and1 (pt_cmpR op_gt (pe_callB call_len_seq rfl ml PySem.boot_len (@pa_cons _ _ _ _ _ (pe_dget hu (pv 3) pe_str (fun _ _=>rfl)) pa_nil rfl)) pe_int (nomark _))))) (@pss_cons _ _ _ _ _ (ps_set (i:=9) scWrong.nd rfl (Or.inl rfl) (pe_ix ix_tup (pe_ix ix_list (pe_dget hu (pv 3) pe_str (fun _ _=>rfl)) (pe_op op_mod (pe_op op_fdiv (pv 0) pe_int) (pe_callB call_len_seq rfl ml PySem.boot_len (@pa_cons _ _ _ _ _ (pe_dget hu (pv 3) pe_str (fun _ _=>rfl)) pa_nil rfl))) (fun _ _=>rfl)) pe_int (fun _ _=>rfl))) (@pss_one _ _ _ (@ps_ret _ _ _ _ (@pe_tup _ _ _ _ _ (@pa_cons _ _ _ _ _ pe_int (@pa_cons _ _ _ _ _ (@pe_tup _ _ _ _ _ (@pa_cons _ _ _ _ _ pe_str (@pa_cons _ _ _ _ _ (pv 9) (@pa_cons _ _ _ _ _ (@pe_tup _ _ _ _ _ (@pa_cons _ _ _ _ _ pe_str (@pa_cons _ _ _ _ _ (pe_op op_add pe_int (pe_op op_mod (pe_op op_fdiv (pv 0) pe_int) pe_int)) pa_nil rfl) rfl)) pa_nil rfl) rfl) rfl)) pa_nil rfl) rfl))))) pss_nil) d4),?_⟩
  intro H4 D zs s4 hD4 hzs
  have F4:=FG.same s4
  refine⟨_,rfl,rfl,_,rfl,ite2 (fun _=>⟨_,rfl,B.g,.ref B.ol,rfl,F4.vo▸DGet.k (k:=.inr "own") F4.hg,B.ol,_,rfl,.inl (SqL.of F4.ho),_,_,rfl,rfl,_,rfl,ite2 (fun c1=>?_) (fun _=>k4 H4 D zs s4 hD4 hzs)⟩) (fun _=>iteF (k4 H4 D zs s4 hD4 hzs))⟩
  have c1':((ox.length:Nat):Int) > 0:=of_decide_eq_true c1
  obtain⟨v,hv⟩:=at_ex (xs:=ox) (i:=c / 8%((ox.length:Nat):Int)) (Int.emod_nonneg _ (by omega)) (Int.emod_lt_of_pos _ c1')
  obtain⟨j,_,hj⟩:=Option.bind_eq_some_iff.mp (show((ixN ox.length (c / 8%((ox.length:Nat):Int))).bind fun j=>ox[j]?)=some v from hv)
  obtain⟨⟨z,kk⟩,hq,p,y,rfl,hp,hy⟩:=pair_get F4.po hj
  replace hp:H4 p=some (.tup [.str z,y]):=hp
  have hz:z∈S.own.map (·.1):=List.mem_map.mpr ⟨_,List.mem_of_getElem? hq,rfl⟩
  refine⟨_,rfl,B.g,.ref B.ol,rfl,F4.vo▸DGet.k (k:=.inr "own") F4.hg,_,rfl,_,_,rfl,rfl,⟨by decide,by decide⟩,_,rfl,B.g,.ref B.ol,rfl,F4.vo▸DGet.k (k:=.inr "own") F4.hg,B.ol,_,rfl,.inl (SqL.of F4.ho),_,_,rfl,rfl,c1',B.ol,_,_,_,rfl,rfl,SqL.of F4.ho,hv,p,_,_,_,rfl,rfl,SqT.of hp,(show atI [V.str z,y] 0=some (.str z) from rfl),?_⟩
  refine⟨_,rfl,_,rfl,_,_,rfl,rfl,⟨by decide,by decide⟩,_,_,rfl,rfl,(by show(0:Int) < 9;decide),_,_,rfl,rfl,(by show 2≤sizeLine;decide),fun p2 h2=>?_⟩
  have e2:=same_new h2 (.tup [.str "num",.int (1+c / 8%9)])
  refine⟨(by show 3≤sizeLine;decide),fun p4 h4=>?_⟩
  have e4:=same_new h4 (.tup [.str "kind",.str z,.ref p2])
  refine⟨(by show 2≤sizeLine;decide),fun p5 h5=>?_⟩
  have e5:=same_new h5 (.tup [.int 0,.ref p4])
  exact q _ p5 _ 0 (.kind z (.num (1+c / 8%9))) (s4.trans (e2.trans (e4.trans e5))) upd_same ⟨p4,.ref p2,rfl,SqT.of (e5 _ _ upd_same),.num (SqT.of ((e4.trans e5) _ _ upd_same))⟩ (.own hz)
 refine⟨_,(@pss_cons _ _ _ _ _ (ps_asg (pv 1) (pg_tup rfl (pgs_cons (pg_name (i:=4) scWrong.nd rfl (Or.inl rfl)) (pgs_cons (pg_name (i:=5) scWrong.nd rfl (Or.inl rfl)) (pgs_cons (pg_name (i:=6) scWrong.nd rfl (Or.inl rfl)) pgs_nil))))) (@pss_cons _ _ _ _ _ (ps_set (i:=7) scWrong.nd rfl (Or.inl rfl) (pe_op op_mod (pv 0) pe_int)) (@pss_cons _ _ _ _ _ (ps_comp_if (i0:=8) (own:=["_law_row"]) (caps:=["_law_got"]) (κ:=[3]) scWrong.nd rfl (Or.inl rfl) rfl ⟨rfl,by decide +kernel,by decide +kernel,rfl,rfl,one_of rfl,one_of ⟨.inl rfl,rfl,.inl rfl⟩⟩ rfl (pi_list (pv 2)) (fun _ _ _ _=>pg_name (i:=0) (show(["_law_row","_law_got"]:List Str).Nodup from by decide +kernel) rfl (Or.inl rfl)) (fun _ _ _ _=>PW.pt (pw_and (pt_cmpR (r:=rIn K false) op_in_seq (pe_ix (r:=rIxT K) ix_tup (pv 0) pe_int (fun _ _=>rfl)) (pe_dget hu (pv 1) pe_str (fun _ _=>rfl)) (by with_unfolding_all rfl)) (pw_and1 (pt_cmpR op_gt (pe_op op_add (pe_callB (call_lenK (K:=K) rfl) rfl ml PySem.boot_len (@pa_cons _ _ _ _ _ (pe_ix (r:=rIxT K) ix_tup (pv 0) pe_int (fun _ _=>rfl)) pa_nil rfl)) (pe_callB (call_lenK (K:=K) rfl) rfl ml PySem.boot_len (@pa_cons _ _ _ _ _ (pe_ix (r:=rIxT K) ix_tup (pv 0) pe_int (fun _ _=>rfl)) pa_nil rfl))) pe_int (nomark _))))) (fun _ _ _ _=>(pe_ix (r:=rIxT K) ix_tup (pv 0) pe_int (fun _ _=>rfl)))) d3))),?_⟩
 refine⟨_,rfl,wt,_,rfl,hwt,rfl,_,_,rfl,_,_,rfl,_,_,rfl,rfl,?_⟩
 refine⟨_,rfl,_,_,rfl,rfl,(by show(0:Int) < 8;decide),?_⟩
 refine⟨_,rfl,kn,rfl,⟨_,SqL.of hkn⟩,?_⟩
 refine comp_l (SqL.of hkn) (by omega) (fun i ys H3=>ys.length≤i∧∃zs:List Str,ys=zs.map V.str∧∀z∈zs,∃r,(z,r)∈kr∧z∈S.ops∧0 < r.1.length+r.2.length) ⟨Nat.le_refl _,[],rfl,fun z hz=>nomatch hz⟩ (fun _ _ _ h=>h.1) ?_ ?_
 ·rintro i x ys H3 Nx hNx hx s3 ⟨hyl,zs,rfl,hzs⟩
  obtain⟨⟨p,r⟩,hq,t,l1,l2,rfl,ht,hl1,hl2⟩:=pair_get hts hx
  replace ht:H t=some (.tup [.str p,.ref l1,.ref l2]):=ht
  obtain⟨x1,e1,f1⟩:RkAt K H l1 r.1:=hl1
  obtain⟨x2,e2,f2⟩:RfAt K H l2 r.2:=hl2
  have F3:=FG.same s3
  refine⟨rfl,_,rfl,t,_,_,_,rfl,rfl,SqT.of (s3 _ _ ht),(show atI [V.str p,.ref l1,.ref l2] 0=some (.str p) from rfl),_,rfl,B.g,.ref B.pl,rfl,F3.vp▸DGet.k (k:=.inr "opened") F3.hg,B.pl,_,rfl,.inl (SqL.of F3.hp),rfl,flat_strs _,_,rfl,ite2 (fun c1=>?_) (fun _=>iteF (hNx _ _ s3 ⟨by omega,zs,rfl,hzs⟩))⟩
  refine⟨_,rfl,t,_,_,_,rfl,rfl,SqT.of (s3 _ _ ht),(show atI [V.str p,.ref l1,.ref l2] 1=some (.ref l1) from rfl),l1,_,rfl,.inl (SqL.of (s3 _ _ e1)),_,rfl,t,_,_,_,rfl,rfl,SqT.of (s3 _ _ ht),(show atI [V.str p,.ref l1,.ref l2] 2=some (.ref l2) from rfl),l2,_,rfl,.inl (SqL.of (s3 _ _ e2)),_,_,rfl,rfl,_,_,rfl,rfl,_,rfl,ite2 (fun c2=>?_) (fun _=>hNx _ _ s3 ⟨by omega,zs,rfl,hzs⟩)⟩
  refine⟨_,rfl,t,_,_,_,rfl,rfl,SqT.of (s3 _ _ ht),(show atI [V.str p,.ref l1,.ref l2] 0=some (.str p) from rfl),hNx _ _ s3 ⟨by rw [List.length_append];show(zs.map V.str).length+1≤i+1;omega,zs++[p],by rw [List.map_append];rfl,fun z hz=>?_⟩⟩
  rcases List.mem_append.mp hz with h|h
  ·exact hzs z h
  ·rw [List.mem_singleton.mp h]
   have g1:=Paired.length f1
   have g2:=Paired.length f2
   have c2':(x1.length:Int)+(x2.length:Int) > 0:=of_decide_eq_true c2
   exact⟨r,List.mem_of_getElem? hq,inV_str.mp c1,by omega⟩
 rintro ys H3 D s3 ⟨hyl,zs,rfl,hzs⟩ hD
 have t3:=same_new hD (.lst (zs.map V.str))
 have s4:=s3.trans t3
 have hD4:upd H3 D (.lst (zs.map V.str)) D=some (.lst (zs.map V.str)):=upd_same
 revert s4 hD4
 generalize upd H3 D (.lst (zs.map V.str))=H4
 intro s4 hD4
 clear t3 hD
 exact k3 H4 D zs s4 hD4 hzs
end
end K41
namespace K41
open PySem L2 Kk
theorem GotA.putD{K:PySem.W.Frag}{H:Hp}{A:GA}{gkv:List (Key × V)}{S:LS}{N:Nat}{ix ox fx:List V}{dkv:List (List Key × V)}(F:GotA K H A gkv S N ix ox fx dkv){k:Str}(v:V) (h1:k≠"items") (h2:k≠"own") (h3:k≠"funs") (h4:k≠"given") (h5:k≠"opened") :
  GotA K (upd H A.g (.dK (putK gkv (.inr k) v))) A (putK gkv (.inr k) v) S N ix ox fx dkv:=by
 have kp:∀{a xs},SqT K H a xs→SqT K (upd H A.g (.dK (putK gkv (.inr k) v))) a xs:=fun t=>sqt_dk F.hg t
 have ht:∀{a zz},H a=some (.tup zz)→upd H A.g (.dK (putK gkv (.inr k) v)) a=some (.tup zz):=fun {a zz} t=>by
  rw [upd_ne (fun e=>by rw [e,F.hg] at t;cases t)]
  exact t
 have hv:∀{z:Str},k≠z→valV (putK gkv (.inr k) v) (.inr z)=valV gkv (.inr z):=fun {z} hz=>by
  rw [valV_put]
  exact if_neg (fun e=>hz (by injection e with e;exact e.symm))
 exact⟨upd_same,(hv h1).trans F.vi,(hv h2).trans F.vo,(hv h3).trans F.vf,(hv h4).trans F.vd,(hv h5).trans F.vp,by rw [upd_ne (Ne.symm (ne_dl F.hg F.hi))];exact F.hi,by rw [upd_ne (Ne.symm (ne_dl F.hg F.ho))];exact F.ho,by rw [upd_ne (Ne.symm (ne_dl F.hg F.hf))];exact F.hf,by rw [upd_ne (Ne.symm (ne_dt F.hg F.hd))];exact F.hd,by rw [upd_ne (Ne.symm (ne_dl F.hg F.hp))];exact F.hp,
  Paired.mapP F.pi fun _ _ t=>t.keep fun _ _=>kp,Paired.mapP F.po fun _ _ ⟨p,y,e1,e2,e3⟩=>⟨p,y,e1,ht e2,kd_keep (fun _ _=>kp) e3⟩,Paired.mapP F.pf fun _ _ ⟨p,y,e1,e2,e3⟩=>⟨p,y,e1,ht e2,e3.keep fun _ _=>kp⟩,F.gv.keepT fun _ _=>kp,F.gk,F.dl,F.n1,F.n2,F.n3,F.n4,F.n5,F.n6⟩
def InA(A:GA)(b:Addr):Prop:=b=A.g∨b=A.il∨b=A.ol∨b=A.fl∨b=A.gd∨b=A.pl
instance (A:GA) (b:Addr):Decidable (InA A b):=by unfold InA;infer_instance
def off(H:Hp)(A:GA):Hp:=fun b=>if InA A b then none else H b
section
variable{K:PySem.W.Frag}{H H' H0:Hp}{A:GA}{gkv:List (Key × V)}{S:LS}{N:Nat}{ix ox fx:List V}{dkv:List (List Key × V)}{b p:Addr}{o:HO}
theorem off_out(h:¬InA A b):off H A b=H b:=if_neg h
theorem off_in(h:InA A b):off H A b=none:=if_pos h
theorem off_le:Same (off H A) H:=fun b u h=>by
 by_cases c:InA A b
 ·rw [off_in c] at h
  cases h
 ·rw [off_out c] at h
  exact h
theorem off_fr:Fr (off H A) A:=⟨off_in (.inl rfl),off_in (.inr (.inl rfl)),off_in (.inr (.inr (.inl rfl))),off_in (.inr (.inr (.inr (.inl rfl)))),off_in (.inr (.inr (.inr (.inr (.inl rfl))))),off_in (.inr (.inr (.inr (.inr (.inr rfl)))))⟩
theorem Fr.out(f:Fr H0 A){u:HO}(h:H0 b=some u):¬InA A b:=fun c=>by
 have:H0 b=none:=by
  rcases c with e|e|e|e|e|e
  ·rw [e];exact f.g
  ·rw [e];exact f.il
  ·rw [e];exact f.ol
  ·rw [e];exact f.fl
  ·rw [e];exact f.gd
  ·rw [e];exact f.pl
 rw [h] at this
 cases this
theorem off_from(e:Same H0 H)(f:Fr H0 A):Same H0 (off H A):=fun b u hb=>by
 rw [off_out (f.out hb)]
 exact e _ _ hb
theorem off_mono(e:Same H H'):Same (off H A) (off H' A):=off_from (off_le.trans e) off_fr
theorem off_upd(h:InA A b):off (upd H b o) A=off H A:=funext fun c=>by
 by_cases hc:InA A c
 ·rw [off_in hc,off_in hc]
 ·rw [off_out hc,off_out hc,upd_ne (fun e=>hc (by rw [e];exact h))]
theorem GotA.notIn(F:GotA K H A gkv S N ix ox fx dkv)(h:H p=none):¬InA A p:=fun c=>by
 rcases c with e|e|e|e|e|e
 ·rw [e,F.hg] at h;cases h
 ·rw [e,F.hi] at h;cases h
 ·rw [e,F.ho] at h;cases h
 ·rw [e,F.hf] at h;cases h
 ·rw [e,F.hd] at h;cases h
 ·rw [e,F.hp] at h;cases h
theorem GotA.notT(F:GotA K H A gkv S N ix ox fx dkv){zz:List V}(h:H p=some (.tup zz)):¬InA A p:=fun c=>by
 rcases c with e|e|e|e|e|e
 ·rw [e,F.hg] at h;cases h
 ·rw [e,F.hi] at h;cases h
 ·rw [e,F.ho] at h;cases h
 ·rw [e,F.hf] at h;cases h
 ·rw [e,F.hd] at h;cases h
 ·rw [e,F.hp] at h;cases h
theorem GotA.offT(F:GotA K H A gkv S N ix ox fx dkv){a:Addr}{xs:List V}(t:SqT K H a xs):SqT K (off H A) a xs:=by
 rcases t with (t|⟨o',t⟩)|t
 ·exact .inl (.inl (by rw [off_out (F.notT t)];exact t))
 ·refine .inl (.inr ⟨o',?_⟩)
  rw [off_out (fun c=>?_)]
  ·exact t
  ·rcases c with e|e|e|e|e|e
   ·rw [e,F.hg] at t;cases t
   ·rw [e,F.hi] at t;cases t
   ·rw [e,F.ho] at t;cases t
   ·rw [e,F.hf] at t;cases t
   ·rw [e,F.hd] at t;cases t
   ·rw [e,F.hp] at t;cases t
 ·exact .inr t
end
structure Gk(gkv gkv':List (Key × V))(ml:Addr):Prop where
 ot:∀k:Str,k≠"more"→valV gkv' (.inr k)=valV gkv (.inr k)
 mo:valV gkv' (.inr "more")=some (.ref ml)
 le:gkv'.length≤gkv.length+2
theorem val_put{gkv:List (Key × V)}{k z:Str}{v:V}:valV (putK gkv (.inr k) v) (.inr z)=if k=z then some v else valV gkv (.inr z):=by
 rw [valV_put]
 by_cases e:k=z
 ·rw [if_pos e,if_pos (by rw [e])]
 ·rw [if_neg e,if_neg (fun h=>e (by injection h with h;exact h.symm))]
inductive Lt (kr:Parts) (S:LS) (wz fz pz:Str):Nat→List It→Parts→Prop
 |early1:Lt kr S wz fz pz 2 [.fn fz [("a",.name "" wz)] (.num 2),.kind wz (.num 3)] []
 |early2:Lt kr S wz fz pz 2 [.fn fz [("a",.num 2),("b",.pair (.name "" wz) (.num 3))] (.num 2),.kind wz (.num 3)] []
 |early3:Lt kr S wz fz pz 2 [.fn fz [] (.name "" wz),.kind wz (.num 3)] []
 |clash1 {old:Str}:old∈S.own.map (·.1)→Lt kr S wz fz pz 0 [.opn pz] [(pz,([(wz,.num 4),(old,.num 5)],[]))]
 |clash2 {old:Str}:old∈S.funs.map (·.1)→Lt kr S wz fz pz 0 [.opn pz] [(pz,([(wz,.num 4)],[(old,([],.num 5))]))]
 |wrong {d:Nat} {it:It}:Wr kr S wz fz pz d it→Lt kr S wz fz pz d [it] []
def LtR(K:PySem.W.Frag)(H0:Hp)(A:GA)(gkv:List (Key × V))(S:LS)(N:Nat)(kr:Parts)(wz fz pz:Str)(Q:VK):Prop :=
 ∀(H':Hp) (t sl:Addr) (us:List V) (gkv':List (Key × V)) (ml:Addr) (d:Nat) (its:List It) (more:Parts),Same H0 H'→GotAt K H' A gkv' S N→Gk gkv gkv' ml→H' t=some (.tup [.int (d:Int),.ref sl])→off H' A sl=some (.lst us)→Paired (ItAt K H') us its→KnAt K (off H' A) ml more→Lt kr S wz fz pz d its more→Q (.ref t) H'
def spClash(K:PySem.W.Frag):Sp:=fun vs H Q _=>∃(H0:Hp) (c:Int) (wz fz pz:Str) (kr:Parts) (A:GA) (gkv:List (Key × V)) (S:LS) (N:Nat),vs=[.int c,.str wz,.str pz,.ref A.g]∧Same H0 H∧Fr H0 A∧GotAt K H A gkv S N∧0 < S.own.length∧S.own.length≤200∧0 < S.funs.length∧S.funs.length≤200∧gkv.length≤50∧LtR K H0 A gkv S N kr wz fz pz Q
abbrev ccN:List Str:=["_law_cell_here","_law_word_here","_law_part","_law_got","_law_rows","_law_old"]
abbrev ccP:List Str:=["_law_cell_here","_law_word_here","_law_part","_law_got"]
section
variable{P:Program}{w:World}{K:PySem.W.Frag}{mg:Str→Option Value}{base:Heap}
theorem scClash:FnScope ccN ccP (defScope sClash):=⟨rfl,rfl,rfl,by decide +kernel,rfl,by decide +kernel,by decide +kernel⟩
set_option maxHeartbeats 0 in
theorem ok_clash{f:Addr}{fd:FuncData} (F:Fun K "_law_clash" "_law_clash" sClash f fd) (ml:mg "len"=none):FnOk P w K mg base CX0 1 f fd ccP (spClash K):=by
 refine F.ok scClash (fun vs H Q E h=>?_) (fun cdv A outer s H vs Q E hr h=>?_)
 ·obtain⟨H0,c,wz,fz,pz,kr,A,gkv,S,N,rfl,_⟩:=h
  rfl
 obtain⟨H0,c,wz,fz,pz,kr,B,gkv,S,N,rfl,s0,fr,⟨ix,ox,fx,dkv,FG⟩,o1,o2,f1,f2,hgl,q⟩:=h
 have hu:=hu_of hr
 have ol:=Paired.length FG.po
 have fl:=Paired.length FG.pf
 have big:∀{n:Nat},n≤999→n < sizeLine:=fun h=>Nat.lt_of_lt_of_le (Nat.lt_succ_self _) (small (by omega))
 obtain⟨t5,d5,k5⟩:∃t,PSs (cxOf CX0 P w K mg base ccN "_law_clash" (defScope sClash) f cdv A outer s H E).nox (List.drop 4 (defBody sClash)) t ∧
   ∀(H4:Hp) (y4 y5:Option V) (gkv':List (Key × V)) (ma:Addr) (more:Parts),Same H0 H4→GotAt K H4 B gkv' S N→Gk gkv gkv' ma→KnAt K (off H4 B) ma more→Lt kr S wz fz pz 0 [.opn pz] more→t { nx:=fun _ H'=>Q .non H',rt:=Q } [some (.int c),some (.str wz),some (.str pz),some (.ref B.g),y4,y5] H4:=by
  refine⟨_,@pss_one _ _ _ (@ps_ret _ _ _ _ (@pe_tup _ _ _ _ _ (@pa_cons _ _ _ _ _ pe_int (@pa_cons _ _ _ _ _ (pe_lst (@pa_cons _ _ _ _ _ (@pe_tup _ _ _ _ _ (@pa_cons _ _ _ _ _ pe_str (@pa_cons _ _ _ _ _ (pv 2) pa_nil rfl) rfl)) pa_nil rfl)) pa_nil rfl) rfl))),?_⟩
  intro H4 y4 y5 gkv' ma more s4 G4 gk km hlt
  refine⟨_,rfl,(by show 2≤sizeLine;decide),fun p1 h1=>?_⟩
  have e1:=same_new h1 (.tup [.str "open",.str pz])
  refine⟨(by show 1≤sizeLine;decide),fun p2 h2=>?_⟩
  have e2:=same_new h2 (.lst [.ref p1])
  refine⟨(by show 2≤sizeLine;decide),fun p3 h3=>?_⟩
  have e3:=same_new h3 (.tup [.int 0,.ref p2])
  have e13:=e1.trans (e2.trans e3)
  obtain⟨ix4,ox4,fx4,dk4,F4⟩:=G4
  exact q _ p3 p2 [.ref p1] gkv' ma 0 [.opn pz] more (s4.trans e13) ⟨_,_,_,_,F4.same e13⟩ gk upd_same (by rw [off_out ((F4.same e1).notIn h2)];exact e3 _ _ upd_same) (.cons ⟨p1,rfl,SqT.of ((e2.trans e3) _ _ upd_same)⟩ .nil) (km.same (off_mono e13)) hlt
 have two:c%2=0∨c%2=1:=by omega
 refine⟨_,@pss_cons _ _ _ _ _ (ps_set (i:=4) scClash.nd rfl (Or.inl rfl) (pe_ix ix_list (pe_lst (@pa_cons _ _ _ _ _ (pe_dget hu (pv 3) pe_str (fun _ _=>rfl)) (@pa_cons _ _ _ _ _ (pe_dget hu (pv 3) pe_str (fun _ _=>rfl)) pa_nil rfl) rfl)) (pe_op op_mod (pv 0) pe_int) (fun _ _=>rfl)))
  (@pss_cons _ _ _ _ _ (ps_set (i:=5) scClash.nd rfl (Or.inl rfl) (pe_ix ix_tup (pe_ix ix_list (pv 4) (pe_op op_mod (pe_op op_fdiv (pv 0) pe_int) (pe_callB call_len_seq rfl ml PySem.boot_len (@pa_cons _ _ _ _ _ (pv 4) pa_nil rfl))) (fun _ _=>rfl)) pe_int (fun _ _=>rfl)))
  (@pss_cons _ _ _ _ _ (ps_dput hu (pv 3) pe_str (pe_lst (@pa_cons _ _ _ _ _ (@pe_tup _ _ _ _ _ (@pa_cons _ _ _ _ _ (pv 2) (@pa_cons _ _ _ _ _ (pe_lst (@pa_cons _ _ _ _ _ (@pe_tup _ _ _ _ _ (@pa_cons _ _ _ _ _ (pv 1) (@pa_cons _ _ _ _ _ (@pe_tup _ _ _ _ _ (@pa_cons _ _ _ _ _ pe_str (@pa_cons _ _ _ _ _ pe_int pa_nil rfl) rfl)) pa_nil rfl) rfl)) (@pa_cons _ _ _ _ _ (@pe_tup _ _ _ _ _ (@pa_cons _ _ _ _ _ (pv 5) (@pa_cons _ _ _ _ _ (@pe_tup _ _ _ _ _ (@pa_cons _ _ _ _ _ pe_str (@pa_cons _ _ _ _ _ pe_int pa_nil rfl) rfl)) pa_nil rfl) rfl)) pa_nil rfl) rfl)) (@pa_cons _ _ _ _ _ (pe_lst pa_nil) pa_nil rfl) rfl) rfl)) pa_nil rfl)) rfl)
  (@pss_cons _ _ _ _ _ (ps_if (pt_cmpR op_eq (pe_op op_mod (pv 0) pe_int) pe_int (nomark _))
   (@pss_one _ _ _ (ps_dput hu (pv 3) pe_str (pe_lst (@pa_cons _ _ _ _ _ (@pe_tup _ _ _ _ _ (@pa_cons _ _ _ _ _ (pv 2) (@pa_cons _ _ _ _ _ (pe_lst (@pa_cons _ _ _ _ _ (@pe_tup _ _ _ _ _ (@pa_cons _ _ _ _ _ (pv 1) (@pa_cons _ _ _ _ _ (@pe_tup _ _ _ _ _ (@pa_cons _ _ _ _ _ pe_str (@pa_cons _ _ _ _ _ pe_int pa_nil rfl) rfl)) pa_nil rfl) rfl)) pa_nil rfl)) (@pa_cons _ _ _ _ _ (pe_lst (@pa_cons _ _ _ _ _ (@pe_tup _ _ _ _ _ (@pa_cons _ _ _ _ _ (pv 5) (@pa_cons _ _ _ _ _ (@pe_tup _ _ _ _ _ (@pa_cons _ _ _ _ _ (@pe_tup _ _ _ _ _ pa_nil) (@pa_cons _ _ _ _ _ (@pe_tup _ _ _ _ _ (@pa_cons _ _ _ _ _ pe_str (@pa_cons _ _ _ _ _ pe_int pa_nil rfl) rfl)) pa_nil rfl) rfl)) pa_nil rfl) rfl)) pa_nil rfl)) pa_nil rfl) rfl) rfl)) pa_nil rfl)) rfl)) pss_nil)
  d5))),?_⟩
 refine⟨_,rfl,B.g,.ref B.ol,rfl,FG.vo▸DGet.k (k:=.inr "own") FG.hg,_,rfl,B.g,.ref B.fl,rfl,FG.vf▸DGet.k (k:=.inr "funs") FG.hg,(by show 2≤sizeLine;decide),fun p1 h1=>?_⟩
 have e1:=same_new h1 (.lst [.ref B.ol,.ref B.fl])
 have F1:=FG.same e1
 obtain⟨ra,rx,z,hat,hra,hz,hrow,hpos,hlen⟩:∃(ra:Addr) (rx:List V) (z:Str),atI [V.ref B.ol,.ref B.fl] (c%2)=some (.ref ra)∧upd H p1 (.lst [.ref B.ol,.ref B.fl]) ra=some (.lst rx)∧(c%2=0→z∈S.own.map (·.1))∧(∃p y,atI rx (c / 2%((rx.length:Nat):Int))=some (.ref p)∧upd H p1 (.lst [.ref B.ol,.ref B.fl]) p=some (.tup [.str z,y]))∧0 < ((rx.length:Nat):Int)∧(c%2=1→z∈S.funs.map (·.1)):=by
  rcases two with e|e
  ·have p0:0 < ((ox.length:Nat):Int):=by omega
   obtain⟨v,hv⟩:=at_ex (xs:=ox) (i:=c / 2%((ox.length:Nat):Int)) (Int.emod_nonneg _ (by omega)) (Int.emod_lt_of_pos _ p0)
   obtain⟨j,_,hj⟩:=Option.bind_eq_some_iff.mp (show((ixN ox.length (c / 2%((ox.length:Nat):Int))).bind fun j=>ox[j]?)=some v from hv)
   obtain⟨⟨z,kk⟩,hq,p,y,rfl,hp,hy⟩:=pair_get F1.po hj
   exact⟨B.ol,ox,z,by rw [e];rfl,F1.ho,fun _=>List.mem_map.mpr ⟨_,List.mem_of_getElem? hq,rfl⟩,⟨p,y,hv,hp⟩,p0,fun e'=>by omega⟩
  ·have p0:0 < ((fx.length:Nat):Int):=by omega
   obtain⟨v,hv⟩:=at_ex (xs:=fx) (i:=c / 2%((fx.length:Nat):Int)) (Int.emod_nonneg _ (by omega)) (Int.emod_lt_of_pos _ p0)
   obtain⟨j,_,hj⟩:=Option.bind_eq_some_iff.mp (show((ixN fx.length (c / 2%((fx.length:Nat):Int))).bind fun j=>fx[j]?)=some v from hv)
   obtain⟨⟨z,kk⟩,hq,p,y,rfl,hp,hy⟩:=pair_get F1.pf hj
   exact⟨B.fl,fx,z,by rw [e];rfl,F1.hf,fun e'=>by omega,⟨p,y,hv,hp⟩,p0,fun _=>List.mem_map.mpr ⟨_,List.mem_of_getElem? hq,rfl⟩⟩
 obtain⟨p,y,hix,hp⟩:=hrow
 refine⟨_,rfl,_,_,rfl,rfl,(by show(0:Int) < 2;decide),p1,_,_,_,rfl,rfl,SqL.of upd_same,hat,?_⟩
 refine⟨_,rfl,_,rfl,_,_,rfl,rfl,⟨by decide,by decide⟩,_,rfl,ra,_,rfl,.inl (SqL.of hra),_,_,rfl,rfl,hpos,ra,_,_,_,rfl,rfl,SqL.of hra,hix,p,_,_,_,rfl,rfl,SqT.of hp,(show atI [V.str z,y] 0=some (.str z) from rfl),?_⟩
 have s1:=s0.trans e1
 revert F1 s1
 generalize upd H p1 (.lst [.ref B.ol,.ref B.fl])=H1
 intro F1 s1
 refine⟨_,rfl,_,rfl,(by show 2≤sizeLine;decide),fun a1 g1=>?_⟩
 have i1:=same_new g1 (.tup [.str "num",.int 4])
 refine⟨(by show 2≤sizeLine;decide),fun a2 g2=>?_⟩
 have i2:=same_new g2 (.tup [.str wz,.ref a1])
 refine⟨_,rfl,(by show 2≤sizeLine;decide),fun a3 g3=>?_⟩
 have i3:=same_new g3 (.tup [.str "num",.int 5])
 refine⟨(by show 2≤sizeLine;decide),fun a4 g4=>?_⟩
 have i4:=same_new g4 (.tup [.str z,.ref a3])
 refine⟨(by show 2≤sizeLine;decide),fun a5 g5=>?_⟩
 have i5:=same_new g5 (.lst [.ref a2,.ref a4])
 refine⟨(by show 0≤sizeLine;decide),fun a6 g6=>?_⟩
 have i6:=same_new g6 (.lst [])
 refine⟨(by show 3≤sizeLine;decide),fun a7 g7=>?_⟩
 have i7:=same_new g7 (.tup [.str pz,.ref a5,.ref a6])
 refine⟨(by show 1≤sizeLine;decide),fun a8 g8=>?_⟩
 have i8:=same_new g8 (.lst [.ref a7])
 have i78:=i7.trans i8
 have i68:=i6.trans i78
 have i58:=i5.trans i68
 have i48:=i4.trans i58
 have i38:=i3.trans i48
 have i28:=i2.trans i38
 have i18:=i1.trans i28
 have KN:∀{Hx:Hp},Same H1 Hx→True:=fun _=>trivial
 have F8:=F1.same i18
 have o5:=((((F1.same i1).same i2).same i3).same i4).notIn g5
 have o6:=(((((F1.same i1).same i2).same i3).same i4).same i5).notIn g6
 have o8:=(((((((F1.same i1).same i2).same i3).same i4).same i5).same i6).same i7).notIn g8
 have kn8:KnAt K (off (upd (upd (upd (upd (upd (upd (upd (upd H1 a1 (.tup [.str "num",.int 4])) a2 (.tup [.str wz,.ref a1])) a3 (.tup [.str "num",.int 5])) a4 (.tup [.str z,.ref a3])) a5 (.lst [.ref a2,.ref a4])) a6 (.lst [])) a7 (.tup [.str pz,.ref a5,.ref a6])) a8 (.lst [.ref a7])) B) a8 [(pz,([(wz,.num 4),(z,.num 5)],[]))] :=
  ⟨[.ref a7],by rw [off_out o8];exact upd_same,.cons ⟨a7,a5,a6,rfl,by rw [off_out (F8.notT (i8 _ _ upd_same))];exact i8 _ _ upd_same,⟨[.ref a2,.ref a4],by rw [off_out o5];exact i68 _ _ upd_same,.cons ⟨a2,.ref a1,rfl,by rw [off_out (F8.notT (i38 _ _ upd_same))];exact i38 _ _ upd_same,.num (F8.offT (SqT.of (i28 _ _ upd_same)))⟩ (.cons ⟨a4,.ref a3,rfl,by rw [off_out (F8.notT (i58 _ _ upd_same))];exact i58 _ _ upd_same,.num (F8.offT (SqT.of (i48 _ _ upd_same)))⟩ .nil)⟩,⟨[],by rw [off_out o6];exact i78 _ _ upd_same,.nil⟩⟩ .nil⟩
 have s8:=s1.trans i18
 have h8:H0 a8=none:=(s1.trans (i1.trans (i2.trans (i3.trans (i4.trans (i5.trans (i6.trans i7))))))).free g8
 revert F8 kn8 s8
 generalize upd (upd (upd (upd (upd (upd (upd (upd H1 a1 (.tup [.str "num",.int 4])) a2 (.tup [.str wz,.ref a1])) a3 (.tup [.str "num",.int 5])) a4 (.tup [.str z,.ref a3])) a5 (.lst [.ref a2,.ref a4])) a6 (.lst [])) a7 (.tup [.str pz,.ref a5,.ref a6])) a8 (.lst [.ref a7])=H8
 intro F8 kn8 s8
 refine⟨_,rfl,B.g,_,rfl,DPut.k (k:=.inr "more") F8.hg (big (by omega)),?_⟩
 have F9:=F8.putD (k:="more") (.ref a8) (by decide +kernel) (by decide +kernel) (by decide +kernel) (by decide +kernel) (by decide +kernel)
 have s9:Same H0 (upd H8 B.g (.dK (putK gkv (.inr "more") (.ref a8)))):=sput s8 fr.g
 have len9:=length_putK gkv (.inr "more") (V.ref a8)
 have kn9:KnAt K (off (upd H8 B.g (.dK (putK gkv (.inr "more") (.ref a8)))) B) a8 [(pz,([(wz,.num 4),(z,.num 5)],[]))]:=by
  rw [off_upd (.inl rfl)]
  exact kn8
 revert F9 s9 kn9
 generalize upd H8 B.g (.dK (putK gkv (.inr "more") (.ref a8)))=H9
 intro F9 s9 kn9
 refine⟨_,rfl,_,_,rfl,rfl,(by show(0:Int) < 2;decide),rfl,_,rfl,ite2 (fun cc=>?_) (fun cc=>?_)⟩
 ·have cc':c%2=1:=by
   have:=of_decide_eq_true cc
   injection this
  clear kn9 kn8
  refine⟨_,rfl,_,rfl,(by show 2≤sizeLine;decide),fun a1 g1=>?_⟩
  have i1:=same_new g1 (.tup [.str "num",.int 4])
  refine⟨(by show 2≤sizeLine;decide),fun a2 g2=>?_⟩
  have i2:=same_new g2 (.tup [.str wz,.ref a1])
  refine⟨(by show 1≤sizeLine;decide),fun a3 g3=>?_⟩
  have i3:=same_new g3 (.lst [.ref a2])
  refine⟨_,rfl,(by show 0≤sizeLine;decide),fun a4 g4=>?_⟩
  have i4:=same_new g4 (.tup [])
  refine⟨(by show 2≤sizeLine;decide),fun a5 g5=>?_⟩
  have i5:=same_new g5 (.tup [.str "num",.int 5])
  refine⟨(by show 2≤sizeLine;decide),fun a6 g6=>?_⟩
  have i6:=same_new g6 (.tup [.ref a4,.ref a5])
  refine⟨(by show 2≤sizeLine;decide),fun a7 g7=>?_⟩
  have i7:=same_new g7 (.tup [.str z,.ref a6])
  refine⟨(by show 1≤sizeLine;decide),fun b8 g8=>?_⟩
  have i8:=same_new g8 (.lst [.ref a7])
  refine⟨(by show 3≤sizeLine;decide),fun a9 g9=>?_⟩
  have i9:=same_new g9 (.tup [.str pz,.ref a3,.ref b8])
  refine⟨(by show 1≤sizeLine;decide),fun b1 g10=>?_⟩
  have i10:=same_new g10 (.lst [.ref a9])
  have j9:=i9.trans i10
  have j8:=i8.trans j9
  have j7:=i7.trans j8
  have j6:=i6.trans j7
  have j5:=i5.trans j6
  have j4:=i4.trans j5
  have j3:=i3.trans j4
  have j2:=i2.trans j3
  have j1:=i1.trans j2
  have F10:=F9.same j1
  have o3:=((F9.same i1).same i2).notIn g3
  have o8:=(((((((F9.same i1).same i2).same i3).same i4).same i5).same i6).same i7).notIn g8
  have o10:=(((((((((F9.same i1).same i2).same i3).same i4).same i5).same i6).same i7).same i8).same i9).notIn g10
  have kn10:KnAt K (off (upd (upd (upd (upd (upd (upd (upd (upd (upd (upd H9 a1 (.tup [.str "num",.int 4])) a2 (.tup [.str wz,.ref a1])) a3 (.lst [.ref a2])) a4 (.tup [])) a5 (.tup [.str "num",.int 5])) a6 (.tup [.ref a4,.ref a5])) a7 (.tup [.str z,.ref a6])) b8 (.lst [.ref a7])) a9 (.tup [.str pz,.ref a3,.ref b8])) b1 (.lst [.ref a9])) B) b1 [(pz,([(wz,.num 4)],[(z,([],.num 5))]))] :=
   ⟨[.ref a9],by rw [off_out o10];exact upd_same,.cons ⟨a9,a3,b8,rfl,by rw [off_out (F10.notT (i10 _ _ upd_same))];exact i10 _ _ upd_same,⟨[.ref a2],by rw [off_out o3];exact j4 _ _ upd_same,.cons ⟨a2,.ref a1,rfl,by rw [off_out (F10.notT (j3 _ _ upd_same))];exact j3 _ _ upd_same,.num (F10.offT (SqT.of (j2 _ _ upd_same)))⟩ .nil⟩,⟨[.ref a7],by rw [off_out o8];exact j9 _ _ upd_same,.cons ⟨a7,.ref a6,rfl,by rw [off_out (F10.notT (j8 _ _ upd_same))];exact j8 _ _ upd_same,a6,a4,.ref a5,[],rfl,F10.offT (SqT.of (j7 _ _ upd_same)),F10.offT (SqT.of (j5 _ _ upd_same)),.nil,.num (F10.offT (SqT.of (j6 _ _ upd_same)))⟩ .nil⟩⟩ .nil⟩
  have s10:=s9.trans j1
  revert F10 kn10 s10
  generalize upd (upd (upd (upd (upd (upd (upd (upd (upd (upd H9 a1 (.tup [.str "num",.int 4])) a2 (.tup [.str wz,.ref a1])) a3 (.lst [.ref a2])) a4 (.tup [])) a5 (.tup [.str "num",.int 5])) a6 (.tup [.ref a4,.ref a5])) a7 (.tup [.str z,.ref a6])) b8 (.lst [.ref a7])) a9 (.tup [.str pz,.ref a3,.ref b8])) b1 (.lst [.ref a9])=H10
  intro F10 kn10 s10
  have len10:=length_putK (putK gkv (.inr "more") (V.ref a8)) (.inr "more") (V.ref b1)
  refine⟨_,rfl,B.g,_,rfl,DPut.k (k:=.inr "more") F10.hg (big (by omega)),?_⟩
  refine k5 _ _ _ _ b1 _ (sput s10 fr.g) ⟨_,_,_,_,F10.putD (k:="more") (.ref b1) (by decide +kernel) (by decide +kernel) (by decide +kernel) (by decide +kernel) (by decide +kernel)⟩ ⟨fun k hk=>?_,?_,by omega⟩ ?_ (.clash2 (hlen cc'))
  ·rw [val_put,if_neg (Ne.symm hk),val_put,if_neg (Ne.symm hk)]
  ·rw [val_put,if_pos rfl]
  ·rw [off_upd (.inl rfl)]
   exact kn10
 ·have cc':c%2=0:=by
   rcases two with e|e
   ·exact e
   ·exact absurd (decide_eq_true (by show V.int (c%2)=V.int 1;rw [e])) cc
  refine k5 _ _ _ _ a8 _ s9 ⟨_,_,_,_,F9⟩ ⟨fun k hk=>?_,?_,by omega⟩ kn9 (.clash1 (hz cc'))
  ·rw [val_put,if_neg (Ne.symm hk)]
  ·rw [val_put,if_pos rfl]
end
end K41
namespace K41
open PySem L2 Kk
def spLate(K:PySem.W.Frag):Sp:=fun vs H Q _=>∃(H0:Hp) (c:Int) (wt:Addr) (wz fz pz:Str) (kn:Addr) (kr:Parts) (A:GA) (gkv:List (Key × V)) (S:LS) (N:Nat) (ml:Addr),vs=[.int c,.ref wt,.ref kn,.ref A.g]∧Same H0 H∧Fr H0 A∧SqT K H0 wt [.str wz,.str fz,.str pz]∧KnAt K H0 kn kr∧kr.length=2∧GotAt K H A gkv S N∧S.own.length≤200∧S.funs.length≤200∧gkv.length≤50∧valV gkv (.inr "more")=some (.ref ml)∧KnAt K H0 ml []∧LtR K H0 A gkv S N kr wz fz pz Q
abbrev ltN:List Str:=["_law_cell_here","_law_words","_law_known_here","_law_got","_law_word_here","_law_fun","_law_part","_law_own","_law_args","_law_kind_here","_law_due","_law_item"]
abbrev ltP:List Str:=["_law_cell_here","_law_words","_law_known_here","_law_got"]
section
variable{P:Program}{w:World}{K:PySem.W.Frag}{mg:Str→Option Value}{base:Heap}
theorem scLate:FnScope ltN ltP (defScope sLate):=⟨rfl,rfl,rfl,by decide +kernel,rfl,by decide +kernel,by decide +kernel⟩
set_option maxHeartbeats 0 in
theorem ok_late{f fw fc:Addr}{fd fdw fdc:FuncData} (F:Fun K "_law_late" "_law_late" sLate f fd)
  (GW:FnOk P w K mg base CX0 2 fw fdw wrP (spWrong K)) (bW:Binds K fdw wrP []) (kW:PySem.W.keepIn K (.ref fw)=true) (mW:mg "_law_wrong"=some (.ref fw))
  (GC:FnOk P w K mg base CX0 1 fc fdc ccP (spClash K)) (bC:Binds K fdc ccP []) (kC:PySem.W.keepIn K (.ref fc)=true) (mC:mg "_law_clash"=some (.ref fc))
  (ml':mg "len"=none):FnOk P w K mg base CX0 3 f fd ltP (spLate K):=by
 refine F.ok scLate (fun vs H Q E h=>?_) (fun cdv A outer s H vs Q E hr h=>?_)
 ·obtain⟨H0,c,wt,wz,fz,pz,kn,kr,A,gkv,S,N,ml,rfl,_⟩:=h
  rfl
 obtain⟨H0,c,wt,wz,fz,pz,kn,kr,B,gkv,S,N,ml,rfl,s0,fr,hwt,hkn,hk2,⟨ix,ox,fx,dkv,FG⟩,hO,hFn,hgl,hmo,hml,q⟩:=h
 have hu:=hu_of hr
 have hr1:Room 1 _:=hr.mono (by decide)
 have ol:=Paired.length FG.po
 have fl:=Paired.length FG.pf
 have gk0:Gk gkv gkv ml:=⟨fun _ _=>rfl,hmo,by omega⟩
 obtain⟨t3,d3,k3⟩:∃t,PSs (cxOf CX0 P w K mg base ltN "_law_late" (defScope sLate) f cdv A outer s H E).nox (List.drop 3 (defBody sLate)) t ∧
   t { nx:=fun _ H'=>Q .non H',rt:=Q } [some (.int c),some (.ref wt),some (.ref kn),some (.ref B.g),some (.str wz),some (.str fz),some (.str pz),none,none,none,none,none] H:=by
  refine⟨_,@pss_cons _ _ _ _ _ (ps_asg (pe_call GW hr rfl mW kW bW .nil pass0 (@pa_cons _ _ _ _ _ (pe_op op_fdiv (pv 0) pe_int) (@pa_cons _ _ _ _ _ (pv 1) (@pa_cons _ _ _ _ _ (pv 2) (@pa_cons _ _ _ _ _ (pv 3) pa_nil rfl) rfl) rfl) rfl)) (pg_tup rfl (pgs_cons (pg_name (i:=10) scLate.nd rfl (Or.inl rfl)) (pgs_cons (pg_name (i:=11) scLate.nd rfl (Or.inl rfl)) pgs_nil))))
   (@pss_one _ _ _ (@ps_ret _ _ _ _ (@pe_tup _ _ _ _ _ (@pa_cons _ _ _ _ _ (pv 10) (@pa_cons _ _ _ _ _ (pe_lst (@pa_cons _ _ _ _ _ (pv 11) pa_nil rfl)) pa_nil rfl) rfl)))),?_⟩
  refine⟨_,rfl,_,_,rfl,rfl,⟨by decide,by decide⟩,_,rfl,_,rfl,_,rfl,c / 10,wt,wz,fz,pz,kn,kr,B,gkv,S,N,rfl,s0.tup hwt,hkn.same s0,hk2,⟨_,_,_,_,FG⟩,hO,hFn,fun H1 t v d it s1 ht hit hw=>?_⟩
  refine⟨t,_,rfl,SqT.of ht,rfl,_,_,rfl,_,_,rfl,rfl,?_⟩
  refine⟨_,rfl,_,rfl,(by show 1≤sizeLine;decide),fun p2 h2=>?_⟩
  have e2:=same_new h2 (.lst [v])
  refine⟨(by show 2≤sizeLine;decide),fun p3 h3=>?_⟩
  have e3:=same_new h3 (.tup [.int (d:Int),.ref p2])
  have e23:=e2.trans e3
  have s3:=s1.trans e23
  exact q _ p3 p2 [v] gkv ml d [it] [] (s0.trans s3) ⟨_,_,_,_,FG.same s3⟩ gk0 upd_same (by rw [off_out ((FG.same s1).notIn h2)];exact e3 _ _ upd_same) (.cons (hit.same e23) .nil) (hml.same (off_from (s0.trans s3) fr)) (.wrong hw)
 refine⟨_,@pss_cons _ _ _ _ _ (ps_asg (pv 1) (pg_tup rfl (pgs_cons (pg_name (i:=4) scLate.nd rfl (Or.inl rfl)) (pgs_cons (pg_name (i:=5) scLate.nd rfl (Or.inl rfl)) (pgs_cons (pg_name (i:=6) scLate.nd rfl (Or.inl rfl)) pgs_nil)))))
  (@pss_cons _ _ _ _ _ (ps_if (pt_cmpR op_eq (pe_op op_mod (pv 0) pe_int) pe_int (nomark _))
   (@pss_cons _ _ _ _ _ (ps_set (i:=7) scLate.nd rfl (Or.inl rfl) (@pe_tup _ _ _ _ _ (@pa_cons _ _ _ _ _ pe_str (@pa_cons _ _ _ _ _ pe_str (@pa_cons _ _ _ _ _ (pv 4) pa_nil rfl) rfl) rfl)))
   (@pss_cons _ _ _ _ _ (ps_set (i:=8) scLate.nd rfl (Or.inl rfl) (pe_ix ix_list (pe_lst (@pa_cons _ _ _ _ _ (@pe_tup _ _ _ _ _ (@pa_cons _ _ _ _ _ (@pe_tup _ _ _ _ _ (@pa_cons _ _ _ _ _ pe_str (@pa_cons _ _ _ _ _ (pv 7) pa_nil rfl) rfl)) pa_nil rfl)) (@pa_cons _ _ _ _ _ (@pe_tup _ _ _ _ _ (@pa_cons _ _ _ _ _ (@pe_tup _ _ _ _ _ (@pa_cons _ _ _ _ _ pe_str (@pa_cons _ _ _ _ _ (@pe_tup _ _ _ _ _ (@pa_cons _ _ _ _ _ pe_str (@pa_cons _ _ _ _ _ pe_int pa_nil rfl) rfl)) pa_nil rfl) rfl)) (@pa_cons _ _ _ _ _ (@pe_tup _ _ _ _ _ (@pa_cons _ _ _ _ _ pe_str (@pa_cons _ _ _ _ _ (@pe_tup _ _ _ _ _ (@pa_cons _ _ _ _ _ pe_str (@pa_cons _ _ _ _ _ (pv 7) (@pa_cons _ _ _ _ _ (@pe_tup _ _ _ _ _ (@pa_cons _ _ _ _ _ pe_str (@pa_cons _ _ _ _ _ pe_int pa_nil rfl) rfl)) pa_nil rfl) rfl) rfl)) pa_nil rfl) rfl)) pa_nil rfl) rfl)) (@pa_cons _ _ _ _ _ (@pe_tup _ _ _ _ _ pa_nil) pa_nil rfl) rfl) rfl)) (pe_op op_mod (pe_op op_fdiv (pv 0) pe_int) pe_int) (fun _ _=>rfl)))
   (@pss_cons _ _ _ _ _ (ps_set (i:=9) scLate.nd rfl (Or.inl rfl) (pe_ix ix_list (pe_lst (@pa_cons _ _ _ _ _ (@pe_tup _ _ _ _ _ (@pa_cons _ _ _ _ _ pe_str (@pa_cons _ _ _ _ _ pe_int pa_nil rfl) rfl)) (@pa_cons _ _ _ _ _ (@pe_tup _ _ _ _ _ (@pa_cons _ _ _ _ _ pe_str (@pa_cons _ _ _ _ _ pe_int pa_nil rfl) rfl)) (@pa_cons _ _ _ _ _ (pv 7) pa_nil rfl) rfl) rfl)) (pe_op op_mod (pe_op op_fdiv (pv 0) pe_int) pe_int) (fun _ _=>rfl)))
   (@pss_one _ _ _ (@ps_ret _ _ _ _ (@pe_tup _ _ _ _ _ (@pa_cons _ _ _ _ _ pe_int (@pa_cons _ _ _ _ _ (pe_lst (@pa_cons _ _ _ _ _ (@pe_tup _ _ _ _ _ (@pa_cons _ _ _ _ _ pe_str (@pa_cons _ _ _ _ _ (pv 5) (@pa_cons _ _ _ _ _ (pv 8) (@pa_cons _ _ _ _ _ (pv 9) (@pa_cons _ _ _ _ _ (@pe_tup _ _ _ _ _ (@pa_cons _ _ _ _ _ pe_str (@pa_cons _ _ _ _ _ pe_int (@pa_cons _ _ _ _ _ pe_int pa_nil rfl) rfl) rfl)) pa_nil rfl) rfl) rfl) rfl) rfl)) (@pa_cons _ _ _ _ _ (@pe_tup _ _ _ _ _ (@pa_cons _ _ _ _ _ pe_str (@pa_cons _ _ _ _ _ (pv 4) (@pa_cons _ _ _ _ _ (@pe_tup _ _ _ _ _ (@pa_cons _ _ _ _ _ pe_str (@pa_cons _ _ _ _ _ pe_int pa_nil rfl) rfl)) pa_nil rfl) rfl) rfl)) pa_nil rfl) rfl)) pa_nil rfl) rfl))))))) pss_nil)
  (@pss_cons _ _ _ _ _ (ps_if (PW.pt (pw_and (pt_cmpR op_eq (pe_op op_mod (pv 0) pe_int) pe_int (nomark _)) (pw_and (pt_cmpR op_gt (pe_callB call_len_seq rfl ml' PySem.boot_len (@pa_cons _ _ _ _ _ (pe_dget hu (pv 3) pe_str (fun _ _=>rfl)) pa_nil rfl)) pe_int (nomark _)) (pw_and1 (pt_cmpR op_gt (pe_callB call_len_seq rfl ml' PySem.boot_len (@pa_cons _ _ _ _ _ (pe_dget hu (pv 3) pe_str (fun _ _=>rfl)) pa_nil rfl)) pe_int (nomark _))))))
   (@pss_one _ _ _ (@ps_ret _ _ _ _ (pe_call GC hr1 rfl mC kC bC .nil pass0 (@pa_cons _ _ _ _ _ (pe_op op_fdiv (pv 0) pe_int) (@pa_cons _ _ _ _ _ (pv 4) (@pa_cons _ _ _ _ _ (pv 6) (@pa_cons _ _ _ _ _ (pv 3) pa_nil rfl) rfl) rfl) rfl)))) pss_nil)
  d3)),?_⟩
 refine⟨_,rfl,wt,_,rfl,s0.tup hwt,rfl,_,_,rfl,_,_,rfl,_,_,rfl,rfl,?_⟩
 refine⟨_,rfl,_,_,rfl,rfl,(by show(0:Int) < 10;decide),rfl,_,rfl,ite2 (fun _=>?_) (fun _=>?_)⟩
 ·refine⟨_,rfl,(by show 3≤sizeLine;decide),fun p1 h1=>?_⟩
  have i1:=same_new h1 (.tup [.str "name",.str "",.str wz])
  refine⟨_,rfl,(by show 2≤sizeLine;decide),fun p2 h2=>?_⟩
  have i2:=same_new h2 (.tup [.str "a",.ref p1])
  refine⟨(by show 1≤sizeLine;decide),fun p3 h3=>?_⟩
  have i3:=same_new h3 (.tup [.ref p2])
  refine⟨(by show 2≤sizeLine;decide),fun p4 h4=>?_⟩
  have i4:=same_new h4 (.tup [.str "num",.int 2])
  refine⟨(by show 2≤sizeLine;decide),fun p5 h5=>?_⟩
  have i5:=same_new h5 (.tup [.str "a",.ref p4])
  refine⟨_,rfl,(by show 2≤sizeLine;decide),fun p6 h6=>?_⟩
  have i6:=same_new h6 (.tup [.str "num",.int 3])
  refine⟨(by show 3≤sizeLine;decide),fun p7 h7=>?_⟩
  have i7:=same_new h7 (.tup [.str "pair",.ref p1,.ref p6])
  refine⟨(by show 2≤sizeLine;decide),fun p8 h8=>?_⟩
  have i8:=same_new h8 (.tup [.str "b",.ref p7])
  refine⟨(by show 2≤sizeLine;decide),fun p9 h9=>?_⟩
  have i9:=same_new h9 (.tup [.ref p5,.ref p8])
  refine⟨(by show 0≤sizeLine;decide),fun pa ha=>?_⟩
  have ia:=same_new ha (.tup [])
  refine⟨(by show 3≤sizeLine;decide),fun pb hb=>?_⟩
  have ib:=same_new hb (.lst [.ref p3,.ref p9,.ref pa])
  have jb:=ia.trans ib
  have j9:=i9.trans jb
  have j8:=i8.trans j9
  have j7:=i7.trans j8
  have j6:=i6.trans j7
  have j5:=i5.trans j6
  have j4:=i4.trans j5
  have j3:=i3.trans j4
  have j2:=i2.trans j3
  have j1:=i1.trans j2
  have hn1:KdAt K _ (.ref p1) (.name "" wz):=.name (SqT.of (j2 _ _ upd_same))
  have ha1:∀{Hx:Hp} {a:Addr} {o:HO},upd Hx a o a=some o:=fun {Hx a o}=>upd_same
  generalize hB:upd (upd (upd (upd (upd (upd (upd (upd (upd (upd (upd H p1 (.tup [.str "name",.str "",.str wz])) p2 (.tup [.str "a",.ref p1])) p3 (.tup [.ref p2])) p4 (.tup [.str "num",.int 2])) p5 (.tup [.str "a",.ref p4])) p6 (.tup [.str "num",.int 3])) p7 (.tup [.str "pair",.ref p1,.ref p6])) p8 (.tup [.str "b",.ref p7])) p9 (.tup [.ref p5,.ref p8])) pa (.tup [])) pb (.lst [.ref p3,.ref p9,.ref pa])=HB at hn1 j1 ⊢
  have q2:HB p2=some (.tup [.str "a",.ref p1]):=by rw [←hB];exact j3 _ _ upd_same
  have q3:HB p3=some (.tup [.ref p2]):=by rw [←hB];exact j4 _ _ upd_same
  have q4:HB p4=some (.tup [.str "num",.int 2]):=by rw [←hB];exact j5 _ _ upd_same
  have q5:HB p5=some (.tup [.str "a",.ref p4]):=by rw [←hB];exact j6 _ _ upd_same
  have q6:HB p6=some (.tup [.str "num",.int 3]):=by rw [←hB];exact j7 _ _ upd_same
  have q7:HB p7=some (.tup [.str "pair",.ref p1,.ref p6]):=by rw [←hB];exact j8 _ _ upd_same
  have q8:HB p8=some (.tup [.str "b",.ref p7]):=by rw [←hB];exact j9 _ _ upd_same
  have q9:HB p9=some (.tup [.ref p5,.ref p8]):=by rw [←hB];exact jb _ _ upd_same
  have qa:HB pa=some (.tup []):=by rw [←hB];exact ib _ _ upd_same
  have qb:HB pb=some (.lst [.ref p3,.ref p9,.ref pa]):=by rw [←hB];exact upd_same
  have three:c / 10%3=0∨c / 10%3=1∨c / 10%3=2:=by omega
  obtain⟨ta,xs,ps,hat,hta,hps,hcase⟩:∃(ta:Addr) (xs:List V) (ps:List (Str × Kd)),atI [V.ref p3,.ref p9,.ref pa] (c / 10%3)=some (.ref ta)∧SqT K HB ta xs∧WithsAt K HB xs ps∧((c / 10%3=0∧ps=[(("a":Str),Kd.name "" wz)])∨(c / 10%3=1∧ps=[(("a":Str),Kd.num 2),(("b":Str),Kd.pair (Kd.name "" wz) (Kd.num 3))])∨(c / 10%3=2∧ps=[])):=by
   rcases three with e|e|e
   ·exact⟨p3,_,[("a",.name "" wz)],by rw [e];rfl,SqT.of q3,.cons ⟨p2,.ref p1,rfl,SqT.of q2,hn1⟩ .nil,.inl ⟨e,rfl⟩⟩
   ·exact⟨p9,_,[("a",.num 2),("b",.pair (.name "" wz) (.num 3))],by rw [e];rfl,SqT.of q9,.cons ⟨p5,.ref p4,rfl,SqT.of q5,.num (SqT.of q4)⟩ (.cons ⟨p8,.ref p7,rfl,SqT.of q8,.pair (SqT.of q7) hn1 (.num (SqT.of q6))⟩ .nil),.inr (.inl ⟨e,rfl⟩)⟩
   ·exact⟨pa,_,[],by rw [e];rfl,SqT.of qa,.nil,.inr (.inr ⟨e,rfl⟩)⟩
  refine⟨_,rfl,_,_,rfl,rfl,⟨by decide,by decide⟩,_,_,rfl,rfl,(by show(0:Int) < 3;decide),pb,_,_,_,rfl,rfl,SqL.of qb,hat,?_⟩
  refine⟨(by show 2≤sizeLine;decide),fun r1 g1=>?_⟩
  have l1:=same_new g1 (.tup [.str "num",.int 2])
  refine⟨(by show 2≤sizeLine;decide),fun r2 g2=>?_⟩
  have l2:=same_new g2 (.tup [.str "num",.int 2])
  refine⟨_,rfl,(by show 3≤sizeLine;decide),fun r3 g3=>?_⟩
  have l3:=same_new g3 (.lst [.ref r1,.ref r2,.ref p1])
  have l23:=l2.trans l3
  have l13:=l1.trans l23
  obtain⟨v,k,hv,hk,hkc⟩:∃(v:V) (k:Kd),atI [V.ref r1,.ref r2,.ref p1] (c / 10%3)=some v∧KdAt K (upd (upd (upd HB r1 (.tup [.str "num",.int 2])) r2 (.tup [.str "num",.int 2])) r3 (.lst [.ref r1,.ref r2,.ref p1])) v k∧((c / 10%3=2∧k=.name "" wz)∨(c / 10%3≠2∧k=.num 2)):=by
   rcases three with e|e|e
   ·exact⟨.ref r1,.num 2,by rw [e];rfl,.num (SqT.of (l23 _ _ upd_same)),.inr ⟨by omega,rfl⟩⟩
   ·exact⟨.ref r2,.num 2,by rw [e];rfl,.num (SqT.of (l3 _ _ upd_same)),.inr ⟨by omega,rfl⟩⟩
   ·exact⟨.ref p1,.name "" wz,by rw [e];rfl,hn1.same l13,.inl ⟨e,rfl⟩⟩
  refine⟨_,rfl,_,_,rfl,rfl,⟨by decide,by decide⟩,_,_,rfl,rfl,(by show(0:Int) < 3;decide),r3,_,_,_,rfl,rfl,SqL.of upd_same,hv,?_⟩
  have hta3:=l13.tup hta
  have hps3:WithsAt K (upd (upd (upd HB r1 (.tup [.str "num",.int 2])) r2 (.tup [.str "num",.int 2])) r3 (.lst [.ref r1,.ref r2,.ref p1])) xs ps:=Paired.mapP hps fun _ _ t=>t.same l13
  have j13:=j1.trans l13
  revert hk hta3 hps3 j13
  generalize upd (upd (upd HB r1 (.tup [.str "num",.int 2])) r2 (.tup [.str "num",.int 2])) r3 (.lst [.ref r1,.ref r2,.ref p1])=HC
  intro hk hta3 hps3 j13
  refine⟨_,rfl,_,rfl,_,rfl,(by show 3≤sizeLine;decide),fun u1 m1=>?_⟩
  have n1:=same_new m1 (.tup [.str "lit",.int 1,.int 2])
  refine⟨(by show 5≤sizeLine;decide),fun u2 m2=>?_⟩
  have n2:=same_new m2 (.tup [.str "fun",.str fz,.ref ta,v,.ref u1])
  refine⟨_,rfl,(by show 2≤sizeLine;decide),fun u3 m3=>?_⟩
  have n3:=same_new m3 (.tup [.str "num",.int 3])
  refine⟨(by show 3≤sizeLine;decide),fun u4 m4=>?_⟩
  have n4:=same_new m4 (.tup [.str "kind",.str wz,.ref u3])
  refine⟨(by show 2≤sizeLine;decide),fun u5 m5=>?_⟩
  have n5:=same_new m5 (.lst [.ref u2,.ref u4])
  refine⟨(by show 2≤sizeLine;decide),fun u6 m6=>?_⟩
  have n6:=same_new m6 (.tup [.int 2,.ref u5])
  have o5:=n5.trans n6
  have o4:=n4.trans o5
  have o3:=n3.trans o4
  have o2:=n2.trans o3
  have o1:=n1.trans o2
  have jA:=j13.trans o1
  refine q _ u6 u5 [.ref u2,.ref u4] gkv ml 2 [.fn fz ps k,.kind wz (.num 3)] [] (s0.trans jA) ⟨_,_,_,_,FG.same jA⟩ gk0 upd_same (by rw [off_out ((FG.same (j13.trans (n1.trans (n2.trans (n3.trans n4))))).notIn m5)];exact n6 _ _ upd_same) (.cons ⟨u2,ta,v,.ref u1,xs,rfl,SqT.of (o3 _ _ upd_same),o1.tup hta3,Paired.mapP hps3 fun _ _ t=>t.same o1,hk.same o1⟩ (.cons ⟨u4,.ref u3,rfl,SqT.of (o5 _ _ upd_same),.num (SqT.of (o4 _ _ upd_same))⟩ .nil)) (hml.same (off_from (s0.trans jA) fr)) ?_
  rcases hcase with ⟨e,rfl⟩|⟨e,rfl⟩|⟨e,rfl⟩
  ·rcases hkc with ⟨e',_⟩|⟨_,rfl⟩
   ·omega
   ·exact .early1
  ·rcases hkc with ⟨e',_⟩|⟨_,rfl⟩
   ·omega
   ·exact .early2
  ·rcases hkc with ⟨_,rfl⟩|⟨e',_⟩
   ·exact .early3
   ·omega
 ·refine⟨_,rfl,_,_,rfl,rfl,(by show(0:Int) < 10;decide),rfl,_,rfl,ite2 (fun _=>?_) (fun _=>iteF k3)⟩
  refine⟨_,rfl,B.g,.ref B.ol,rfl,FG.vo▸DGet.k (k:=.inr "own") FG.hg,B.ol,_,rfl,.inl (SqL.of FG.ho),_,_,rfl,rfl,_,rfl,ite2 (fun c1=>?_) (fun _=>iteF k3)⟩
  refine⟨_,rfl,B.g,.ref B.fl,rfl,FG.vf▸DGet.k (k:=.inr "funs") FG.hg,B.fl,_,rfl,.inl (SqL.of FG.hf),_,_,rfl,rfl,_,rfl,ite2 (fun c2=>?_) (fun _=>k3)⟩
  have c1':((ox.length:Nat):Int) > 0:=of_decide_eq_true c1
  have c2':((fx.length:Nat):Int) > 0:=of_decide_eq_true c2
  exact⟨_,rfl,_,_,rfl,rfl,⟨by decide,by decide⟩,_,rfl,_,rfl,_,rfl,H0,c / 10,wz,fz,pz,kr,B,gkv,S,N,rfl,s0,fr,⟨_,_,_,_,FG⟩,by omega,hO,by omega,hFn,hgl,q⟩
end
end K41
namespace K41
open PySem L2 Kk
theorem wL_ne{c:Int}{i j:Int}(h:i%26≠j%26):wordL c i≠wordL c j:=fun e=>h (wordL_inj e)
theorem wL_empty(c i:Int):wordL c i≠"":=fun e=>by
 have h1:=wpre_len c i (wsz c).toNat
 have h2:=wsz_bd c
 have h3:(wordL c i).length=(wsz c).toNat:=h1
 rw [e] at h3
 have h4:(Str.ofString "").length=0:=by decide +kernel
 rw [h4] at h3
 omega
structure KF(ns:List Int)(kr:Parts):Prop where
 ln:kr.length=2
 nd:(kr.map (·.1)).Nodup
 pw:∀q∈kr,q.1≠""∧okW q.1∧q.1≠wordL (cellOf ns 1) 5
 w1:∀q∈kr,∀z∈q.2.1.map (·.1),∀j:Nat,j < 15→z≠wordL (cellOf ns 4) (j:Int)
 w2:∀q∈kr,∀z∈q.2.2.map (·.1),∀j:Nat,j < 15→z≠wordL (cellOf ns 7) (j:Int)
 x1:∀q∈kr,∀q'∈kr,q.1≠q'.1→∀z∈q.2.1.map (·.1),z∉q'.2.1.map (·.1)
 x2:∀q∈kr,∀q'∈kr,q.1≠q'.1→∀z∈q.2.2.map (·.1),z∉q'.2.2.map (·.1)
 n1:∀q∈kr,(q.2.1.map (·.1)).Nodup
 n2:∀q∈kr,(q.2.2.map (·.1)).Nodup
 l1:∀q∈kr,q.2.1.length≤2
 l2:∀q∈kr,q.2.2.length≤2
 k1:∀q∈kr,∀r∈q.2.1,okW r.1∧Kd.ok r.2∧r.2.words≤5
 k2:∀q∈kr,∀r∈q.2.2,okW r.1∧r.2.1.length≤1∧∀x∈r.2.2::r.2.1,Kd.ok x∧x.words≤17
theorem kf_of{ns:List Int}{p0 p1:Str}{a1 b1:Rows1}{a2 b2:Rows2}(h0:KnOk ns 0 p0 a1 a2)(h1:KnOk ns 1 p1 b1 b2):KF ns [(p0,(a1,a2)),(p1,(b1,b2))]:=by
 obtain⟨n0,m0,e0⟩:=h0.n1
 obtain⟨n0',m0',e0'⟩:=h0.n2
 obtain⟨n1,m1,e1⟩:=h1.n1
 obtain⟨n1',m1',e1'⟩:=h1.n2
 have two:∀{p:(Str × (Rows1 × Rows2))→Prop},p (p0,(a1,a2))→p (p1,(b1,b2))→∀q∈[(p0,(a1,a2)),(p1,(b1,b2))],p q:=fun ha hb=>two_of ha hb
 have pne:p0≠p1:=by
  rw [h0.pt,h1.pt]
  exact wL_ne (by decide)
 have len:∀{α:Type} {m:List (Str × α)} {c s:Int} {n:Nat},n≤2→m.map (·.1)=wds c s n→m.length≤2:=fun {α m c s n} hn e=>by
  have:=congrArg List.length e
  rw [List.length_map,wds_len] at this
  omega
 have apart:∀{c s:Int} {n:Nat} {z:Str},n≤2→(s=20∨s=23)→z∈wds c s n→∀j:Nat,j < 15→z≠wordL c (j:Int):=fun {c s n z} hn hs hz j hj e=>by
  obtain⟨i,hi,rfl⟩:=wds_mem.mp hz
  exact wL_ne (by rcases hs with rfl|rfl<;>omega) e
 have cross:∀{c:Int} {n m:Nat} {z:Str},n≤2→m≤2→z∈wds c 20 n→z∉wds c 23 m:=fun {c n m z} hn hm hz hz2=>by
  obtain⟨i,hi,rfl⟩:=wds_mem.mp hz
  obtain⟨j,hj,e⟩:=wds_mem.mp hz2
  exact wL_ne (by omega) e
 have okw:∀{α:Type} {m:List (Str × α)} {c s:Int} {n:Nat},m.map (·.1)=wds c s n→∀r∈m,okW r.1:=fun {α m c s n} e r hr=>by
  have:r.1∈m.map (·.1):=List.mem_map.mpr ⟨r,hr,rfl⟩
  rw [e] at this
  obtain⟨i,_,e2⟩:=wds_mem.mp this
  rw [e2]
  exact wL_ok _ _
 have e0a:a1.map (·.1)=wds (cellOf ns 4) 20 n0:=e0
 have e0b:a2.map (·.1)=wds (cellOf ns 7) 20 n0':=e0'
 have e1a:b1.map (·.1)=wds (cellOf ns 4) 23 n1:=e1
 have e1b:b2.map (·.1)=wds (cellOf ns 7) 23 n1':=e1'
 refine⟨rfl,?_,two ⟨?_,?_,?_⟩ ⟨?_,?_,?_⟩,two ?_ ?_,two ?_ ?_,?_,?_,two ?_ ?_,two ?_ ?_,two (len m0 e0) (len m1 e1),two (len m0' e0') (len m1' e1'),two ?_ ?_,two ?_ ?_⟩
 ·show [p0,p1].Nodup
  exact List.nodup_cons.mpr ⟨fun h=>pne (List.mem_singleton.mp h),List.nodup_cons.mpr ⟨(fun h=>nomatch h),List.nodup_nil⟩⟩
 ·show p0≠""
  rw [h0.pt]
  exact wL_empty _ _
 ·show okW p0
  rw [h0.pt]
  exact wL_ok _ _
 ·show p0≠_
  rw [h0.pt]
  exact wL_ne (by decide)
 ·show p1≠""
  rw [h1.pt]
  exact wL_empty _ _
 ·show okW p1
  rw [h1.pt]
  exact wL_ok _ _
 ·show p1≠_
  rw [h1.pt]
  exact wL_ne (by decide)
 ·intro z hz
  exact apart m0 (.inl rfl) (by rw [←e0a];exact hz)
 ·intro z hz
  exact apart m1 (.inr rfl) (by rw [←e1a];exact hz)
 ·intro z hz
  exact apart m0' (.inl rfl) (by rw [←e0b];exact hz)
 ·intro z hz
  exact apart m1' (.inr rfl) (by rw [←e1b];exact hz)
 ·refine two (two (fun h=>absurd rfl h) fun _ z hz hz2=>?_) (two (fun _ z hz hz2=>?_) fun h=>absurd rfl h)
  ·exact cross m0 m1 (by rw [←e0a];exact hz) (by rw [←e1a];exact hz2)
  ·exact cross m0 m1 (by rw [←e0a];exact hz2) (by rw [←e1a];exact hz)
 ·refine two (two (fun h=>absurd rfl h) fun _ z hz hz2=>?_) (two (fun _ z hz hz2=>?_) fun h=>absurd rfl h)
  ·exact cross m0' m1' (by rw [←e0b];exact hz) (by rw [←e1b];exact hz2)
  ·exact cross m0' m1' (by rw [←e0b];exact hz2) (by rw [←e1b];exact hz)
 ·show(a1.map (·.1)).Nodup
  rw [e0]
  exact wds_nodup _ _ (by omega)
 ·show(b1.map (·.1)).Nodup
  rw [e1]
  exact wds_nodup _ _ (by omega)
 ·show(a2.map (·.1)).Nodup
  rw [e0']
  exact wds_nodup _ _ (by omega)
 ·show(b2.map (·.1)).Nodup
  rw [e1']
  exact wds_nodup _ _ (by omega)
 ·intro r hr
  have:=h0.k1 r hr
  have:=leaves_words r.2
  exact⟨okw e0 r hr,(h0.k1 r hr).1,by omega⟩
 ·intro r hr
  have:=h1.k1 r hr
  have:=leaves_words r.2
  exact⟨okw e1 r hr,(h1.k1 r hr).1,by omega⟩
 ·intro r hr
  refine⟨okw e0' r hr,(h0.k2 r hr).1,fun x hx=>?_⟩
  have h:=(h0.k2 r hr).2 x hx
  have:=leaves_words x
  exact⟨h.1,by omega⟩
 ·intro r hr
  refine⟨okw e1' r hr,(h1.k2 r hr).1,fun x hx=>?_⟩
  have h:=(h1.k2 r hr).2 x hx
  have:=leaves_words x
  exact⟨h.1,by omega⟩
theorem KF.paok{ns:List Int}{kr:Parts}(h:KF ns kr):PaOk kr:=fun q hq =>
 ⟨fun r hr=>⟨(h.k1 q hq r hr).1,(h.k1 q hq r hr).2.1,by have:=(h.k1 q hq r hr).2.2;omega⟩,fun r hr=>⟨(h.k2 q hq r hr).1,by have:=(h.k2 q hq r hr).2.1;omega,fun x hx=>⟨((h.k2 q hq r hr).2.2 x hx).1,by have:=((h.k2 q hq r hr).2.2 x hx).2;omega⟩⟩,h.l1 q hq,h.l2 q hq,h.n1 q hq,h.n2 q hq,(h.pw q hq).2.1⟩
def Ext(kr parts:Parts):Prop:=∀q∈kr,look parts q.1=some q.2
theorem ext_self{ns:List Int}{kr:Parts}(h:KF ns kr):Ext kr kr:=fun q hq=>look_of_get h.nd hq
theorem ext_more{ns:List Int}{kr more:Parts}(h:KF ns kr):Ext kr (kr++more):=fun q hq=>by
 rw [look_app,look_of_get h.nd hq]
 rfl
structure IV(ns:List Int)(kr:Parts)(k:Nat)(S:LS):Prop where
 gG:∀n,S.G n=tl S.own kr n
 ow:∀q∈S.own,(∃j:Nat,j < k∧q.1=wordL (cellOf ns 4) (j:Int))∨∃r∈kr,r.1∈S.ops∧q.1∈r.2.1.map (·.1)
 fw:∀q∈S.funs,(∃j:Nat,j < k∧q.1=wordL (cellOf ns 7) (j:Int))∨∃r∈kr,r.1∈S.ops∧q.1∈r.2.2.map (·.1)
 nd1:(S.own.map (·.1)).Nodup
 nd2:(S.funs.map (·.1)).Nodup
 ok1:∀q∈S.own,okW q.1∧Kd.ok q.2∧q.2.words≤40
 ok2:∀q∈S.funs,okW q.1∧q.2.1.length≤4∧∀x∈q.2.2::q.2.1,Kd.ok x∧x.words≤40
 ops:∀p∈S.ops,p∈kr.map (·.1)
 ond:S.ops.Nodup
 inn:∀r∈kr,r.1∈S.ops→(∀z∈r.2.1.map (·.1),z∈S.own.map (·.1))∧∀z∈r.2.2.map (·.1),z∈S.funs.map (·.1)
 l1:S.own.length≤k+S.ops.length
 l2:S.funs.length≤k+S.ops.length
 l3:S.items.length≤2*k
 it:∀i∈S.items,ItOk i
theorem nodup_sub2{l m:List Str}(h:l.Nodup)(hs:∀x∈l,x∈m):l.length≤m.length:=by
 induction l generalizing m with
 |nil=>exact Nat.zero_le _
 |cons a l ih =>
  obtain⟨h1,h2⟩:=List.nodup_cons.mp h
  have ha:=hs a (List.mem_cons_self ..)
  have:=ih (m:=m.erase a) h2 fun x hx=>(List.mem_erase_of_ne (fun e:x=a=>h1 (by rw [←e];exact hx))).mpr (hs x (List.mem_cons_of_mem _ hx))
  rw [List.length_erase_of_mem ha] at this
  have:=List.length_pos_of_mem ha
  rw [List.length_cons]
  omega
theorem IV.ops2{ns:List Int}{kr:Parts}{k:Nat}{S:LS}(h:IV ns kr k S)(kf:KF ns kr):S.ops.length≤2:=by
 have:=nodup_sub2 h.ond h.ops
 rw [List.length_map,kf.ln] at this
 exact this
theorem IV.fine{ns:List Int}{kr:Parts}{k:Nat}{S:LS}(h:IV ns kr k S)(kf:KF ns kr):Fine S:=by
 have key:∀n g,S.G n=some g→(okW n.1∧okW n.2)∧Kd.ok g∧g.words≤40:=fun n g e=>by
  rw [h.gG] at e
  unfold tl tell at e
  by_cases c:n.1=""
  ·rw [if_pos c] at e
   have hm:=h.ok1 _ (look_mem e)
   exact⟨⟨by rw [c];exact ok_empty,hm.1⟩,hm.2⟩
  ·rw [if_neg c] at e
   unfold PGof at e
   cases hq:look kr n.1 with
   |none=>rw [hq] at e;cases e
   |some r =>
    rw [hq] at e
    have hm:=look_mem hq
    have hm2:=kf.k1 _ hm _ (look_mem (show look r.1 n.2=some g from e))
    exact⟨⟨(kf.pw _ hm).2.1,hm2.1⟩,hm2.2.1,Nat.le_trans hm2.2.2 (by decide)⟩
 refine⟨fun q hq=>(h.ok1 q hq).1,fun q hq=>?_,fun n hn=>?_,fun n g e=>(key n g e).2⟩
 ·rw [h.gG]
  unfold tl tell
  rw [if_pos rfl]
  show look S.own q.1≠none
  rw [look_of_get h.nd1 (show(q.1,q.2)∈S.own from hq)]
  exact fun e=>nomatch e
 ·cases e:S.G n with
  |none=>exact absurd e hn
  |some g=>exact(key n g e).1
def Agr(S:LS)(m1:Rows1):Prop:=∀z,look S.own z≠none→look m1 z=look S.own z
theorem tl_agr{ns:List Int}{kr parts:Parts}{k:Nat}{S:LS}{m1:Rows1}(h:IV ns kr k S)(hx:Ext kr parts)(ha:Agr S m1){n:Str × Str}(hn:S.G n≠none):tl m1 parts n=S.G n:=by
 rw [h.gG] at hn ⊢
 unfold tl tell at hn ⊢
 by_cases c:n.1=""
 ·rw [if_pos c] at hn ⊢
  rw [if_pos c]
  exact ha _ hn
 ·rw [if_neg c] at hn ⊢
  rw [if_neg c]
  unfold PGof at hn ⊢
  cases hq:look kr n.1 with
  |none=>rw [hq] at hn;exact absurd rfl hn
  |some r=>rw [show look parts n.1=some r from hx _ (look_mem hq)]
theorem norm_good{G T:Str × Str→Option Kd}{M:Int}{k:Kd}(hk:KK G k)(hT:∀n,G n≠none→T n=G n)(hM:40≤M):norm T M k=.ok (Kd.put G k):=by
 have e:Kd.put T k=Kd.put G k:=put_congr fun n hn=>hT n (hk.2.2.1 n hn)
 rw [←e]
 refine norm_k (fun n hn=>?_) ?_
 ·rw [hT n (hk.2.2.1 n hn)]
  exact hk.2.2.1 n hn
 ·rw [e]
  have:=hk.2.2.2
  omega
theorem norms_good{G T:Str × Str→Option Kd}{M:Int}(hT:∀n,G n≠none→T n=G n)(hM:40≤M):∀{ks:List Kd},(∀k∈ks,KK G k)→norms T M ks=.ok (ks.map (Kd.put G))
 |[],_=>rfl
 |k::ks,h=>by
  unfold norms
  rw [norm_good (h k (List.mem_cons_self ..)) hT hM,norms_good hT hM fun k hk=>h k (List.mem_cons_of_mem _ hk)]
  rfl
structure Turn(kr:Parts)(S S':LS)(it:It)(ro:Rows1)(rf:Rows2):Prop where
 i:S'.items=S.items++[it]
 o:S'.own=S.own++ro
 f:S'.funs=S.funs++rf
 run:∀(parts:Parts) (M:Int) (m1:Rows1) (m2:Rows2),Ext kr parts→40≤M→Agr S m1→(∀z∈ro.map (·.1),z∉m1.map (·.1))→(∀z∈rf.map (·.1),z∉m2.map (·.1))→stepF parts M m1 m2 it=.ok (m1++ro) (m2++rf)
theorem addAll_ok{α:Type}:∀(r m:List (Str × α)),(r.map (·.1)).Nodup→(∀z∈r.map (·.1),z∉m.map (·.1))→addAll m r=some (m++r)
 |[],m,_,_=>by rw [List.append_nil];rfl
 |q::r,m,hn,hd=>by
  unfold addAll
  have h0:=hd q.1 (List.mem_cons_self ..)
  rw [if_neg h0]
  obtain⟨h1,h2⟩:=List.nodup_cons.mp (show(q.1::r.map (·.1)).Nodup from hn)
  rw [addAll_ok r (m++[q]) h2 fun z hz hm=>?_,List.append_assoc]
  ·rfl
  ·rw [List.map_append] at hm
   rcases List.mem_append.mp hm with hm|hm
   ·exact hd z (List.mem_cons_of_mem _ hz) hm
   ·have e:z=q.1:=List.mem_singleton.mp hm
    exact h1 (by rw [←e];exact hz)
theorem look_snoc{α:Type}{m:List (Str × α)}{z:Str}{x:α}{y:Str}(h:z∉m.map (·.1)):look (m++[(z,x)]) y=if y=z then some x else look m y:=by
 rw [look_app]
 by_cases e:y=z
 ·subst e
  rw [look_none h,if_pos rfl]
  show look [(y,x)] y=some x
  unfold look
  rw [List.find?_cons,show decide ((y,x).1=y)=true from decide_eq_true rfl]
  rfl
 ·rw [if_neg e]
  have:look [(z,x)] y=none:=look_none fun hm=>e (List.mem_singleton.mp hm)
  rw [this]
  cases look m y<;>rfl
theorem tl_put{m1:Rows1}{kr:Parts}{z:Str}{x:Kd}(h:z∉m1.map (·.1))(n:Str × Str):tl (m1++[(z,x)]) kr n=putG (tl m1 kr) ("",z) x n:=by
 show(if n.1="" then look (m1++[(z,x)]) n.2 else (PGof kr n.1).bind fun g=>g n.2)=if n=(("":Str),z) then some x else (if n.1="" then look m1 n.2 else (PGof kr n.1).bind fun g=>g n.2)
 by_cases c:n.1=""
 ·rw [if_pos c,if_pos c,look_snoc h]
  by_cases e:n.2=z
  ·rw [if_pos e,if_pos (by rw [←c,←e])]
  ·rw [if_neg e,if_neg (fun e'=>e (by rw [e']))]
 ·rw [if_neg c,if_neg c,if_neg (fun e'=>c (by rw [e']))]
section
variable{ns:List Int}{kr:Parts}{k:Nat}{S S':LS}
theorem IV.new1(h:IV ns kr k S)(kf:KF ns kr)(hk:k < 15):wordL (cellOf ns 4) (k:Int)∉S.own.map (·.1):=fun hm=>by
 obtain⟨q,hq,e⟩:=List.mem_map.mp hm
 rcases h.ow q hq with ⟨j,hj,e2⟩|⟨r,hr,_,hz⟩
 ·exact wL_ne (c:=cellOf ns 4) (i:=(j:Int)) (j:=(k:Int)) (by omega) (e2.symm.trans e)
 ·exact kf.w1 r hr q.1 hz k hk e
theorem IV.new2(h:IV ns kr k S)(kf:KF ns kr)(hk:k < 15):wordL (cellOf ns 7) (k:Int)∉S.funs.map (·.1):=fun hm=>by
 obtain⟨q,hq,e⟩:=List.mem_map.mp hm
 rcases h.fw q hq with ⟨j,hj,e2⟩|⟨r,hr,_,hz⟩
 ·exact wL_ne (c:=cellOf ns 7) (i:=(j:Int)) (j:=(k:Int)) (by omega) (e2.symm.trans e)
 ·exact kf.w2 r hr q.1 hz k hk e
theorem nd_snoc{α:Type}{m:List (Str × α)}{z:Str}{x:α}(h:(m.map (·.1)).Nodup)(hz:z∉m.map (·.1)):((m++[(z,x)]).map (·.1)).Nodup:=by
 rw [List.map_append]
 exact List.nodup_append.mpr ⟨h,List.nodup_cons.mpr ⟨(fun h=>nomatch h),List.nodup_nil⟩,fun a ha b hb e=>hz (by have e2:b=z:=List.mem_singleton.mp hb;rw [←e2,←e];exact ha)⟩
theorem put_kb{G:Str × Str→Option Kd}{x:Kd}(hG:∀n g,G n=some g→Kd.ok g∧g.words≤40)(h:KK G x):Kd.ok (Kd.put G x)∧(Kd.put G x).words≤40:=⟨put_okK (fun n g e=>(hG n g e).1) h.1,h.2.2.2⟩
theorem turn_add(h:IV ns kr k S)(kf:KF ns kr)(hk:k < 15)(ha:AddS S (wordL (cellOf ns 4) (k:Int)) (wordL (cellOf ns 7) (k:Int)) S') :
  IV ns kr (k+1) S'∧∃it ro rf,Turn kr S S' it ro rf∧(∀z∈ro.map (·.1),z=wordL (cellOf ns 4) (k:Int))∧∀z∈rf.map (·.1),z=wordL (cellOf ns 7) (k:Int):=by
 have fi:=h.fine kf
 have w1:=h.new1 kf hk
 have w2:=h.new2 kf hk
 rcases ha with ⟨x,hx,rfl⟩|⟨ps,x,hl,hps,hx,rfl⟩
 ·refine⟨⟨fun n=>?_,fun q hq=>?_,fun q hq=>?_,nd_snoc h.nd1 w1,h.nd2,fun q hq=>?_,h.ok2,h.ops,h.ond,fun r hr hp=>⟨fun z hz=>?_,(h.inn r hr hp).2⟩,?_,?_,?_,fun i hi=>?_⟩,.kind _ x,[(_,Kd.put S.G x)],[],⟨rfl,rfl,(List.append_nil _).symm,fun parts M m1 m2 hX hM hA f1 f2=>?_⟩,fun z hz=>List.mem_singleton.mp hz,fun z hz=>nomatch hz⟩
  ·show putG S.G _ _ n=_
   rw [show(addK S (wordL (cellOf ns 4) (k:Int)) x).own=S.own++[(wordL (cellOf ns 4) (k:Int),Kd.put S.G x)] from rfl,tl_put w1]
   show(if n=_ then some _ else S.G n)=if n=_ then some _ else tl S.own kr n
   rw [h.gG n]
  ·rcases List.mem_append.mp (show q∈S.own++_ from hq) with hq|hq
   ·rcases h.ow q hq with ⟨j,hj,e⟩|e
    ·exact .inl ⟨j,by omega,e⟩
    ·exact .inr e
   ·exact .inl ⟨k,by omega,by rw [List.mem_singleton.mp hq]⟩
  ·rcases h.fw q hq with ⟨j,hj,e⟩|e
   ·exact .inl ⟨j,by omega,e⟩
   ·exact .inr e
  ·rcases List.mem_append.mp (show q∈S.own++_ from hq) with hq|hq
   ·exact h.ok1 q hq
   ·rw [List.mem_singleton.mp hq]
    exact⟨wL_ok _ _,put_kb fi.gk hx⟩
  ·show z∈List.map (fun(q:Str × Kd)=>q.1) (S.own++_)
   rw [List.map_append]
   exact List.mem_append_left _ ((h.inn r hr hp).1 z hz)
  ·show(S.own++[_]).length≤k+1+S.ops.length
   rw [List.length_append,List.length_singleton]
   have:=h.l1
   omega
  ·show S.funs.length≤k+1+S.ops.length
   have:=h.l2
   omega
  ·show(S.items++[_]).length≤2*(k+1)
   rw [List.length_append,List.length_singleton]
   have:=h.l3
   omega
  ·rcases List.mem_append.mp (show i∈S.items++_ from hi) with hi|hi
   ·exact h.it i hi
   ·rw [List.mem_singleton.mp hi]
    exact⟨wL_ok _ _,hx.itk⟩
  ·show(match norm (tl m1 parts) M x with
    |.no c=>FR.ref c
    |.ok k'=>if wordL (cellOf ns 4) (k:Int)∈List.map (fun(q:Str × Kd)=>q.1) m1 then .ref 0 else .ok (m1++[(wordL (cellOf ns 4) (k:Int),k')]) m2)=_
   rw [norm_good hx (fun n hn=>tl_agr h hX hA hn) hM]
   show(if _ then _ else _)=_
   rw [if_neg (f1 _ (List.mem_singleton.mpr rfl)),List.append_nil]
 ·refine⟨⟨h.gG,fun q hq=>?_,fun q hq=>?_,h.nd1,nd_snoc h.nd2 w2,h.ok1,fun q hq=>?_,h.ops,h.ond,fun r hr hp=>⟨(h.inn r hr hp).1,fun z hz=>?_⟩,?_,?_,?_,fun i hi=>?_⟩,.fn _ ps x,[],[(_,((ps.map (·.2)).map (Kd.put S.G),Kd.put S.G x))],⟨rfl,(List.append_nil _).symm,rfl,fun parts M m1 m2 hX hM hA f1 f2=>?_⟩,fun z hz=>(nomatch hz),fun z hz=>List.mem_singleton.mp hz⟩
  ·rcases h.ow q hq with ⟨j,hj,e⟩|e
   ·exact .inl ⟨j,by omega,e⟩
   ·exact .inr e
  ·rcases List.mem_append.mp (show q∈S.funs++_ from hq) with hq|hq
   ·rcases h.fw q hq with ⟨j,hj,e⟩|e
    ·exact .inl ⟨j,by omega,e⟩
    ·exact .inr e
   ·exact .inl ⟨k,by omega,by rw [List.mem_singleton.mp hq]⟩
  ·rcases List.mem_append.mp (show q∈S.funs++_ from hq) with hq|hq
   ·exact h.ok2 q hq
   ·rw [List.mem_singleton.mp hq]
    refine⟨wL_ok _ _,by rw [List.length_map,List.length_map];exact hl,fun y hy=>?_⟩
    rcases List.mem_cons.mp hy with e|hy
    ·rw [e]
     exact put_kb fi.gk hx
    ·obtain⟨y',hy',rfl⟩:=List.mem_map.mp hy
     obtain⟨q',hq',rfl⟩:=List.mem_map.mp hy'
     exact put_kb fi.gk (hps q' hq')
  ·show z∈List.map (fun(q:Str × (List Kd × Kd))=>q.1) (S.funs++_)
   rw [List.map_append]
   exact List.mem_append_left _ ((h.inn r hr hp).2 z hz)
  ·show S.own.length≤k+1+S.ops.length
   have:=h.l1
   omega
  ·show(S.funs++[_]).length≤k+1+S.ops.length
   rw [List.length_append,List.length_singleton]
   have:=h.l2
   omega
  ·show(S.items++[_]).length≤2*(k+1)
   rw [List.length_append,List.length_singleton]
   have:=h.l3
   omega
  ·rcases List.mem_append.mp (show i∈S.items++_ from hi) with hi|hi
   ·exact h.it i hi
   ·rw [List.mem_singleton.mp hi]
    exact⟨wL_ok _ _,hl,fun q hq=>(hps q hq).itk,hx.itk⟩
  ·show(match norms (tl m1 parts) M (ps.map (·.2)) with
    |.no c=>FR.ref c
    |.ok ks=>match norm (tl m1 parts) M x with
     |.no c=>FR.ref c
     |.ok k'=>if wordL (cellOf ns 7) (k:Int)∈List.map (fun(q:Str × (List Kd × Kd))=>q.1) m2 then .ref 0 else .ok m1 (m2++[(wordL (cellOf ns 7) (k:Int),(ks,k'))]))=_
   rw [norms_good (fun n hn=>tl_agr h hX hA hn) hM (fun y hy=>by
    obtain⟨q',hq',rfl⟩:=List.mem_map.mp hy
    exact hps q' hq'),norm_good hx (fun n hn=>tl_agr h hX hA hn) hM]
   show(if _ then _ else _)=_
   rw [if_neg (f2 _ (List.mem_singleton.mpr rfl)),List.append_nil]
end
end K41
namespace K41
open PySem L2 Kk
section
variable{ns:List Int}{kr:Parts}{k:Nat}{S S':LS}
theorem open_tl:∀(r1 m1:Rows1) (G:Str × Str→Option Kd),(∀n,G n=tl m1 kr n)→(r1.map (·.1)).Nodup→(∀z∈r1.map (·.1),z∉m1.map (·.1))→∀n,openG G r1 n=tl (m1++r1) kr n
 |[],m1,G,hG,_,_,n=>by
  rw [List.append_nil]
  exact hG n
 |(z,x)::r1,m1,G,hG,hn,hd,n=>by
  obtain⟨h1,h2⟩:=List.nodup_cons.mp (show(z::r1.map (·.1)).Nodup from hn)
  have hz:=hd z (List.mem_cons_self ..)
  have e:m1++(z,x)::r1=(m1++[(z,x)])++r1:=by rw [List.append_assoc];rfl
  rw [e]
  refine open_tl r1 (m1++[(z,x)]) (putG G ("",z) x) (fun n=>?_) h2 (fun y hy hm=>?_) n
  ·rw [tl_put hz]
   show(if n=_ then some x else G n)=if n=_ then some x else tl m1 kr n
   rw [hG n]
  ·rw [List.map_append] at hm
   rcases List.mem_append.mp hm with hm|hm
   ·exact hd y (List.mem_cons_of_mem _ hy) hm
   ·have e:y=z:=List.mem_singleton.mp hm
    exact h1 (by rw [←e];exact hy)
theorem IV.out1(h:IV ns kr k S)(kf:KF ns kr)(hk:k≤15){q:Str × (Rows1 × Rows2)}(hq:q∈kr)(hp:q.1∉S.ops):∀z∈q.2.1.map (·.1),z∉S.own.map (·.1):=fun z hz hm=>by
 obtain⟨x,hx,e⟩:=List.mem_map.mp hm
 rcases h.ow x hx with ⟨j,hj,e2⟩|⟨r,hr,hro,hzr⟩
 ·exact kf.w1 q hq z hz j (by omega) (e.symm.trans e2)
 ·exact kf.x1 r hr q hq (fun e3=>hp (by rw [←e3];exact hro)) x.1 hzr (by rw [show x.1=z from e];exact hz)
theorem IV.out2(h:IV ns kr k S)(kf:KF ns kr)(hk:k≤15){q:Str × (Rows1 × Rows2)}(hq:q∈kr)(hp:q.1∉S.ops):∀z∈q.2.2.map (·.1),z∉S.funs.map (·.1):=fun z hz hm=>by
 obtain⟨x,hx,e⟩:=List.mem_map.mp hm
 rcases h.fw x hx with ⟨j,hj,e2⟩|⟨r,hr,hro,hzr⟩
 ·exact kf.w2 q hq z hz j (by omega) (e.symm.trans e2)
 ·exact kf.x2 r hr q hq (fun e3=>hp (by rw [←e3];exact hro)) x.1 hzr (by rw [show x.1=z from e];exact hz)
theorem nd_app{α:Type}{a b:List (Str × α)}(ha:(a.map (·.1)).Nodup)(hb:(b.map (·.1)).Nodup)(hd:∀z∈b.map (·.1),z∉a.map (·.1)):((a++b).map (·.1)).Nodup:=by
 rw [List.map_append]
 exact List.nodup_append.mpr ⟨ha,hb,fun x hx y hy e=>hd y hy (by rw [←e];exact hx)⟩
theorem turn_open(h:IV ns kr k S)(kf:KF ns kr)(hk:k < 15){q:Str × (Rows1 × Rows2)}(hq:q∈kr)(hp:q.1∉S.ops) :
  IV ns kr (k+1) (openS S q.1 q.2.1 q.2.2)∧Turn kr S (openS S q.1 q.2.1 q.2.2) (.opn q.1) q.2.1 q.2.2:=by
 have o1:=h.out1 kf (Nat.le_of_lt hk) hq hp
 have o2:=h.out2 kf (Nat.le_of_lt hk) hq hp
 refine⟨⟨open_tl _ _ _ h.gG (kf.n1 q hq) o1,fun x hx=>?_,fun x hx=>?_,nd_app h.nd1 (kf.n1 q hq) o1,nd_app h.nd2 (kf.n2 q hq) o2,fun x hx=>?_,fun x hx=>?_,fun p hp'=>?_,?_,fun r hr hr'=>?_,?_,?_,?_,fun i hi=>?_⟩,⟨rfl,rfl,rfl,fun parts M m1 m2 hX hM hA f1 f2=>?_⟩⟩
 ·rcases List.mem_append.mp (show x∈S.own++_ from hx) with hx|hx
  ·rcases h.ow x hx with ⟨j,hj,e⟩|⟨r,hr,hro,hz⟩
   ·exact .inl ⟨j,by omega,e⟩
   ·exact .inr ⟨r,hr,List.mem_append_left _ hro,hz⟩
  ·exact .inr ⟨q,hq,List.mem_append_right _ (List.mem_singleton.mpr rfl),List.mem_map.mpr ⟨x,hx,rfl⟩⟩
 ·rcases List.mem_append.mp (show x∈S.funs++_ from hx) with hx|hx
  ·rcases h.fw x hx with ⟨j,hj,e⟩|⟨r,hr,hro,hz⟩
   ·exact .inl ⟨j,by omega,e⟩
   ·exact .inr ⟨r,hr,List.mem_append_left _ hro,hz⟩
  ·exact .inr ⟨q,hq,List.mem_append_right _ (List.mem_singleton.mpr rfl),List.mem_map.mpr ⟨x,hx,rfl⟩⟩
 ·rcases List.mem_append.mp (show x∈S.own++_ from hx) with hx|hx
  ·exact h.ok1 x hx
  ·have:=kf.k1 q hq x hx
   exact⟨this.1,this.2.1,by have:=this.2.2;omega⟩
 ·rcases List.mem_append.mp (show x∈S.funs++_ from hx) with hx|hx
  ·exact h.ok2 x hx
  ·have:=kf.k2 q hq x hx
   exact⟨this.1,by have:=this.2.1;omega,fun y hy=>⟨(this.2.2 y hy).1,by have:=(this.2.2 y hy).2;omega⟩⟩
 ·rcases List.mem_append.mp (show p∈S.ops++_ from hp') with hp'|hp'
  ·exact h.ops p hp'
  ·rw [List.mem_singleton.mp hp']
   exact List.mem_map.mpr ⟨q,hq,rfl⟩
 ·show(S.ops++[q.1]).Nodup
  exact List.nodup_append.mpr ⟨h.ond,List.nodup_cons.mpr ⟨(fun h=>nomatch h),List.nodup_nil⟩,fun a ha b hb e=>hp (by rw [←List.mem_singleton.mp hb,←e];exact ha)⟩
 ·have hl:∀z∈r.2.1.map (·.1),z∈S.own.map (·.1)∨z∈q.2.1.map (·.1):=fun z hz=>by
   rcases List.mem_append.mp (show r.1∈S.ops++_ from hr') with hr'|hr'
   ·exact .inl ((h.inn r hr hr').1 z hz)
   ·have e:=key_uniq kf.nd (show(q.1,r.2)∈kr by rw [←List.mem_singleton.mp hr'];exact hr) (show(q.1,q.2)∈kr from hq)
    rw [←e]
    exact .inr hz
  have hl2:∀z∈r.2.2.map (·.1),z∈S.funs.map (·.1)∨z∈q.2.2.map (·.1):=fun z hz=>by
   rcases List.mem_append.mp (show r.1∈S.ops++_ from hr') with hr'|hr'
   ·exact .inl ((h.inn r hr hr').2 z hz)
   ·have e:=key_uniq kf.nd (show(q.1,r.2)∈kr by rw [←List.mem_singleton.mp hr'];exact hr) (show(q.1,q.2)∈kr from hq)
    rw [←e]
    exact .inr hz
  refine⟨fun z hz=>?_,fun z hz=>?_⟩
  ·show z∈List.map (fun(q:Str × Kd)=>q.1) (S.own++q.2.1)
   rw [List.map_append]
   exact List.mem_append.mpr (hl z hz)
  ·show z∈List.map (fun(q:Str × (List Kd × Kd))=>q.1) (S.funs++q.2.2)
   rw [List.map_append]
   exact List.mem_append.mpr (hl2 z hz)
 ·show(S.own++q.2.1).length≤k+1+(S.ops++[q.1]).length
  rw [List.length_append,List.length_append,List.length_singleton]
  have:=h.l1
  have:=kf.l1 q hq
  omega
 ·show(S.funs++q.2.2).length≤k+1+(S.ops++[q.1]).length
  rw [List.length_append,List.length_append,List.length_singleton]
  have:=h.l2
  have:=kf.l2 q hq
  omega
 ·show(S.items++[_]).length≤2*(k+1)
  rw [List.length_append,List.length_singleton]
  have:=h.l3
  omega
 ·rcases List.mem_append.mp (show i∈S.items++_ from hi) with hi|hi
  ·exact h.it i hi
  ·rw [List.mem_singleton.mp hi]
   exact(kf.pw q hq).2.1
 ·rw [openR_is]
  unfold openR
  simp only [show look parts q.1=some q.2 from hX q hq,addAll_ok q.2.1 m1 (kf.n1 q hq) f1,addAll_ok q.2.2 m2 (kf.n2 q hq) f2]
def insW(own:Rows1)(funs:Rows2)(i j:Nat):It→Rows1 × Rows2
 |.kind w x=>(own.take i++(w,x)::own.drop i,funs)
 |.fn w ps x=>(own,funs.take j++(w,(ps.map (·.2),x))::funs.drop j)
 |.opn _=>(own,funs)
def BigW(ns:List Int)(k:Nat)(S:LS):It→Prop
 |.kind w x=>(∃j:Nat,j < k∧w=wordL (cellOf ns 4) (j:Int))∧w∉S.own.map (·.1)∧Kd.ok x∧x.leaves.length≤21
 |.fn w ps x=>(∃j:Nat,j < k∧w=wordL (cellOf ns 7) (j:Int))∧w∉S.funs.map (·.1)∧ps.length≤4∧∀y∈x::ps.map (·.2),Kd.ok y∧y.leaves.length≤21
 |.opn _=>False
inductive RI (ns:List Int) (kr:Parts) (k:Nat) (S:LS):Nat→Parts→Option (It × Nat × Nat)→Prop
 |yet:(∀parts M,Ext kr parts→40≤M→runF parts M S.items=.ok S.own S.funs)→RI ns kr k S 9 [] none
 |bad {d:Nat} {more:Parts} {wi:It × Nat × Nat}:d≤2→runF (kr++more) 40 S.items=.ref d→PaOk (kr++more)→((kr++more).map (·.1)).Nodup→RI ns kr k S d more (some wi)
 |big {it:It} {i j:Nat}:runF kr 40 S.items=.ref 3→runF kr 41 S.items=.ok (insW S.own S.funs i j it).1 (insW S.own S.funs i j it).2→i≤S.own.length→j≤S.funs.length→BigW ns k S it→RI ns kr k S 3 [] (some (it,i,j))
theorem look_ins{α:Type}{a:List (Str × α)}{i:Nat}{w z:Str}{x:α}(h:z≠w):look (a.take i++(w,x)::a.drop i) z=look a z:=by
 have e:a=a.take i++a.drop i:=(List.take_append_drop i a).symm
 rw [look_app]
 have e2:look ((w,x)::a.drop i) z=look (a.drop i) z:=by
  rw [show(w,x)::a.drop i=[(w,x)]++a.drop i from rfl,look_app,look_none (m:=[(w,x)]) fun hm=>h (List.mem_singleton.mp hm)]
  rfl
 rw [e2,←look_app,List.take_append_drop]
theorem mem_ins{α:Type}{a:List (Str × α)}{i:Nat}{w z:Str}{x:α}(h:z∈(a.take i++(w,x)::a.drop i).map (·.1)):z=w∨z∈a.map (·.1):=by
 rw [List.map_append,List.map_cons] at h
 rcases List.mem_append.mp h with h|h
 ·exact .inr (by
   obtain⟨q,hq,e⟩:=List.mem_map.mp h
   exact List.mem_map.mpr ⟨q,List.mem_of_mem_take hq,e⟩)
 ·rcases List.mem_cons.mp h with h|h
  ·exact .inl h
  ·exact .inr (by
    obtain⟨q,hq,e⟩:=List.mem_map.mp h
    exact List.mem_map.mpr ⟨q,List.mem_of_mem_drop hq,e⟩)
theorem look_in{α:Type}{m:List (Str × α)}{z:Str}(h:look m z≠none):z∈m.map (·.1):=by
 cases e:look m z with
 |none=>exact absurd e h
 |some x=>exact List.mem_map.mpr ⟨_,look_mem e,rfl⟩
theorem ins_app{α:Type}{a b:List α}{i:Nat}{x:α}(h:i≤a.length):(a.take i++x::a.drop i)++b=(a++b).take i++x::(a++b).drop i:=by
 rw [List.take_append_of_le_length h,List.drop_append_of_le_length h,List.append_assoc]
 rfl
theorem run_turn{it:It}{ro:Rows1}{rf:Rows2}{d:Nat}{more:Parts}{wi:Option (It × Nat × Nat)}(kf:KF ns kr)(r:RI ns kr k S d more wi)(t:Turn kr S S' it ro rf)
  (f1:∀z∈ro.map (·.1),z∉S.own.map (·.1)∧∀j:Nat,j < k→z≠wordL (cellOf ns 4) (j:Int)) (f2:∀z∈rf.map (·.1),z∉S.funs.map (·.1)∧∀j:Nat,j < k→z≠wordL (cellOf ns 7) (j:Int)):RI ns kr (k+1) S' d more wi:=by
 have snoc:∀(parts:Parts) (M:Int),runF parts M S'.items=stepR parts M (runF parts M S.items) it:=fun parts M=>by
  rw [t.i,runF_app]
  rfl
 cases r with
 |yet h =>
  refine .yet fun parts M hX hM=>?_
  rw [snoc,h parts M hX hM,t.o,t.f]
  exact t.run parts M S.own S.funs hX hM (fun _ _=>rfl) (fun z hz=>(f1 z hz).1) fun z hz=>(f2 z hz).1
 |bad hd h hp hn =>
  refine .bad hd ?_ hp hn
  rw [snoc,h]
  rfl
 |@big wit i j h40 h41 hi hj hB =>
  refine .big (by rw [snoc,h40];rfl) ?_ (by rw [t.o,List.length_append];omega) (by rw [t.f,List.length_append];omega) ?_
  ·rw [snoc,h41,t.o,t.f]
   show stepF kr 41 _ _ it=_
   cases wit with
   |kind w x =>
    obtain⟨⟨jw,hjw,ew⟩,hw,_⟩:=hB
    refine(t.run kr 41 (S.own.take i++(w,x)::S.own.drop i) S.funs (ext_self kf) (by decide) (fun z hz=>look_ins fun e=>hw (by rw [←e];exact look_in hz)) (fun z hz hm=>?_) (fun z hz=>(f2 z hz).1)).trans ?_
    ·rcases mem_ins hm with e|e
     ·exact(f1 z hz).2 jw hjw (e.trans ew)
     ·exact(f1 z hz).1 e
    ·show FR.ok ((S.own.take i++(w,x)::S.own.drop i)++ro) (S.funs++rf)=FR.ok ((S.own++ro).take i++(w,x)::(S.own++ro).drop i) (S.funs++rf)
     rw [ins_app hi]
   |fn w ps x =>
    obtain⟨⟨jw,hjw,ew⟩,hw,_⟩:=hB
    refine(t.run kr 41 S.own (S.funs.take j++(w,(ps.map (·.2),x))::S.funs.drop j) (ext_self kf) (by decide) (fun _ _=>rfl) (fun z hz=>(f1 z hz).1) (fun z hz hm=>?_)).trans ?_
    ·rcases mem_ins hm with e|e
     ·exact(f2 z hz).2 jw hjw (e.trans ew)
     ·exact(f2 z hz).1 e
    ·show FR.ok (S.own++ro) ((S.funs.take j++(w,(ps.map (·.2),x))::S.funs.drop j)++rf)=FR.ok (S.own++ro) ((S.funs++rf).take j++(w,(ps.map (·.2),x))::(S.funs++rf).drop j)
     rw [ins_app hj]
   |opn p=>exact hB.elim
  ·cases wit with
   |kind w x =>
    obtain⟨⟨jw,hjw,ew⟩,hw,hr⟩:=hB
    refine⟨⟨jw,by omega,ew⟩,fun hm=>?_,hr⟩
    rw [t.o,List.map_append] at hm
    rcases List.mem_append.mp hm with hm|hm
    ·exact hw hm
    ·exact(f1 w hm).2 jw hjw ew
   |fn w ps x =>
    obtain⟨⟨jw,hjw,ew⟩,hw,hr⟩:=hB
    refine⟨⟨jw,by omega,ew⟩,fun hm=>?_,hr⟩
    rw [t.f,List.map_append] at hm
    rcases List.mem_append.mp hm with hm|hm
    ·exact hw hm
    ·exact(f2 w hm).2 jw hjw ew
   |opn p=>exact hB.elim
theorem step_add_run(h:IV ns kr k S)(kf:KF ns kr)(hk:k < 15){d:Nat}{more:Parts}{wi:Option (It × Nat × Nat)}(r:RI ns kr k S d more wi)(ha:AddS S (wordL (cellOf ns 4) (k:Int)) (wordL (cellOf ns 7) (k:Int)) S'):IV ns kr (k+1) S'∧RI ns kr (k+1) S' d more wi:=by
 obtain⟨h',it,ro,rf,t,e1,e2⟩:=turn_add h kf hk ha
 refine⟨h',run_turn kf r t (fun z hz=>?_) fun z hz=>?_⟩
 ·rw [e1 z hz]
  exact⟨h.new1 kf hk,fun j hj=>wL_ne (by omega)⟩
 ·rw [e2 z hz]
  exact⟨h.new2 kf hk,fun j hj=>wL_ne (by omega)⟩
theorem step_open_run(h:IV ns kr k S)(kf:KF ns kr)(hk:k < 15){d:Nat}{more:Parts}{wi:Option (It × Nat × Nat)}(r:RI ns kr k S d more wi){q:Str × (Rows1 × Rows2)}(hq:q∈kr)(hp:q.1∉S.ops):IV ns kr (k+1) (openS S q.1 q.2.1 q.2.2)∧RI ns kr (k+1) (openS S q.1 q.2.1 q.2.2) d more wi:=by
 obtain⟨h',t⟩:=turn_open h kf hk hq hp
 exact⟨h',run_turn kf r t (fun z hz=>⟨h.out1 kf (Nat.le_of_lt hk) hq hp z hz,fun j hj=>kf.w1 q hq z hz j (by omega)⟩) fun z hz=>⟨h.out2 kf (Nat.le_of_lt hk) hq hp z hz,fun j hj=>kf.w2 q hq z hz j (by omega)⟩⟩
end
end K41
namespace K41
open PySem L2 Kk
theorem run_late{parts:Parts}{M:Int}{items rest:List It}{it:It}{own:Rows1}{funs:Rows2}{c:Nat}(h:runF parts M items=.ok own funs)(hs:stepF parts M own funs it=.ref c):runF parts M (items++it::rest)=.ref c:=by
 rw [runF_app,h]
 show rest.foldl (stepR parts M) (stepF parts M own funs it)=.ref c
 rw [hs,fold_ref]
theorem look_one{α:Type}{z:Str}{x:α}:look [(z,x)] z=some x:=by
 unfold look
 rw [List.find?_cons,show decide ((z,x).1=z)=true from decide_eq_true rfl]
 rfl
theorem norm_num{T:Str × Str→Option Kd}{M:Int}{n:Int}(h:1≤M):norm T M (.num n)=.ok (.num n) :=
 norm_k (T:=T) (fun n hn=>nomatch hn) (by show ¬((1:Int) > M);omega)
theorem tl_own{m1:Rows1}{parts:Parts}{z:Str}(h:z∉m1.map (·.1)):tl m1 parts ("",z)=none:=by
 unfold tl tell
 rw [if_pos rfl]
 exact look_none h
theorem great_names:Kd.names (greatK 20)=[]:=by decide +kernel
theorem great_words:(greatK 20).words=41:=by decide +kernel
theorem great_leaves:(greatK 20).leaves.length=21:=by decide +kernel
theorem great_ok:∀n,Kd.ok (greatK n)
 |0=>by trivial
 |n+1=>⟨great_ok n,by trivial⟩
theorem norm_great40{T:Str × Str→Option Kd}:norm T 40 (greatK 20)=.no 3 :=
 norm_3 (fun n hn=>by rw [great_names] at hn;exact nomatch hn) (by rw [put_same great_names,great_words];decide)
theorem norm_great41{T:Str × Str→Option Kd}:norm T 41 (greatK 20)=.ok (greatK 20):=by
 have e:Kd.put T (greatK 20)=greatK 20:=put_same great_names
 have:=norm_k (T:=T) (M:=41) (k:=greatK 20) (fun n hn=>by rw [great_names] at hn;exact nomatch hn) (by rw [e,great_words];decide)
 rw [e] at this
 exact this
theorem great_itk:ItK (greatK 20):=⟨great_ok 20,by rw [great_leaves];exact Nat.le_refl _,.inr great_names⟩
theorem num_itk{n:Int}:ItK (.num n):=⟨by trivial,by show 1≤21;decide,.inr rfl⟩
theorem name_itk{q t:Str}(h1:okW q)(h2:okW t):ItK (.name q t):=⟨⟨h1,h2⟩,by show 1≤21;decide,.inl (by show 1≤3;decide)⟩
theorem st_kind{parts:Parts}{M:Int}{m1:Rows1}{m2:Rows2}{w:Str}{x y:Kd}(h:norm (tl m1 parts) M x=.ok y)(hw:w∉m1.map (·.1)):stepF parts M m1 m2 (.kind w x)=.ok (m1++[(w,y)]) m2:=by
 unfold stepF
 simp only [h]
 exact if_neg hw
theorem st_kindN{parts:Parts}{M:Int}{m1:Rows1}{m2:Rows2}{w:Str}{x:Kd}{c:Nat}(h:norm (tl m1 parts) M x=.no c):stepF parts M m1 m2 (.kind w x)=.ref c:=by
 unfold stepF
 simp only [h]
theorem st_fn{parts:Parts}{M:Int}{m1:Rows1}{m2:Rows2}{w:Str}{ps:List (Str × Kd)}{ks:List Kd}{x y:Kd}(h1:norms (tl m1 parts) M (ps.map (·.2))=.ok ks)(h:norm (tl m1 parts) M x=.ok y)(hw:w∉m2.map (·.1)):stepF parts M m1 m2 (.fn w ps x)=.ok m1 (m2++[(w,(ks,y))]):=by
 unfold stepF
 simp only [h1,h]
 exact if_neg hw
theorem st_fnN1{parts:Parts}{M:Int}{m1:Rows1}{m2:Rows2}{w:Str}{ps:List (Str × Kd)}{x:Kd}{c:Nat}(h1:norms (tl m1 parts) M (ps.map (·.2))=.no c):stepF parts M m1 m2 (.fn w ps x)=.ref c:=by
 unfold stepF
 simp only [h1]
theorem st_fnN2{parts:Parts}{M:Int}{m1:Rows1}{m2:Rows2}{w:Str}{ps:List (Str × Kd)}{ks:List Kd}{x:Kd}{c:Nat}(h1:norms (tl m1 parts) M (ps.map (·.2))=.ok ks)(h:norm (tl m1 parts) M x=.no c):stepF parts M m1 m2 (.fn w ps x)=.ref c:=by
 unfold stepF
 simp only [h1,h]
theorem norms_two{T:Str × Str→Option Kd}{M:Int}{a b a' b':Kd}(h1:norm T M a=.ok a')(h2:norm T M b=.ok b'):norms T M [a,b]=.ok [a',b']:=by
 unfold norms
 rw [h1,norms_one,h2]
theorem norms_two2{T:Str × Str→Option Kd}{M:Int}{a b a':Kd}{c:Nat}(h1:norm T M a=.ok a')(h2:norm T M b=.no c):norms T M [a,b]=.no c:=by
 unfold norms
 rw [h1,norms_one,h2]
theorem ins_end{α:Type}(a:List α)(x:α):a.take a.length++x::a.drop a.length=a++[x]:=by
 rw [List.take_length,List.drop_length]
section
variable{ns:List Int}{kr:Parts}{k:Nat}{S:LS}
abbrev addI(S:LS)(its:List It):LS:={ S with items:=S.items++its }
theorem IV.items(h:IV ns kr k S){its:List It}(hl:its.length≤2)(hi:∀i∈its,ItOk i):IV ns kr (k+1) (addI S its):=by
 refine⟨h.gG,fun q hq=>?_,fun q hq=>?_,h.nd1,h.nd2,h.ok1,h.ok2,h.ops,h.ond,h.inn,?_,?_,?_,fun i hi'=>?_⟩
 ·rcases h.ow q hq with ⟨j,hj,e⟩|e
  ·exact .inl ⟨j,by omega,e⟩
  ·exact .inr e
 ·rcases h.fw q hq with ⟨j,hj,e⟩|e
  ·exact .inl ⟨j,by omega,e⟩
  ·exact .inr e
 ·have:=h.l1
  show S.own.length≤k+1+S.ops.length
  omega
 ·have:=h.l2
  show S.funs.length≤k+1+S.ops.length
  omega
 ·have:=h.l3
  show(S.items++its).length≤2*(k+1)
  rw [List.length_append]
  omega
 ·rcases List.mem_append.mp (show i∈S.items++its from hi') with hi'|hi'
  ·exact h.it i hi'
  ·exact hi i hi'
theorem paok_app{a b:Parts}(ha:PaOk a)(hb:PaOk b):PaOk (a++b):=fun q hq=>(List.mem_append.mp hq).elim (ha q) (hb q)
theorem KF.nop(kf:KF ns kr):wordL (cellOf ns 1) 5∉kr.map (·.1):=fun hm=>by
 obtain⟨q,hq,e⟩:=List.mem_map.mp hm
 exact(kf.pw q hq).2.2 e
theorem one_kb{n:Int}:KB (.num n):=⟨by trivial,by show 1≤60;decide⟩
theorem big_run(h:IV ns kr k S)(kf:KF ns kr)(hk:k < 15)(hy40:runF kr 40 S.items=.ok S.own S.funs)(hy41:runF kr 41 S.items=.ok S.own S.funs)(g:Kd)(gi:ItK g)(g40:norm (tl S.own kr) 40 g=.no 3)(g41:norm (tl S.own kr) 41 g=.ok g){it:It}
  (hc:it=.kind (wordL (cellOf ns 4) (k:Int)) g∨it=.fn (wordL (cellOf ns 7) (k:Int)) [("a",.num 2),("b",g)] (.num 3)∨it=.fn (wordL (cellOf ns 7) (k:Int)) [("a",.num 2)] g) :
  IV ns kr (k+1) (addI S [it])∧∃it' rest,[it]=it'::rest∧RI ns kr (k+1) (addI S [it]) 3 [] (some (it',S.own.length,S.funs.length)):=by
 have w1:=h.new1 kf hk
 have w2:=h.new2 kf hk
 have ow:=wL_ok (cellOf ns 4) (k:Int)
 have of:=wL_ok (cellOf ns 7) (k:Int)
 have bw:Kd.ok g∧g.leaves.length≤21:=⟨gi.1,gi.2.1⟩
 have bn:∀{n:Int},Kd.ok (.num n)∧(Kd.num n).leaves.length≤21:=⟨by trivial,by show 1≤21;decide⟩
 rcases hc with rfl|rfl|rfl
 ·refine⟨h.items (by show 1≤2;decide) (one_of ⟨ow,gi⟩),_,_,rfl,.big (run_late hy40 (st_kindN g40)) ?_ (Nat.le_refl _) (Nat.le_refl _) ⟨⟨k,by omega,rfl⟩,w1,bw⟩⟩
  rw [show(addI S [It.kind (wordL (cellOf ns 4) (k:Int)) g]).items=S.items++[It.kind (wordL (cellOf ns 4) (k:Int)) g] from rfl,runF_app,hy41]
  refine(st_kind g41 w1).trans ?_
  show _=FR.ok (S.own.take S.own.length++(wordL (cellOf ns 4) (k:Int),g)::S.own.drop S.own.length) S.funs
  rw [ins_end]
 ·refine⟨h.items (by show 1≤2;decide) (one_of ⟨of,by show 2≤4;decide,two_of num_itk gi,num_itk⟩),_,_,rfl,.big (run_late hy40 (st_fnN1 (norms_two2 (norm_num (by decide)) g40))) ?_ (Nat.le_refl _) (Nat.le_refl _) ⟨⟨k,by omega,rfl⟩,w2,by show 2≤4;decide,fun y hy=>?_⟩⟩
  ·rw [show(addI S [It.fn (wordL (cellOf ns 7) (k:Int)) [("a",.num 2),("b",g)] (.num 3)]).items=S.items++[It.fn (wordL (cellOf ns 7) (k:Int)) [("a",.num 2),("b",g)] (.num 3)] from rfl,runF_app,hy41]
   refine(st_fn (norms_two (norm_num (by decide)) g41) (norm_num (by decide)) w2).trans ?_
   show _=FR.ok S.own (S.funs.take S.funs.length++(wordL (cellOf ns 7) (k:Int),([Kd.num 2,g],Kd.num 3))::S.funs.drop S.funs.length)
   rw [ins_end]
  ·rcases List.mem_cons.mp hy with e|hy
   ·rw [e]
    exact bn
   ·exact two_of (p:=fun y=>Kd.ok y∧y.leaves.length≤21) bn bw y hy
 ·refine⟨h.items (by show 1≤2;decide) (one_of ⟨of,by show 1≤4;decide,one_of num_itk,gi⟩),_,_,rfl,.big (run_late hy40 (st_fnN2 (ks:=[.num 2]) (by rw [List.map_cons,List.map_nil,norms_one,norm_num (by decide)]) g40)) ?_ (Nat.le_refl _) (Nat.le_refl _) ⟨⟨k,by omega,rfl⟩,w2,by show 1≤4;decide,fun y hy=>?_⟩⟩
  ·rw [show(addI S [It.fn (wordL (cellOf ns 7) (k:Int)) [("a",.num 2)] g]).items=S.items++[It.fn (wordL (cellOf ns 7) (k:Int)) [("a",.num 2)] g] from rfl,runF_app,hy41]
   refine(st_fn (ps:=[("a",.num 2)]) (ks:=[.num 2]) (by rw [List.map_cons,List.map_nil,norms_one,norm_num (by decide)]) g41 w2).trans ?_
   show _=FR.ok S.own (S.funs.take S.funs.length++(wordL (cellOf ns 7) (k:Int),([Kd.num 2],g))::S.funs.drop S.funs.length)
   rw [ins_end]
  ·rcases List.mem_cons.mp hy with e|hy
   ·rw [e]
    exact bw
   ·rw [List.mem_singleton.mp hy]
    exact bn
set_option maxHeartbeats 2000000 in
theorem late_run(h:IV ns kr k S)(kf:KF ns kr)(hk:k < 15)(hy:∀parts M,Ext kr parts→40≤M→runF parts M S.items=.ok S.own S.funs){d:Nat}{its:List It}{more:Parts}(hl:Lt kr S (wordL (cellOf ns 4) (k:Int)) (wordL (cellOf ns 7) (k:Int)) (wordL (cellOf ns 1) 5) d its more) :
  IV ns kr (k+1) (addI S its)∧∃it rest,its=it::rest∧RI ns kr (k+1) (addI S its) d more (some (it,S.own.length,S.funs.length)):=by
 have w1:=h.new1 kf hk
 have w2:=h.new2 kf hk
 have ow:=wL_ok (cellOf ns 4) (k:Int)
 have of:=wL_ok (cellOf ns 7) (k:Int)
 have op:=wL_ok (cellOf ns 1) 5
 have hy40:=hy kr 40 (ext_self kf) (by decide)
 have hy41:=hy kr 41 (ext_self kf) (by decide)
 have pk:PaOk (kr++[]):=by rw [List.append_nil];exact kf.paok
 have pn:(List.map (fun(q:Str × (Rows1 × Rows2))=>q.1) (kr++[])).Nodup:=by rw [List.append_nil];exact kf.nd
 have bad0:∀{d:Nat} {it:It} {rest:List It},d≤2→stepF kr 40 S.own S.funs it=.ref d→RI ns kr (k+1) (addI S (it::rest)) d [] (some (it,S.own.length,S.funs.length)):=fun hd hs=>.bad hd (by rw [List.append_nil];exact run_late hy40 hs) pk pn
 have no2:∀{x:Kd},(∃n∈Kd.names x,tl S.own kr n=none)→norm (tl S.own kr) 40 x=.no 2:=fun e=>norm_2 e
 have lk:=look_none kf.nop
 have mem1:∀{old:Str},old∈S.own.map (·.1)→okW old:=fun hm=>by
  obtain⟨q,hq,rfl⟩:=List.mem_map.mp hm
  exact(h.ok1 q hq).1
 have mem2:∀{old:Str},old∈S.funs.map (·.1)→okW old:=fun hm=>by
  obtain⟨q,hq,rfl⟩:=List.mem_map.mp hm
  exact(h.ok2 q hq).1
 have itk3:ItOk (.kind (wordL (cellOf ns 4) (k:Int)) (.num 3)):=⟨ow,num_itk⟩
 have hself:tl S.own kr ("",wordL (cellOf ns 4) (k:Int))=none:=tl_own w1
 have okabc:okW "a"∧okW "b"∧okW "x":=⟨⟨by decide +kernel,by decide +kernel⟩,⟨by decide +kernel,by decide +kernel⟩,⟨by decide +kernel,by decide +kernel⟩⟩
 cases hl with
 |early1 =>
  refine⟨h.items (by show 2≤2;decide) (two_of ⟨of,by show 1≤4;decide,one_of (name_itk ok_empty ow),num_itk⟩ itk3),_,_,rfl,bad0 (by decide) ?_⟩
  unfold stepF
  simp only [List.map_cons,List.map_nil,norms,no2 (x:=.name "" (wordL (cellOf ns 4) (k:Int))) ⟨_,List.mem_singleton.mpr rfl,hself⟩]
 |early2 =>
  refine⟨h.items (by show 2≤2;decide) (two_of ⟨of,by show 2≤4;decide,two_of num_itk ⟨⟨⟨ok_empty,ow⟩,by trivial⟩,by show 2≤21;decide,.inl (by show 2≤3;decide)⟩,num_itk⟩ itk3),_,_,rfl,bad0 (by decide) ?_⟩
  unfold stepF
  simp only [List.map_cons,List.map_nil,norms,norm_num (T:=tl S.own kr) (M:=40) (n:=2) (by decide),no2 (x:=.pair (.name "" (wordL (cellOf ns 4) (k:Int))) (.num 3)) ⟨_,List.mem_append_left _ (List.mem_singleton.mpr rfl),hself⟩]
 |early3 =>
  refine⟨h.items (by show 2≤2;decide) (two_of ⟨of,by show 0≤4;decide,(fun q hq=>nomatch hq),name_itk ok_empty ow⟩ itk3),_,_,rfl,bad0 (by decide) ?_⟩
  unfold stepF
  simp only [List.map_nil,norms,no2 (x:=.name "" (wordL (cellOf ns 4) (k:Int))) ⟨_,List.mem_singleton.mpr rfl,hself⟩]
 |@clash1 old hm =>
  have ne:wordL (cellOf ns 4) (k:Int)≠old:=fun e=>w1 (by rw [e];exact hm)
  refine⟨h.items (by show 1≤2;decide) (one_of op),_,_,rfl,.bad (by decide) (run_late (hy _ 40 (ext_more kf) (by decide)) ?_) (paok_app kf.paok (one_of ⟨two_of ⟨ow,one_kb⟩ ⟨mem1 hm,one_kb⟩,(fun q hq=>nomatch hq),by show 2≤2;decide,by show 0≤2;decide,?_,List.nodup_nil,op⟩)) (nd_app kf.nd (List.nodup_cons.mpr ⟨(fun h=>nomatch h),List.nodup_nil⟩) (one_of kf.nop))⟩
  ·rw [openR_is]
   unfold openR
   rw [look_app,lk]
   have e:look [(wordL (cellOf ns 1) 5,(([(wordL (cellOf ns 4) (k:Int),Kd.num 4),(old,Kd.num 5)]:Rows1),([]:Rows2)))] (wordL (cellOf ns 1) 5)=some ([(wordL (cellOf ns 4) (k:Int),Kd.num 4),(old,Kd.num 5)],[]):=by
    exact look_one
   rw [e]
   have e2:addAll S.own [(wordL (cellOf ns 4) (k:Int),Kd.num 4),(old,Kd.num 5)]=none:=by
    unfold addAll
    rw [if_neg w1]
    unfold addAll
    rw [if_pos (by rw [List.map_append];exact List.mem_append_left _ hm)]
   show(match addAll S.own [(wordL (cellOf ns 4) (k:Int),Kd.num 4),(old,Kd.num 5)] with
    |none=>FR.ref 0
    |some n1=>_)=_
   rw [e2]
  ·show [wordL (cellOf ns 4) (k:Int),old].Nodup
   exact List.nodup_cons.mpr ⟨fun h=>ne (List.mem_singleton.mp h),List.nodup_cons.mpr ⟨(fun h=>nomatch h),List.nodup_nil⟩⟩
 |@clash2 old hm =>
  refine⟨h.items (by show 1≤2;decide) (one_of op),_,_,rfl,.bad (by decide) (run_late (hy _ 40 (ext_more kf) (by decide)) ?_) (paok_app kf.paok (one_of ⟨one_of ⟨ow,one_kb⟩,one_of ⟨mem2 hm,by show 0≤4;decide,one_of one_kb⟩,by show 1≤2;decide,by show 1≤2;decide,List.nodup_cons.mpr ⟨(fun h=>nomatch h),List.nodup_nil⟩,List.nodup_cons.mpr ⟨(fun h=>nomatch h),List.nodup_nil⟩,op⟩)) (nd_app kf.nd (List.nodup_cons.mpr ⟨(fun h=>nomatch h),List.nodup_nil⟩) (one_of kf.nop))⟩
  rw [openR_is]
  unfold openR
  rw [look_app,lk]
  have e:look [(wordL (cellOf ns 1) 5,(([(wordL (cellOf ns 4) (k:Int),Kd.num 4)]:Rows1),([(old,([],Kd.num 5))]:Rows2)))] (wordL (cellOf ns 1) 5)=some ([(wordL (cellOf ns 4) (k:Int),Kd.num 4)],[(old,([],Kd.num 5))]):=by
   exact look_one
  rw [e]
  have e2:addAll S.own [(wordL (cellOf ns 4) (k:Int),Kd.num 4)]=some (S.own++[(wordL (cellOf ns 4) (k:Int),Kd.num 4)]):=by
   rw [addAll_one,if_neg w1]
  have e3:addAll S.funs [(old,(([]:List Kd),Kd.num 5))]=none:=by
   rw [addAll_one,if_pos hm]
  show(match addAll S.own [(wordL (cellOf ns 4) (k:Int),Kd.num 4)] with
   |none=>FR.ref 0
   |some n1=>match addAll S.funs [(old,(([]:List Kd),Kd.num 5))] with
    |none=>FR.ref 0
    |some n2=>.ok n1 n2)=_
  rw [e2,e3]
 |wrong hw =>
  cases hw with
  |@own old n hm =>
   refine⟨h.items (by show 1≤2;decide) (one_of ⟨mem1 hm,num_itk⟩),_,_,rfl,bad0 (by decide) ?_⟩
   unfold stepF
   simp only [norm_num (T:=tl S.own kr) (M:=40) (n:=n) (by decide)]
   exact if_pos hm
  |@fn old hm =>
   refine⟨h.items (by show 1≤2;decide) (one_of ⟨mem2 hm,by show 0≤4;decide,(fun q hq=>nomatch hq),num_itk⟩),_,_,rfl,bad0 (by decide) ?_⟩
   unfold stepF
   simp only [List.map_nil,norms,norm_num (T:=tl S.own kr) (M:=40) (n:=2) (by decide)]
   exact if_pos hm
  |@opn p r hp ho hpos =>
   refine⟨h.items (by show 1≤2;decide) (one_of (kf.pw _ hp).2.1),_,_,rfl,bad0 (by decide) ?_⟩
   rw [openR_is]
   unfold openR
   rw [show look kr p=some r from ext_self kf (p,r) hp]
   obtain⟨i1,i2⟩:=h.inn (p,r) hp ho
   obtain⟨r1,r2⟩:=r
   cases r1 with
   |cons q1 r1 =>
    have e:addAll S.own (q1::r1)=none:=by
     unfold addAll
     exact if_pos (i1 q1.1 (List.mem_cons_self ..))
    show(match addAll S.own (q1::r1) with
     |none=>FR.ref 0
     |some n1=>_)=_
    rw [e]
   |nil =>
    cases r2 with
    |nil=>exact absurd hpos (Nat.lt_irrefl 0)
    |cons q2 r2 =>
     have e:addAll S.funs (q2::r2)=none:=by
      unfold addAll
      exact if_pos (i2 q2.1 (List.mem_cons_self ..))
     show(match addAll S.funs (q2::r2) with
      |none=>FR.ref 0
      |some n2=>FR.ok S.own n2)=_
     rw [e]
  |nopart =>
   refine⟨h.items (by show 1≤2;decide) (one_of op),_,_,rfl,bad0 (by decide) ?_⟩
   rw [openR_is]
   unfold openR
   rw [lk]
  |self =>
   refine⟨h.items (by show 1≤2;decide) (one_of ⟨ow,⟨by trivial,ok_empty,ow⟩,by show 2≤21;decide,.inl (by show 2≤3;decide)⟩),_,_,rfl,bad0 (by decide) ?_⟩
   unfold stepF
   simp only [no2 (x:=.pair (.num 2) (.name "" (wordL (cellOf ns 4) (k:Int)))) ⟨_,List.mem_append_right _ (List.mem_singleton.mpr rfl),hself⟩]
  |@arg p r rest e =>
   have hp:(p,r)∈kr:=by rw [e];exact List.mem_cons_self ..
   refine⟨h.items (by show 1≤2;decide) (one_of ⟨of,by show 1≤4;decide,one_of (name_itk (kf.pw _ hp).2.1 ow),num_itk⟩),_,_,rfl,bad0 (by decide) ?_⟩
   have hn:tl S.own kr (p,wordL (cellOf ns 4) (k:Int))=none:=by
    unfold tl tell
    rw [if_neg (kf.pw _ hp).1]
    unfold PGof
    rw [show look kr p=some r from ext_self kf (p,r) hp]
    exact look_none fun hm=>kf.w1 _ hp _ hm k hk rfl
   unfold stepF
   simp only [List.map_cons,List.map_nil,norms,no2 (x:=.name p (wordL (cellOf ns 4) (k:Int))) ⟨_,List.mem_singleton.mpr rfl,hn⟩]
  |ans =>
   refine⟨h.items (by show 1≤2;decide) (one_of ⟨of,by show 0≤4;decide,(fun q hq=>nomatch hq),name_itk op ow⟩),_,_,rfl,bad0 (by decide) ?_⟩
   have hn:tl S.own kr (wordL (cellOf ns 1) 5,wordL (cellOf ns 4) (k:Int))=none:=by
    unfold tl tell
    rw [if_neg (wL_empty _ _)]
    unfold PGof
    rw [lk]
    rfl
   unfold stepF
   simp only [List.map_nil,norms,no2 (x:=.name (wordL (cellOf ns 1) 5) (wordL (cellOf ns 4) (k:Int))) ⟨_,List.mem_singleton.mpr rfl,hn⟩]
  |big1=>exact big_run h kf hk hy40 hy41 (greatK 20) great_itk norm_great40 norm_great41 (.inl rfl)
  |big2=>exact big_run h kf hk hy40 hy41 (greatK 20) great_itk norm_great40 norm_great41 (.inr (.inl rfl))
  |big3=>exact big_run h kf hk hy40 hy41 (greatK 20) great_itk norm_great40 norm_great41 (.inr (.inr rfl))
end
end K41
namespace K41
open PySem L2 Kk
theorem set_d{X:Cx}(hu:X.A.units+1 < cLine):PSet X (fun o i v H Q=>∃a H',o=.ref a∧DPut H a i v H'∧Q H'):=by
 intro pins s σ H x y v ov iv u Q I r1 r2 r3 h
 obtain⟨a,H',rfl,hp,q⟩:=h
 cases r1
 exact d_setItem hu I hp r2 r3 fun s' I'=>⟨H',I',q⟩
def inG(G:Str × Str→Option Kd)(q:Str × (Rows1 × Rows2)):Str × Str→Option Kd:=q.2.1.foldl (fun G r=>putG G (q.1,r.1) r.2) G
theorem in_ne{p:Str}{n:Str × Str}(h:n.1≠p):∀(r:Rows1) (G:Str × Str→Option Kd),r.foldl (fun G r=>putG G (p,r.1) r.2) G n=G n
 |[],G=>rfl
 |q::r,G=>by
  rw [List.foldl_cons,in_ne h r]
  exact if_neg fun e=>h (by rw [e])
theorem in_eq{p z:Str}:∀(r m:Rows1) (G:Str × Str→Option Kd),(∀z,G (p,z)=look m z)→(r.map (·.1)).Nodup→(∀z∈r.map (·.1),z∉m.map (·.1))→r.foldl (fun G r=>putG G (p,r.1) r.2) G (p,z)=look (m++r) z
 |[],m,G,hG,_,_=>by
  rw [List.append_nil]
  exact hG z
 |(y,x)::r,m,G,hG,hn,hd=>by
  obtain⟨h1,h2⟩:=List.nodup_cons.mp (show(y::r.map (·.1)).Nodup from hn)
  have hy:=hd y (List.mem_cons_self ..)
  rw [List.foldl_cons,show m++(y,x)::r=(m++[(y,x)])++r by rw [List.append_assoc];rfl]
  refine in_eq r (m++[(y,x)]) _ (fun z=>?_) h2 fun z hz hm=>?_
  ·rw [look_snoc hy]
   show(if (p,z)=(p,y) then some x else G (p,z))=_
   by_cases e:z=y
   ·rw [if_pos e,if_pos (by rw [e])]
   ·rw [if_neg e,if_neg (fun e'=>e (by injection e')),hG z]
  ·rw [List.map_append] at hm
   rcases List.mem_append.mp hm with hm|hm
   ·exact hd z (List.mem_cons_of_mem _ hz) hm
   ·have e:z=y:=List.mem_singleton.mp hm
    exact h1 (by rw [←e];exact hz)
def gvK(kr:Parts):Str × Str→Option Kd:=kr.foldl inG fun _=>none
theorem gv_tl{ns:List Int}{kr:Parts}(kf:KF ns kr)(n:Str × Str):gvK kr n=tl [] kr n:=by
 obtain⟨q0,q1,rfl⟩:∃q0 q1,kr=[q0,q1]:=by
  have h:=kf.ln
  match kr,h with
  |[a,b],_=>exact⟨a,b,rfl⟩
 have hq0:q0∈[q0,q1]:=List.mem_cons_self ..
 have hq1:q1∈[q0,q1]:=List.mem_cons_of_mem _ (List.mem_singleton.mpr rfl)
 have ne:q0.1≠q1.1:=fun e=>by
  have:=(List.nodup_cons.mp (show [q0.1,q1.1].Nodup from kf.nd)).1
  exact this (by rw [e];exact List.mem_singleton.mpr rfl)
 have eL:∀{q:Str × (Rows1 × Rows2)},q∈[q0,q1]→n.1=q.1→tl [] [q0,q1] n=look q.2.1 n.2:=fun {q} hq e=>by
  unfold tl tell
  rw [if_neg (by rw [e];exact(kf.pw q hq).1)]
  unfold PGof
  rw [show look [q0,q1] n.1=some q.2 by rw [e];exact ext_self kf q hq]
  rfl
 show inG (inG (fun _=>none) q0) q1 n=_
 by_cases e1:n.1=q1.1
 ·rw [eL hq1 e1]
  obtain⟨n1,n2⟩:=n
  replace e1:n1=q1.1:=e1
  subst e1
  have:=in_eq (p:=q1.1) (z:=n2) q1.2.1 [] (inG (fun _=>none) q0) (fun z=>in_ne (show(q1.1,z).1≠q0.1 from Ne.symm ne) _ _) (kf.n1 q1 hq1) (fun z _ hm=>nomatch hm)
  exact this
 ·unfold inG
  rw [in_ne e1]
  by_cases e0:n.1=q0.1
  ·rw [eL hq0 e0]
   obtain⟨n1,n2⟩:=n
   replace e0:n1=q0.1:=e0
   subst e0
   exact in_eq (p:=q0.1) (z:=n2) q0.2.1 [] (fun _=>none) (fun z=>rfl) (kf.n1 q0 hq0) (fun z _ hm=>nomatch hm)
  ·rw [in_ne e0]
   unfold tl tell
   by_cases e:n.1=""
   ·rw [if_pos e]
    rfl
   ·rw [if_neg e]
    unfold PGof
    rw [look_none (m:=[q0,q1]) fun hm=>?_]
    ·rfl
    ·rcases List.mem_cons.mp hm with h|h
     ·exact e0 h
     ·exact e1 (List.mem_singleton.mp h)
theorem iv0{ns:List Int}{kr:Parts}(kf:KF ns kr):IV ns kr 0 ⟨[],[],[],gvK kr,[]⟩ :=
 ⟨gv_tl kf,(fun q hq=>nomatch hq),(fun q hq=>nomatch hq),List.nodup_nil,List.nodup_nil,(fun q hq=>nomatch hq),(fun q hq=>nomatch hq),(fun q hq=>nomatch hq),List.nodup_nil,(fun r hr h=>nomatch h),Nat.le_refl _,Nat.le_refl _,Nat.le_refl _,(fun q hq=>nomatch hq)⟩
theorem ri0{ns:List Int}{kr:Parts}{G:Str × Str→Option Kd}:RI ns kr 0 ⟨[],[],[],G,[]⟩ 9 [] none:=.yet fun _ _ _ _=>rfl
structure Ex(K:PySem.W.Frag)(H:Hp)(gkv:List (Key × V))(d:Nat)(more:Parts)(wi:Option (It × Nat × Nat)):Prop where
 du:valV gkv (.inr "due")=some (.int (d:Int))
 mo:∃ml,valV gkv (.inr "more")=some (.ref ml)∧KnAt K H ml more
 wr:∀it i j,wi=some (it,i,j)→∃v at_,valV gkv (.inr "wrong")=some v∧ItAt K H v it∧valV gkv (.inr "at")=some (.ref at_)∧SqT K H at_ [.int ((i:Nat):Int),.int ((j:Nat):Int)]
 ln:(wi=none→gkv.length≤10)∧gkv.length≤30∧more.length≤1
theorem Ex.same{K:PySem.W.Frag}{H H':Hp}{gkv:List (Key × V)}{d:Nat}{more:Parts}{wi:Option (It × Nat × Nat)}(h:Ex K H gkv d more wi)(e:Same H H'):Ex K H' gkv d more wi:=by
 refine⟨h.du,?_,fun it i j hw=>?_,h.ln⟩
 ·obtain⟨ml,h1,h2⟩:=h.mo
  exact⟨ml,h1,h2.same e⟩
 ·obtain⟨v,at_,h1,h2,h3,h4⟩:=h.wr it i j hw
  exact⟨v,at_,h1,h2.same e,h3,e.tup h4⟩
structure St(K:PySem.W.Frag)(ns:List Int)(kr:Parts)(H:Hp)(A:GA)(k:Nat)(gkv:List (Key × V))(S:LS)(N:Nat)(d:Nat)(more:Parts)(wi:Option (It × Nat × Nat)):Prop where
 got:GotAt K H A gkv S N
 nle:N≤4+k+S.ops.length
 iv:IV ns kr k S
 ri:RI ns kr k S d more wi
 ex:Ex K (off H A) gkv d more wi
def spItems(K:PySem.W.Frag):Sp:=fun vs H Q _=>∃(a:Addr) (ns:List Int) (kn:Addr) (kr:Parts),vs=[.ref a,.ref kn]∧SqL K H a (ns.map V.int)∧ns.length≤63∧KnAt K H kn kr∧KF ns kr ∧
 ∀(H':Hp) (A:GA) (k:Nat) (gkv:List (Key × V)) (S:LS) (N:Nat) (d:Nat) (more:Parts) (wi:Option (It × Nat × Nat)),Same H H'→Fr H A→k≤15→St K ns kr H' A k gkv S N d more wi→Q (.ref A.g) H'
abbrev itN:List Str:=["_law_script","_law_known_here","_law_got","_law_part","_law_kinds","_law_funs","_law_word_here","_law_kind_here","_law_head","_law_many","_law_k","_law_words","_law_some","_law_cell_here"]
abbrev itP:List Str:=["_law_script","_law_known_here"]
theorem IV.idle{ns:List Int}{kr:Parts}{k:Nat}{S:LS}(h:IV ns kr k S):IV ns kr (k+1) S:=by
 have:=h.items (its:=[]) (by decide) (fun i hi=>nomatch hi)
 have e:addI S []=S:=by
  show LS.mk (S.items++[]) S.own S.funs S.G S.ops=S
  rw [List.append_nil]
 rw [e] at this
 exact this
theorem RI.idle{ns:List Int}{kr:Parts}{k:Nat}{S:LS}{d:Nat}{more:Parts}{wi:Option (It × Nat × Nat)}(h:RI ns kr k S d more wi):RI ns kr (k+1) S d more wi:=by
 cases h with
 |yet h=>exact .yet h
 |bad a b c d=>exact .bad a b c d
 |@big it i j a b c d e =>
  refine .big a b c d ?_
  cases it with
  |kind w x =>
   obtain⟨⟨jw,hjw,ew⟩,r⟩:=e
   exact⟨⟨jw,by omega,ew⟩,r⟩
  |fn w ps x =>
   obtain⟨⟨jw,hjw,ew⟩,r⟩:=e
   exact⟨⟨jw,by omega,ew⟩,r⟩
  |opn p=>exact e
section
variable{P:Program}{w:World}{K:PySem.W.Frag}{mg:Str→Option Value}{base:Heap}
theorem scItems:FnScope itN itP (defScope sItems):=⟨rfl,rfl,rfl,by decide +kernel,rfl,by decide +kernel,by decide +kernel⟩
set_option maxHeartbeats 0 in
theorem it4{f fc fw fl fo fa:Addr}{fdc fdw fdl fdo fda:FuncData}
  (GC:FnOk P w K mg base CX0 1 fc fdc ["_law_script","_law_k"] (spCellX K)) (bC:Binds K fdc ["_law_script","_law_k"] []) (kC:PySem.W.keepIn K (.ref fc)=true) (mC:mg "_law_cell"=some (.ref fc))
  (GW:FnOk P w K mg base CX0 1 fw fdw wlP spWordL) (bW:Binds K fdw wlP []) (kW:PySem.W.keepIn K (.ref fw)=true) (mW:mg "_law_word"=some (.ref fw))
  (GL:FnOk P w K mg base CX0 3 fl fdl ltP (spLate K)) (bL:Binds K fdl ltP []) (kL:PySem.W.keepIn K (.ref fl)=true) (mL:mg "_law_late"=some (.ref fl))
  (GO:FnOk P w K mg base CX0 1 fo fdo opP (spOpenL K)) (bO:Binds K fdo opP []) (kO:PySem.W.keepIn K (.ref fo)=true) (mO:mg "_law_open"=some (.ref fo))
  (GA':FnOk P w K mg base CX0 65 fa fda adP (spAddL K)) (bA:Binds K fda adP []) (kA:PySem.W.keepIn K (.ref fa)=true) (mA:mg "_law_add"=some (.ref fa))
  (mr:mg "range"=none) (ml':mg "len"=none)
  {cdv:Value} {A:Around} {outer:List Env} {s:Shared} {H:Hp} {E:XK} (hr:Room 65 (A.deeper (PyProof.Rows.envOfC "_law_items" (defScope sItems) s.heap.objs.size f cdv))) :
  ∃t,PS (cxOf CX0 P w K mg base itN "_law_items" (defScope sItems) f cdv A outer s H E).nox ((defBody sItems).getD 4 (.Pass ⟨0,0,0,0⟩)) t ∧
   ∀(D:Ends) (H1:Hp) (a kn:Addr) (ns:List Int) (kr:Parts) (B:GA) (gkv:List (Key × V)) (N:Nat) (head:Int) (many:Nat) (y3 y4 y5 y6 y7:Option V),SqL K H a (ns.map V.int)→ns.length≤63→KnAt K H kn kr→KF ns kr→Same H H1→Fr H B→many≤14→St K ns kr H1 B 0 gkv ⟨[],[],[],gvK kr,[]⟩ N 9 [] none →
    (∀(H':Hp) (k:Nat) (gkv:List (Key × V)) (S:LS) (N:Nat) (d:Nat) (more:Parts) (wi:Option (It × Nat × Nat)) (z3 z4 z5 z6 z7 z10 z11 z12 z13:Option V),Same H H'→k≤15→St K ns kr H' B k gkv S N d more wi→D.nx [some (.ref a),some (.ref kn),some (.ref B.g),z3,z4,z5,z6,z7,some (.int head),some (.int (many:Int)),z10,z11,z12,z13] H') →
    t D [some (.ref a),some (.ref kn),some (.ref B.g),y3,y4,y5,y6,y7,some (.int head),some (.int (many:Int)),none,none,none,none] H1:=by
 have hu:=hu_of hr
 have hr1:Room 1 _:=hr.mono (by decide)
 have hr3:Room 3 _:=hr.mono (by decide)
 refine⟨_,ps_for PassesOwn.never rfl (pi_range1 rfl mr (@pa_cons _ _ _ _ _ (pe_op op_add (pv 9) pe_int) pa_nil rfl)) (pg_name (i:=10) scItems.nd rfl (Or.inl rfl))
   (@pss_cons _ _ _ _ _ (ps_set (i:=11) scItems.nd rfl (Or.inl rfl) (@pe_tup _ _ _ _ _ (@pa_cons _ _ _ _ _ (pe_call GW hr1 rfl mW kW bW .nil pass0 (@pa_cons _ _ _ _ _ (pe_call GC hr1 rfl mC kC bC .nil pass0 (@pa_cons _ _ _ _ _ (pv 0) (@pa_cons _ _ _ _ _ pe_int pa_nil rfl) rfl)) (@pa_cons _ _ _ _ _ (pv 10) pa_nil rfl) rfl)) (@pa_cons _ _ _ _ _ (pe_call GW hr1 rfl mW kW bW .nil pass0 (@pa_cons _ _ _ _ _ (pe_call GC hr1 rfl mC kC bC .nil pass0 (@pa_cons _ _ _ _ _ (pv 0) (@pa_cons _ _ _ _ _ pe_int pa_nil rfl) rfl)) (@pa_cons _ _ _ _ _ (pv 10) pa_nil rfl) rfl)) pa_nil rfl) rfl)))
   (@pss_one _ _ _ (ps_if (PW.pt (pw_and (pt_cmpR op_eq (pe_op op_mod (pv 8) pe_int) pe_int (nomark _)) (pw_and1 (pt_cmpR op_eq (pv 10) (pe_op op_mod (pe_op op_fdiv (pv 8) pe_int) (pe_op op_add (pv 9) pe_int)) (nomark _)))))
    (@pss_cons _ _ _ _ _ (ps_set (i:=11) scItems.nd rfl (Or.inl rfl) (pe_op op_catT (pv 11) (@pe_tup _ _ _ _ _ (@pa_cons _ _ _ _ _ (pe_call GW hr1 rfl mW kW bW .nil pass0 (@pa_cons _ _ _ _ _ (pe_call GC hr1 rfl mC kC bC .nil pass0 (@pa_cons _ _ _ _ _ (pv 0) (@pa_cons _ _ _ _ _ pe_int pa_nil rfl) rfl)) (@pa_cons _ _ _ _ _ pe_int pa_nil rfl) rfl)) pa_nil rfl))))
    (@pss_cons _ _ _ _ _ (ps_asg (pe_call GL hr3 rfl mL kL bL .nil pass0 (@pa_cons _ _ _ _ _ (pe_call GC hr1 rfl mC kC bC .nil pass0 (@pa_cons _ _ _ _ _ (pv 0) (@pa_cons _ _ _ _ _ pe_int pa_nil rfl) rfl)) (@pa_cons _ _ _ _ _ (pv 11) (@pa_cons _ _ _ _ _ (pv 1) (@pa_cons _ _ _ _ _ (pv 2) pa_nil rfl) rfl) rfl) rfl)) (pg_tup rfl (pgs_cons (pg_sub (pv 2) pe_str (set_d hu)) (pgs_cons (pg_name (i:=12) scItems.nd rfl (Or.inl rfl)) pgs_nil))))
    (@pss_cons _ _ _ _ _ (ps_expr (pe_bm PySem.F.plainAttrs_list PySem.F.slot_list_extend PySem.F.type_list_extend mt_extend (pe_dget hu (pv 2) pe_str (fun _ _=>rfl)) (@pa_cons _ _ _ _ _ (pv 12) pa_nil rfl)))
    (@pss_cons _ _ _ _ _ (ps_dput hu (pv 2) pe_str (pe_ix ix_list (pv 12) pe_int (fun _ _=>rfl)) rfl)
    (@pss_one _ _ _ (ps_dput hu (pv 2) pe_str (@pe_tup _ _ _ _ _ (@pa_cons _ _ _ _ _ (pe_callB call_len_seq rfl ml' PySem.boot_len (@pa_cons _ _ _ _ _ (pe_dget hu (pv 2) pe_str (fun _ _=>rfl)) pa_nil rfl)) (@pa_cons _ _ _ _ _ (pe_callB call_len_seq rfl ml' PySem.boot_len (@pa_cons _ _ _ _ _ (pe_dget hu (pv 2) pe_str (fun _ _=>rfl)) pa_nil rfl)) pa_nil rfl) rfl)) rfl))))))
    (@pss_one _ _ _ (ps_if (pt_cmpR op_lt (pv 10) (pv 9) (nomark _))
     (@pss_cons _ _ _ _ _ (ps_set (i:=13) scItems.nd rfl (Or.inl rfl) (pe_call GC hr1 rfl mC kC bC .nil pass0 (@pa_cons _ _ _ _ _ (pv 0) (@pa_cons _ _ _ _ _ (pe_op op_add pe_int (pv 10)) pa_nil rfl) rfl)))
     (@pss_one _ _ _ (ps_if (PW.pt (pw_and (pt_cmpR op_lt (pe_op op_mod (pv 13) pe_int) pe_int (nomark _)) (pw_and1 (pt_cmpR op_notIn_seq (pe_ix ix_tup (pe_ix ix_list (pv 1) (pe_op op_mod (pv 13) pe_int) (fun _ _=>rfl)) pe_int (fun _ _=>rfl)) (pe_dget hu (pv 2) pe_str (fun _ _=>rfl)) (by with_unfolding_all rfl)))))
      (@pss_one _ _ _ (ps_expr (pe_call GO hr1 rfl mO kO bO .nil pass0 (@pa_cons _ _ _ _ _ (pe_ix ix_list (pv 1) (pe_op op_mod (pv 13) pe_int) (fun _ _=>rfl)) (@pa_cons _ _ _ _ _ (pv 2) pa_nil rfl) rfl))))
      (@pss_one _ _ _ (ps_expr (pe_call GA' hr rfl mA kA bA .nil pass0 (@pa_cons _ _ _ _ _ (pe_op op_fdiv (pv 13) pe_int) (@pa_cons _ _ _ _ _ (pe_ix ix_tup (pv 11) pe_int (fun _ _=>rfl)) (@pa_cons _ _ _ _ _ (pe_ix ix_tup (pv 11) pe_int (fun _ _=>rfl)) (@pa_cons _ _ _ _ _ (pv 2) pa_nil rfl) rfl) rfl) rfl))))))) pss_nil))))),?_⟩
 intro D H1 a kn ns kr B gkv0 N0 head many y3 y4 y5 y6 y7 hA h63 hkn kf sH1 frB hmany st0 qD
 have cl:∀{H':Hp},Same H H'→SqL K H' a (ns.map V.int):=fun e=>sql_same e hA
 have big:∀{n:Nat},n≤999→n < sizeLine:=fun h=>Nat.lt_of_lt_of_le (Nat.lt_succ_self _) (small (by omega))
 have kx:=kf.ln
 refine⟨_,rfl,_,_,rfl,rfl,_,rfl,by omega,by omega,?_⟩
 refine for_range (fun i σ H2=>∃(z10 z11 z12 z13:Option V) (gkv:List (Key × V)) (S:LS) (N d:Nat) (more:Parts) (wi:Option (It × Nat × Nat)),σ=[some (.ref a),some (.ref kn),some (.ref B.g),y3,y4,y5,y6,y7,some (.int head),some (.int (many:Int)),z10,z11,z12,z13]∧Same H H2∧St K ns kr H2 B i gkv S N d more wi∧((i:Int)≤head / 2%((many:Int)+1)→wi=none))
  ⟨none,none,none,none,gkv0,_,N0,9,[],none,rfl,sH1,st0,fun _=>rfl⟩ ?_ ?_
 ·rintro i σ H2 hi ⟨z10,z11,z12,z13,gkv,S,N,d,more,wi,rfl,s2,st,hwi⟩
  rw [Int.zero_add]
  have hi15:i < 15:=by omega
  refine⟨_,rfl,a,ns,4,rfl,cl s2,h63,by decide,by decide,fun c4 hc4=>⟨_,rfl,c4,(i:Int),rfl,fun H3 s3=>?_⟩⟩
  subst hc4
  refine⟨_,rfl,a,ns,7,rfl,cl (s2.trans s3),h63,by decide,by decide,fun c7 hc7=>⟨_,rfl,c7,(i:Int),rfl,fun H4 s4=>⟨(by show 2≤sizeLine;decide),fun pw hpw=>?_⟩⟩⟩
  subst hc7
  have t5:=same_new hpw (.tup [.str (wordL (cellOf ns 4) (i:Int)),.str (wordL (cellOf ns 7) (i:Int))])
  have s25:=s3.trans (s4.trans t5)
  have hw5:upd H4 pw (.tup [.str (wordL (cellOf ns 4) (i:Int)),.str (wordL (cellOf ns 7) (i:Int))]) pw=some (.tup [.str (wordL (cellOf ns 4) (i:Int)),.str (wordL (cellOf ns 7) (i:Int))]):=upd_same
  revert s25 hw5
  generalize upd H4 pw (.tup [.str (wordL (cellOf ns 4) (i:Int)),.str (wordL (cellOf ns 7) (i:Int))])=H5
  intro s25 hw5
  clear t5 hpw
  have s5:=s2.trans s25
  obtain⟨ix,ox,fx,dkv,FG⟩:=st.got
  have F5:=FG.same s25
  have ex5:=st.ex.same (off_mono s25)
  have o2:=st.iv.ops2 kf
  have l1:=st.iv.l1
  have l2:=st.iv.l2
  have l3:=st.iv.l3
  have nle:=st.nle
  have s0off:Same H (off H5 B):=off_from s5 frB
  have fine:=st.iv.fine kf
  have finA:∀(H':Hp) (S':LS) (z12' z13':Option V),Same (off H5 B) H'→GotAt K H' B gkv S' (N+1)→AddS S (wordL (cellOf ns 4) (i:Int)) (wordL (cellOf ns 7) (i:Int)) S'→(((i:Nat):Int)+1≤head / 2%((many:Int)+1)→wi=none)→∃(z10 z11 z12 z13:Option V) (gkv:List (Key × V)) (S:LS) (N d:Nat) (more:Parts) (wi:Option (It × Nat × Nat)),[some (.ref a),some (.ref kn),some (.ref B.g),y3,y4,y5,y6,y7,some (.int head),some (.int (many:Int)),some (.int (i:Int)),some (.ref pw),z12',z13']=[some (.ref a),some (.ref kn),some (.ref B.g),y3,y4,y5,y6,y7,some (.int head),some (.int (many:Int)),z10,z11,z12,z13]∧Same H H'∧St K ns kr H' B (i+1) gkv S N d more wi∧(((i+1:Nat):Int)≤head / 2%((many:Int)+1)→wi=none):=by
   intro H' S' z12' z13' s' G' hadd hw
   obtain⟨iv',ri'⟩:=step_add_run st.iv kf hi15 st.ri hadd
   have eo:S'.ops=S.ops:=by
    rcases hadd with ⟨_,_,rfl⟩|⟨_,_,_,_,_,rfl⟩<;>rfl
   exact⟨_,_,_,_,gkv,S',N+1,d,more,wi,rfl,s0off.trans s',⟨G',by rw [eo];omega,iv',ri',ex5.same (off_from s' off_fr)⟩,fun h=>hw (by omega)⟩
  have p1:(0:Int) < (many:Int)+1:=by omega
  refine⟨_,rfl,_,_,rfl,rfl,(by show(0:Int) < 2;decide),rfl,_,rfl,ite2 (fun _=>⟨_,rfl,_,rfl,_,_,rfl,rfl,⟨by decide,by decide⟩,_,rfl,_,_,rfl,rfl,_,_,rfl,rfl,p1,rfl,_,rfl,ite2 (fun c2=>?_) (fun _=>?_)⟩) (fun _=>iteF ?_)⟩
  ·have c2':(i:Int)=head / 2%((many:Int)+1):=by
    have:=of_decide_eq_true c2
    injection this
   have hw0:wi=none:=hwi (by omega)
   subst hw0
   obtain⟨ml,hmo,hml⟩:=ex5.mo
   cases hri:st.ri with
   |yet hyet =>
    refine⟨_,rfl,_,rfl,a,ns,1,rfl,cl s5,h63,by decide,by decide,fun c1 hc1=>⟨c1,5,rfl,fun H6 s6=>⟨(by show 1≤sizeLine;decide),fun p6 hp6=>?_⟩⟩⟩
    subst hc1
    have t6:=same_new hp6 (.tup [.str (wordL (cellOf ns 1) 5)])
    have s56:=s6.trans t6
    refine⟨pw,p6,_,_,rfl,rfl,SqT.of (s56 _ _ hw5),SqT.of upd_same,(fun e=>by cases e),(by show 2+1≤sizeLine;decide),(fun e=>by cases e),fun _ p7 hp7=>?_⟩
    have t7:=same_new hp7 (.tup ([.str (wordL (cellOf ns 4) (i:Int)),.str (wordL (cellOf ns 7) (i:Int))]++[.str (wordL (cellOf ns 1) 5)]))
    have s57:=s56.trans t7
    have hw7:upd (upd H6 p6 (.tup [.str (wordL (cellOf ns 1) 5)])) p7 (.tup ([.str (wordL (cellOf ns 4) (i:Int)),.str (wordL (cellOf ns 7) (i:Int))]++[.str (wordL (cellOf ns 1) 5)])) p7=some (.tup [.str (wordL (cellOf ns 4) (i:Int)),.str (wordL (cellOf ns 7) (i:Int)),.str (wordL (cellOf ns 1) 5)]):=upd_same
    revert s57 hw7
    generalize upd (upd H6 p6 (.tup [.str (wordL (cellOf ns 1) 5)])) p7 (.tup ([.str (wordL (cellOf ns 4) (i:Int)),.str (wordL (cellOf ns 7) (i:Int))]++[.str (wordL (cellOf ns 1) 5)]))=H7
    intro s57 hw7
    have F7:=F5.same s57
    have s7:=s5.trans s57
    have s7off:Same H (off H7 B):=off_from s7 frB
    have hln:=ex5.ln.1 rfl
    refine⟨_,rfl,a,ns,8,rfl,cl s7,h63,by decide,by decide,fun c8 hc8=>⟨_,rfl,_,rfl,_,rfl,off H7 B,c8,p7,_,_,_,kn,kr,B,gkv,S,N,ml,rfl,off_le,off_fr,F7.offT (SqT.of hw7),hkn.same s7off,kx,⟨_,_,_,_,F7⟩,by omega,by omega,by omega,hmo,hml.same (off_mono s57),?_⟩⟩
    intro H8 tt sl us gkv' ml2 d8 its more8 s8 G8 gk ht hsl hus hkm hlt
    obtain⟨iv8,it,rest,rfl,ri8⟩:=late_run st.iv kf hi15 hyet hlt
    obtain⟨jx,px,qx,dk8,F8⟩:=G8
    have o8l:=Paired.length F8.po
    have f8l:=Paired.length F8.pf
    have i8l:=Paired.length F8.pi
    have usl:=Paired.length hus
    have d0:((d8:Nat):Int)=(d8:Int):=rfl
    have itl:(it::rest).length≤2:=by
     cases hlt<;>exact Nat.le_of_ble_eq_true rfl
    have mrl:more8.length≤1:=by
     cases hlt<;>exact Nat.le_of_ble_eq_true rfl
    have glen:gkv'.length≤40:=by have:=gk.le;omega
    refine⟨tt,_,rfl,SqT.of ht,rfl,_,_,rfl,_,rfl,B.g,_,rfl,DPut.k (k:=.inr "due") F8.hg (big (by omega)),_,_,rfl,rfl,?_⟩
    have F9:=F8.putD (k:="due") (.int (d8:Int)) (by decide +kernel) (by decide +kernel) (by decide +kernel) (by decide +kernel) (by decide +kernel)
    have e9:off (upd H8 B.g (.dK (putK gkv' (.inr "due") (.int (d8:Int))))) B=off H8 B:=off_upd (.inl rfl)
    have hus9:Paired (ItAt K (upd H8 B.g (.dK (putK gkv' (.inr "due") (.int (d8:Int)))))) us (it::rest):=Paired.mapP hus fun _ _ t=>t.keep fun _ _ t=>sqt_dk F8.hg t
    revert F9 e9 hus9
    generalize upd H8 B.g (.dK (putK gkv' (.inr "due") (.int (d8:Int))))=H9
    intro F9 e9 hus9
    have hsl9:H9 sl=some (.lst us):=off_le _ _ (by rw [e9];exact hsl)
    have slo:¬InA B sl:=(off_fr (H:=H8) (A:=B)).out hsl
    refine⟨_,rfl,B.g,.ref B.il,rfl,F9.vi▸DGet.k (k:=.inr "items") F9.hg,.inl ⟨rfl,_,SqL.of F9.hi⟩,_,rfl,B.il,sl,_,_,rfl,rfl,F9.hi,hsl9,small (by omega),?_⟩
    have F10:=F9.addI hus9
    have e10:off (upd H9 B.il (.lst (jx++us))) B=off H8 B:=(off_upd (.inr (.inl rfl))).trans e9
    have hus10:Paired (ItAt K (upd H9 B.il (.lst (jx++us)))) us (it::rest):=Paired.mapP hus9 fun _ _ t=>t.keep fun _ _ t=>sqt_upd F9.hi t
    revert F10 e10 hus10
    generalize upd H9 B.il (.lst (jx++us))=H10
    intro F10 e10 hus10
    have hsl10:H10 sl=some (.lst us):=off_le _ _ (by rw [e10];exact hsl)
    obtain⟨v,us',rfl,hv⟩:∃v us',us=v::us'∧ItAt K H10 v it:=by
     cases hus10 with
     |cons a b=>exact⟨_,_,rfl,a⟩
    have l10:=length_putK gkv' (.inr "due") (V.int (d8:Int))
    refine⟨_,rfl,sl,_,_,v,rfl,rfl,SqL.of hsl10,atI_nat (j:=0) rfl,_,rfl,B.g,_,rfl,DPut.k (k:=.inr "wrong") F10.hg (big (by omega)),?_⟩
    have F11:=F10.putD (k:="wrong") v (by decide +kernel) (by decide +kernel) (by decide +kernel) (by decide +kernel) (by decide +kernel)
    have e11:off (upd H10 B.g (.dK (putK (putK gkv' (.inr "due") (.int (d8:Int))) (.inr "wrong") v))) B=off H8 B:=(off_upd (.inl rfl)).trans e10
    have hv11:ItAt K (off H8 B) v it:=by
     have:ItAt K (off H10 B) v it:=hv.keep fun _ _ t=>F10.offT t
     rw [e10] at this
     exact this
    revert F11 e11
    generalize upd H10 B.g (.dK (putK (putK gkv' (.inr "due") (.int (d8:Int))) (.inr "wrong") v))=H11
    intro F11 e11
    have l11:=length_putK (putK gkv' (.inr "due") (V.int (d8:Int))) (.inr "wrong") v
    refine⟨_,rfl,B.g,.ref B.ol,rfl,F11.vo▸DGet.k (k:=.inr "own") F11.hg,B.ol,_,rfl,.inl (SqL.of F11.ho),_,rfl,B.g,.ref B.fl,rfl,F11.vf▸DGet.k (k:=.inr "funs") F11.hg,B.fl,_,rfl,.inl (SqL.of F11.hf),(by show 2≤sizeLine;decide),fun p12 hp12=>?_⟩
    have t12:=same_new hp12 (.tup [.int (px.length:Int),.int (qx.length:Int)])
    have F12:=F11.same t12
    have s12:Same (off H8 B) (off (upd H11 p12 (.tup [.int (px.length:Int),.int (qx.length:Int)])) B):=by
     rw [←e11]
     exact off_mono t12
    have ht12:SqT K (off (upd H11 p12 (.tup [.int (px.length:Int),.int (qx.length:Int)])) B) p12 [.int (px.length:Int),.int (qx.length:Int)]:=F12.offT (SqT.of upd_same)
    revert F12 s12 ht12
    generalize upd H11 p12 (.tup [.int (px.length:Int),.int (qx.length:Int)])=H12
    intro F12 s12 ht12
    refine⟨_,rfl,B.g,_,rfl,DPut.k (k:=.inr "at") F12.hg (big (by omega)),?_⟩
    have F13:=F12.putD (k:="at") (.ref p12) (by decide +kernel) (by decide +kernel) (by decide +kernel) (by decide +kernel) (by decide +kernel)
    have l13:=length_putK (putK (putK gkv' (.inr "due") (V.int (d8:Int))) (.inr "wrong") v) (.inr "at") (V.ref p12)
    have e13:off (upd H12 B.g (.dK (putK (putK (putK gkv' (.inr "due") (.int (d8:Int))) (.inr "wrong") v) (.inr "at") (.ref p12)))) B=off H12 B:=off_upd (.inl rfl)
    have nm:∀{x y:Str} {o:Option V} {z:V},x≠y→(if x=y then some z else o)=o:=fun h=>if_neg h
    refine⟨_,_,_,_,_,addI S (it::rest),N,d8,more8,some (it,S.own.length,S.funs.length),rfl,?_,⟨⟨_,_,_,_,F13⟩,by show N≤4+(i+1)+S.ops.length;omega,iv8,ri8,?_⟩,fun h=>by omega⟩
    ·exact(s7off.trans (off_from s8 off_fr)).trans (s12.trans (by rw [←e13];exact off_le))
    ·rw [e13]
     refine⟨?_,⟨ml2,?_,hkm.same s12⟩,fun it' i' j' e=>?_,⟨(fun e=>by cases e),by have:=gk.le;omega,mrl⟩⟩
     ·rw [val_put,nm (by decide +kernel),val_put,nm (by decide +kernel),val_put,if_pos rfl]
     ·rw [val_put,nm (by decide +kernel),val_put,nm (by decide +kernel),val_put,nm (by decide +kernel)]
      exact gk.mo
     ·obtain⟨rfl,rfl,rfl⟩:it=it'∧S.own.length=i'∧S.funs.length=j':=by
       injection e with e
       injection e with e1 e2
       injection e2 with e2 e3
       exact⟨e1,e2,e3⟩
      refine⟨v,p12,?_,hv11.same s12,?_,?_⟩
      ·rw [val_put,nm (by decide +kernel),val_put,if_pos rfl]
      ·rw [val_put,if_pos rfl]
      ·rw [←o8l,←f8l]
       exact ht12
  all_goals
   refine⟨_,rfl,_,rfl,_,_,rfl,rfl,_,rfl,ite2 (fun c3=>?_) (fun c3=>?_)⟩
  all_goals first
   |exact⟨_,_,_,_,gkv,S,N,d,more,wi,rfl,s5,⟨⟨_,_,_,_,F5⟩,by omega,st.iv.idle,st.ri.idle,ex5⟩,fun h=>hwi (by omega)⟩
   |skip
  all_goals
   have c3':(i:Int) < (many:Int):=of_decide_eq_true c3
   refine⟨_,rfl,_,rfl,_,_,rfl,rfl,a,ns,9+(i:Int),rfl,cl s5,h63,by omega,by omega,fun c hc=>?_⟩
   obtain⟨ts,hkl,hts⟩:=hkn.same s0off
   have hkl5:=off_le _ _ hkl
   have tl2:=Paired.length hts
   have r0:=Int.emod_nonneg c (show(7:Int)≠0 by decide)
   refine⟨_,rfl,_,_,rfl,rfl,(by show(0:Int) < 7;decide),_,_,rfl,rfl,_,rfl,ite2 (fun c4=>?_) (fun c4=>iteF ?_)⟩
  all_goals first
   |exact⟨_,rfl,_,_,rfl,rfl,⟨by decide,by decide⟩,_,rfl,pw,_,_,_,rfl,rfl,SqT.of hw5,(show atI [V.str (wordL (cellOf ns 4) (i:Int)),.str (wordL (cellOf ns 7) (i:Int))] 0=some (.str (wordL (cellOf ns 4) (i:Int))) from rfl),_,rfl,pw,_,_,_,rfl,rfl,SqT.of hw5,(show atI [V.str (wordL (cellOf ns 4) (i:Int)),.str (wordL (cellOf ns 7) (i:Int))] 1=some (.str (wordL (cellOf ns 7) (i:Int))) from rfl),_,rfl,off H5 B,c / 7,_,_,B,gkv,S,N,rfl,off_le,off_fr,⟨_,_,_,_,F5⟩,by omega,by omega,by omega,by omega,by omega,fine,fun H' S' s' G' ha=>finA H' S' _ _ s' G' ha (fun h=>hwi (by omega))⟩
   |skip
  all_goals
   have c4':c%7 < 2:=of_decide_eq_true c4
   obtain⟨v,hv⟩:=at_ex (xs:=ts) (i:=c%7) r0 (by omega)
   obtain⟨jj,_,hj⟩:=Option.bind_eq_some_iff.mp (show((ixN ts.length (c%7)).bind fun j=>ts[j]?)=some v from hv)
   obtain⟨qq,hq,tt,k1,k2,rfl,htt,hk1,hk2⟩:=pair_get hts hj
   have htt5:=off_le _ _ htt
   have hqm:=List.mem_of_getElem? hq
   refine⟨_,rfl,_,rfl,_,_,rfl,rfl,(by show(0:Int) < 7;decide),kn,_,_,_,rfl,rfl,SqL.of hkl5,hv,tt,_,_,_,rfl,rfl,SqT.of htt5,(show atI [V.str qq.1,.ref k1,.ref k2] 0=some (.str qq.1) from rfl),_,rfl,B.g,.ref B.pl,rfl,F5.vp▸DGet.k (k:=.inr "opened") F5.hg,B.pl,_,rfl,.inl (SqL.of F5.hp),rfl,flat_strs _,_,rfl,ite2 (fun c5=>?_) (fun c5=>?_)⟩
  all_goals first
   |exact⟨_,rfl,_,_,rfl,rfl,⟨by decide,by decide⟩,_,rfl,pw,_,_,_,rfl,rfl,SqT.of hw5,(show atI [V.str (wordL (cellOf ns 4) (i:Int)),.str (wordL (cellOf ns 7) (i:Int))] 0=some (.str (wordL (cellOf ns 4) (i:Int))) from rfl),_,rfl,pw,_,_,_,rfl,rfl,SqT.of hw5,(show atI [V.str (wordL (cellOf ns 4) (i:Int)),.str (wordL (cellOf ns 7) (i:Int))] 1=some (.str (wordL (cellOf ns 7) (i:Int))) from rfl),_,rfl,off H5 B,c / 7,_,_,B,gkv,S,N,rfl,off_le,off_fr,⟨_,_,_,_,F5⟩,by omega,by omega,by omega,by omega,by omega,fine,fun H' S' s' G' ha=>finA H' S' _ _ s' G' ha (fun h=>hwi (by omega))⟩
   |skip
  all_goals
   have hp:qq.1∉S.ops:=fun hm=>by
    have c5':(!inV (V.str qq.1) (S.ops.map V.str))=true:=c5
    rw [inV_str.mpr hm] at c5'
    cases c5'
   obtain⟨iv',ri'⟩:=step_open_run st.iv kf hi15 st.ri hqm hp
   refine⟨_,rfl,_,rfl,_,_,rfl,rfl,(by show(0:Int) < 7;decide),kn,_,_,_,rfl,rfl,SqL.of hkl5,hv,_,rfl,off H5 B,tt,k1,k2,qq.1,qq.2.1,qq.2.2,B,gkv,S,N,rfl,off_le,off_fr,htt,hk1,hk2,kf.l1 qq hqm,kf.l2 qq hqm,⟨_,_,_,_,F5⟩,by omega,by omega,by omega,by omega,by omega,fun H' s' G'=>?_⟩
   exact⟨_,_,_,_,gkv,openS S qq.1 qq.2.1 qq.2.2,N+2,d,more,wi,rfl,s0off.trans s',⟨G',(by show N+2≤4+(i+1)+(S.ops++[qq.1]).length;rw [List.length_append,List.length_singleton];omega),iv',ri',ex5.same (off_from s' off_fr)⟩,fun h=>hwi (by omega)⟩
 ·rintro σ H2 ⟨z10,z11,z12,z13,gkv,S,N,d,more,wi,rfl,s2,st,_⟩
  exact qD H2 _ gkv S N d more wi _ _ _ _ _ _ _ _ _ s2 (by omega) st
end
end K41
namespace K41
open PySem L2 Kk
section
variable{P:Program}{w:World}{K:PySem.W.Frag}{mg:Str→Option Value}{base:Heap}
theorem swD{ks:List (Option Expr)}{vs:List Expr}{pos:Pos}{o:Option Expr}{n:Nat}{env:Env}:swapsWith (.Dict ks vs pos) o n env=pure false:=rfl
theorem pe_l0{X:Cx}{pos:Pos}:PE X (.List [] pos) (tLst tNil):=pe_lst pa_nil
theorem pe_d0{X:Cx}{pos:Pos}:PE X (.Dict [] [] pos) tDNewT:=pe_dnewT
theorem pe_t2{X:Cx}{i j:Int}{b7 b8 k7:Nat}{r1 r2 q7:Pos}:PE X (.Tuple [.Constant (.int i) b7 r1,.Constant (.int j) b8 r2] k7 q7) (tTup (tCons (tC (.int i)) (tCons (tC (.int j)) tNil))):=pe_tup (pa_cons pe_int (pa_cons pe_int pa_nil))
theorem pe_got{X:Cx}{s1 s2 s3 s4 s5 s6 s7 s8:Str}{a1 a2 a3 a4 a5 a6 a7 a8:Nat}{p1 p2 p3 p4 p5 p6 p7 p8 q1 q2 q3 q4 q5 q6 q7 q8 r1 r2 pos:Pos}{d i j:Int}{b6 b7 b8 k7:Nat}:PE X (.Dict [some (.Constant (.str s1) a1 p1),some (.Constant (.str s2) a2 p2),some (.Constant (.str s3) a3 p3),some (.Constant (.str s4) a4 p4),some (.Constant (.str s5) a5 p5),some (.Constant (.str s6) a6 p6),some (.Constant (.str s7) a7 p7),some (.Constant (.str s8) a8 p8)] [.List [] q1,.List [] q2,.List [] q3,.Dict [] [] q4,.List [] q5,.Constant (.int d) b6 q6,.Tuple [.Constant (.int i) b7 r1,.Constant (.int j) b8 r2] k7 q7,.List [] q8] pos)
  (tDisp [(tC (.str s1),tLst tNil),(tC (.str s2),tLst tNil),(tC (.str s3),tLst tNil),(tC (.str s4),tDNewT),(tC (.str s5),tLst tNil),(tC (.str s6),tC (.int d)),(tC (.str s7),tTup (tCons (tC (.int i)) (tCons (tC (.int j)) tNil))),(tC (.str s8),tLst tNil)]) :=
 @pe_disp _ _ _ _ _ (@pps_cons _ _ _ _ _ _ _ _ _ (@pe_str _ _ _ _) (@pe_l0 _ _) (@pps_cons _ _ _ _ _ _ _ _ _ (@pe_str _ _ _ _) (@pe_l0 _ _) (@pps_cons _ _ _ _ _ _ _ _ _ (@pe_str _ _ _ _) (@pe_l0 _ _) (@pps_cons _ _ _ _ _ _ _ _ _ (@pe_str _ _ _ _) (@pe_d0 _ _) (@pps_cons _ _ _ _ _ _ _ _ _ (@pe_str _ _ _ _) (@pe_l0 _ _) (@pps_cons _ _ _ _ _ _ _ _ _ (@pe_str _ _ _ _) (@pe_int _ _ _ _) (@pps_cons _ _ _ _ _ _ _ _ _ (@pe_str _ _ _ _) (@pe_t2 _ _ _ _ _ _ _ _ _) (@pps_cons _ _ _ _ _ _ _ _ _ (@pe_str _ _ _ _) (@pe_l0 _ _) (@pps_nil _ _))))))))) rfl rfl (fun e=>nomatch e) (Nat.le_of_ble_eq_true rfl)
set_option maxHeartbeats 0 in
theorem ok_items{f fc fw fl fo fa:Addr}{fd fdc fdw fdl fdo fda:FuncData} (F:Fun K "_law_items" "_law_items" sItems f fd)
  (GC:FnOk P w K mg base CX0 1 fc fdc ["_law_script","_law_k"] (spCellX K)) (bC:Binds K fdc ["_law_script","_law_k"] []) (kC:PySem.W.keepIn K (.ref fc)=true) (mC:mg "_law_cell"=some (.ref fc))
  (GW:FnOk P w K mg base CX0 1 fw fdw wlP spWordL) (bW:Binds K fdw wlP []) (kW:PySem.W.keepIn K (.ref fw)=true) (mW:mg "_law_word"=some (.ref fw))
  (GL:FnOk P w K mg base CX0 3 fl fdl ltP (spLate K)) (bL:Binds K fdl ltP []) (kL:PySem.W.keepIn K (.ref fl)=true) (mL:mg "_law_late"=some (.ref fl))
  (GO:FnOk P w K mg base CX0 1 fo fdo opP (spOpenL K)) (bO:Binds K fdo opP []) (kO:PySem.W.keepIn K (.ref fo)=true) (mO:mg "_law_open"=some (.ref fo))
  (GA':FnOk P w K mg base CX0 65 fa fda adP (spAddL K)) (bA:Binds K fda adP []) (kA:PySem.W.keepIn K (.ref fa)=true) (mA:mg "_law_add"=some (.ref fa))
  (mr:mg "range"=none) (ml':mg "len"=none) (mi:mg "min"=none):FnOk P w K mg base CX0 66 f fd itP (spItems K):=by
 refine F.ok scItems (fun vs H Q E h=>?_) (fun cdv A outer s H vs Q E hr h=>?_)
 ·obtain⟨a,ns,kn,kr,rfl,_⟩:=h
  rfl
 obtain⟨a,ns,kn,kr,rfl,hA,h63,hkn,kf,q⟩:=h
 have hu:=hu_of hr
 have hr1:Room 1 _:=hr.mono (by decide)
 obtain⟨t4,e4,k4⟩:=it4 (f:=f) (outer:=outer) (H:=H) (E:=E) GC bC kC mC GW bW kW mW GL bL kL mL GO bO kO mO GA' bA kA mA mr ml' hr
 have big:∀{n:Nat},n≤999→n < sizeLine:=fun h=>Nat.lt_of_lt_of_le (Nat.lt_succ_self _) (small (by omega))
 refine⟨_,@pss_cons _ _ _ _ _ (@ps_set _ _ 2 _ _ _ _ scItems.nd rfl (Or.inl rfl) (@pe_got _ _ _ _ _ _ _ _ _ _ _ _ _ _ _ _ _ _ _ _ _ _ _ _ _ _ _ _ _ _ _ _ _ _ _ _ _ _ _ _ _ _ _) swD (Or.inl rfl))
  (@pss_cons _ _ _ _ _ (ps_for PassesOwn.never rfl (pi_list (pv 1)) (pg_tup rfl (pgs_cons (pg_name (i:=3) scItems.nd rfl (Or.inl rfl)) (pgs_cons (pg_name (i:=4) scItems.nd rfl (Or.inl rfl)) (pgs_cons (pg_name (i:=5) scItems.nd rfl (Or.inl rfl)) pgs_nil))))
   (@pss_one _ _ _ (ps_for PassesOwn.never rfl (pi_list (pv 4)) (pg_tup rfl (pgs_cons (pg_name (i:=6) scItems.nd rfl (Or.inl rfl)) (pgs_cons (pg_name (i:=7) scItems.nd rfl (Or.inl rfl)) pgs_nil)))
    (@pss_one _ _ _ (ps_dput hu (pe_dget hu (pv 2) pe_str (fun _ _=>rfl)) (@pe_tup _ _ _ _ _ (@pa_cons _ _ _ _ _ (pv 3) (@pa_cons _ _ _ _ _ (pv 6) pa_nil rfl) rfl)) (pv 7) rfl)))))
  (@pss_cons _ _ _ _ _ (ps_set (i:=8) scItems.nd rfl (Or.inl rfl) (pe_call GC hr1 rfl mC kC bC .nil pass0 (@pa_cons _ _ _ _ _ (pv 0) (@pa_cons _ _ _ _ _ pe_int pa_nil rfl) rfl)))
  (@pss_cons _ _ _ _ _ (ps_set (i:=9) scItems.nd rfl (Or.inl rfl) (pe_callB (call_min2 rfl) rfl mi (by decide +kernel) (@pa_cons _ _ _ _ _ pe_int (@pa_cons _ _ _ _ _ (pe_callB call_len_seq rfl ml' PySem.boot_len (@pa_cons _ _ _ _ _ (pe_slice sl_list (pv 0) (po_some pe_int) po_none) pa_nil rfl)) pa_nil rfl) rfl)))
  (@pss_cons _ _ _ _ _ e4 (@pss_one _ _ _ (@ps_ret _ _ _ _ (pv 2))))))),?_⟩
 intro g hg
 have e0:=same_new hg (.dK [])
 refine⟨(by show 0≤sizeLine;decide),fun il hil=>⟨(by show 0≤sizeLine;decide),fun ol hol=>⟨(by show 0≤sizeLine;decide),fun fl' hfl=>?_⟩⟩⟩
 have e1:=same_new hil (.lst [])
 have e2:=same_new hol (.lst [])
 have e3:=same_new hfl (.lst [])
 intro gd hgd
 have e4':=same_new hgd (.dT [])
 refine⟨(by show 0≤sizeLine;decide),fun pl hpl=>⟨(by show 2≤sizeLine;decide),fun at_ hat=>⟨(by show 0≤sizeLine;decide),fun ml hml=>?_⟩⟩⟩
 have e5:=same_new hpl (.lst [])
 have e6:=same_new hat (.tup [.int 0,.int 0])
 have e7:=same_new hml (.lst [])
 have f6:=e6.trans e7
 have f5:=e5.trans f6
 have f4:=e4'.trans f5
 have f3:=e3.trans f4
 have f2:=e2.trans f3
 have f1:=e1.trans f2
 have f0:=e0.trans f1
 let B:GA:=⟨g,il,ol,fl',gd,pl⟩
 have frB:Fr H B:=⟨hg,e0.free hil,(e0.trans e1).free hol,(e0.trans (e1.trans e2)).free hfl,(e0.trans (e1.trans (e2.trans e3))).free hgd,(e0.trans (e1.trans (e2.trans (e3.trans e4')))).free hpl⟩
 have n1:il≠ol:=fun e=>by rw [←e,upd_same] at hol;cases hol
 have n2:il≠fl':=fun e=>by rw [←e,e2 _ _ upd_same] at hfl;cases hfl
 have n4:ol≠fl':=fun e=>by rw [←e,upd_same] at hfl;cases hfl
 have n3:il≠pl:=fun e=>by rw [←e,(e2.trans (e3.trans e4')) _ _ upd_same] at hpl;cases hpl
 have n5:ol≠pl:=fun e=>by rw [←e,(e3.trans e4') _ _ upd_same] at hpl;cases hpl
 have n6:fl'≠pl:=fun e=>by rw [←e,e4' _ _ upd_same] at hpl;cases hpl
 have mo:¬InA B ml:=fun c=>by
  have h7:=f1 _ _ (upd_same (H:=H) (a:=g) (o:=.dK []))
  rcases c with e|e|e|e|e|e
  ·rw [show ml=g from e,(e1.trans (e2.trans (e3.trans (e4'.trans (e5.trans e6))))) _ _ (upd_same (H:=H) (a:=g) (o:=.dK []))] at hml;cases hml
  ·rw [show ml=il from e,(e2.trans (e3.trans (e4'.trans (e5.trans e6)))) _ _ upd_same] at hml;cases hml
  ·rw [show ml=ol from e,(e3.trans (e4'.trans (e5.trans e6))) _ _ upd_same] at hml;cases hml
  ·rw [show ml=fl' from e,(e4'.trans (e5.trans e6)) _ _ upd_same] at hml;cases hml
  ·rw [show ml=gd from e,(e5.trans e6) _ _ upd_same] at hml;cases hml
  ·rw [show ml=pl from e,e6 _ _ upd_same] at hml;cases hml
 refine⟨f1 _ _ upd_same,[(.inr "items",.ref il),(.inr "own",.ref ol),(.inr "funs",.ref fl'),(.inr "given",.ref gd),(.inr "opened",.ref pl),(.inr "due",.int 9),(.inr "at",.ref at_),(.inr "more",.ref ml)],rfl,(by show 8≤15;decide),?_⟩
 have hgl:=length_mergeK [(.inr "items",V.ref il),(.inr "own",.ref ol),(.inr "funs",.ref fl'),(.inr "given",.ref gd),(.inr "opened",.ref pl),(.inr "due",.int 9),(.inr "at",.ref at_),(.inr "more",.ref ml)] []
 have hv:∀z:Str,valV (mergeK [] [(.inr "items",V.ref il),(.inr "own",.ref ol),(.inr "funs",.ref fl'),(.inr "given",.ref gd),(.inr "opened",.ref pl),(.inr "due",.int 9),(.inr "at",.ref at_),(.inr "more",.ref ml)]) (.inr z)=if "more"=z then some (.ref ml) else if "at"=z then some (.ref at_) else if "due"=z then some (.int 9) else if "opened"=z then some (.ref pl) else if "given"=z then some (.ref gd) else if "funs"=z then some (.ref fl') else if "own"=z then some (.ref ol) else if "items"=z then some (.ref il) else none:=fun z=>by
  unfold mergeK
  simp only [List.foldl_cons,List.foldl_nil,val_put]
  rfl
 have hgl8:(mergeK [] [(.inr "items",V.ref il),(.inr "own",.ref ol),(.inr "funs",.ref fl'),(.inr "given",.ref gd),(.inr "opened",.ref pl),(.inr "due",.int 9),(.inr "at",.ref at_),(.inr "more",.ref ml)]).length≤8:=hgl
 clear hgl
 generalize mergeK [] [(.inr "items",V.ref il),(.inr "own",.ref ol),(.inr "funs",.ref fl'),(.inr "given",.ref gd),(.inr "opened",.ref pl),(.inr "due",.int 9),(.inr "at",.ref at_),(.inr "more",.ref ml)]=gkv at hv hgl8 ⊢
 have nm:∀{x y:Str} {o:Option V} {z:V},x≠y→(if x=y then some z else o)=o:=fun h=>if_neg h
 have h7g:=f1 _ _ (upd_same (H:=H) (a:=g) (o:=.dK []))
 have ot:∀{b:Addr} {u:HO},b≠g→upd (upd (upd (upd (upd (upd (upd (upd H g (.dK [])) il (.lst [])) ol (.lst [])) fl' (.lst [])) gd (.dT [])) pl (.lst [])) at_ (.tup [.int 0,.int 0])) ml (.lst []) b=some u→upd (upd (upd (upd (upd (upd (upd (upd (upd H g (.dK [])) il (.lst [])) ol (.lst [])) fl' (.lst [])) gd (.dT [])) pl (.lst [])) at_ (.tup [.int 0,.int 0])) ml (.lst [])) g (.dK gkv) b=some u:=fun h e=>by rw [upd_ne h];exact e
 have gl:∀{b:Addr} {zz:List V},upd (upd (upd (upd (upd (upd (upd (upd H g (.dK [])) il (.lst [])) ol (.lst [])) fl' (.lst [])) gd (.dT [])) pl (.lst [])) at_ (.tup [.int 0,.int 0])) ml (.lst []) b=some (.lst zz)→b≠g:=fun h e=>by rw [e,h7g] at h;cases h
 have F0:GotA K (upd (upd (upd (upd (upd (upd (upd (upd (upd H g (.dK [])) il (.lst [])) ol (.lst [])) fl' (.lst [])) gd (.dT [])) pl (.lst [])) at_ (.tup [.int 0,.int 0])) ml (.lst [])) g (.dK gkv)) B gkv ⟨[],[],[],gvK (kr.take 0),[]⟩ (2*0) [] [] [] []:=by
  refine⟨upd_same,?_,?_,?_,?_,?_,ot (gl (f2 _ _ upd_same)) (f2 _ _ upd_same),ot (gl (f3 _ _ upd_same)) (f3 _ _ upd_same),ot (gl (f4 _ _ upd_same)) (f4 _ _ upd_same),ot (fun e=>by rw [show gd=g from e,(e1.trans (e2.trans e3)) _ _ (upd_same (H:=H) (a:=g) (o:=.dK []))] at hgd;cases hgd) (f5 _ _ upd_same),ot (gl (f6 _ _ upd_same)) (f6 _ _ upd_same),.nil,.nil,.nil,fun n=>.inl ⟨rfl,rfl⟩,(fun p hp=>nomatch hp),Nat.le_refl _,n1,n2,n3,n4,n5,n6⟩
  ·rw [hv,nm (by decide +kernel),nm (by decide +kernel),nm (by decide +kernel),nm (by decide +kernel),nm (by decide +kernel),nm (by decide +kernel),nm (by decide +kernel),if_pos rfl]
  ·rw [hv,nm (by decide +kernel),nm (by decide +kernel),nm (by decide +kernel),nm (by decide +kernel),nm (by decide +kernel),nm (by decide +kernel),if_pos rfl]
  ·rw [hv,nm (by decide +kernel),nm (by decide +kernel),nm (by decide +kernel),nm (by decide +kernel),nm (by decide +kernel),if_pos rfl]
  ·rw [hv,nm (by decide +kernel),nm (by decide +kernel),nm (by decide +kernel),nm (by decide +kernel),if_pos rfl]
  ·rw [hv,nm (by decide +kernel),nm (by decide +kernel),nm (by decide +kernel),if_pos rfl]
 have X0:Ex K (off (upd (upd (upd (upd (upd (upd (upd (upd (upd H g (.dK [])) il (.lst [])) ol (.lst [])) fl' (.lst [])) gd (.dT [])) pl (.lst [])) at_ (.tup [.int 0,.int 0])) ml (.lst [])) g (.dK gkv)) B) gkv 9 [] none:=by
  refine⟨?_,⟨ml,?_,[],?_,.nil⟩,(fun it i j e=>by cases e),⟨fun _=>by omega,by omega,Nat.zero_le _⟩⟩
  ·rw [hv,nm (by decide +kernel),nm (by decide +kernel),if_pos rfl]
   rfl
  ·rw [hv,if_pos rfl]
  ·rw [off_out mo]
   exact ot (gl upd_same) upd_same
 have s9:Same H (upd (upd (upd (upd (upd (upd (upd (upd (upd H g (.dK [])) il (.lst [])) ol (.lst [])) fl' (.lst [])) gd (.dT [])) pl (.lst [])) at_ (.tup [.int 0,.int 0])) ml (.lst [])) g (.dK gkv)):=sput f0 hg
 revert F0 X0 s9
 generalize upd (upd (upd (upd (upd (upd (upd (upd (upd H g (.dK [])) il (.lst [])) ol (.lst [])) fl' (.lst [])) gd (.dT [])) pl (.lst [])) at_ (.tup [.int 0,.int 0])) ml (.lst [])) g (.dK gkv)=H9
 intro F0 X0 s9
 clear ot gl h7g f0 f1 f2 f3 f4 f5 f6 e0 e1 e2 e3 e4' e5 e6 e7 hml hat hpl hgd hfl hol hil hv mo
 have kx:=kf.ln
 obtain⟨ts,hkl,hts⟩:=hkn
 have tl2:=Paired.length hts
 refine⟨_,rfl,kn,rfl,⟨_,SqL.of (s9 _ _ hkl)⟩,?_⟩
 refine for_list (K:=K) (xs:=ts) (fun i σ H3=>∃(y3 y4 y5 y6 y7:Option V) (dk:List (List Key × V)),σ=[some (.ref a),some (.ref kn),some (.ref g),y3,y4,y5,y6,y7,none,none,none,none,none,none]∧Same H H3∧GotA K H3 B gkv ⟨[],[],[],gvK (kr.take i),[]⟩ (2*i) [] [] [] dk∧Ex K (off H3 B) gkv 9 [] none)
  ⟨none,none,none,none,none,[],rfl,s9,F0,X0⟩ ?_ ?_ ?_
 ·rintro i σ H3 _ ⟨_,_,_,_,_,_,_,s3,_⟩
  exact SqL.of (s3 _ _ hkl)
 ·rintro i y σ H3 hy ⟨y3,y4,y5,y6,y7,dk,rfl,s3,F3,X3⟩
  obtain⟨qq,hq,tt,k1,k2,rfl,htt,⟨rx,hk1,hrx⟩,hk2⟩:=pair_get hts hy
  have hqm:=List.mem_of_getElem? hq
  have rl:=Paired.length hrx
  have hl2:=kf.l1 qq hqm
  have hil':=(List.getElem?_eq_some_iff.mp hy).1
  refine⟨tt,_,rfl,SqT.of (s3 _ _ htt),rfl,_,_,rfl,_,_,rfl,_,_,rfl,rfl,_,rfl,k1,rfl,⟨_,SqL.of (s3 _ _ hk1)⟩,?_⟩
  refine for_list (K:=K) (xs:=rx) (fun j σ H4=>∃(y6 y7:Option V) (dk:List (List Key × V)),σ=[some (.ref a),some (.ref kn),some (.ref g),some (.str qq.1),some (.ref k1),some (.ref k2),y6,y7,none,none,none,none,none,none]∧Same H H4∧GotA K H4 B gkv ⟨[],[],[],(qq.2.1.take j).foldl (fun G r=>putG G (qq.1,r.1) r.2) (gvK (kr.take i)),[]⟩ (2*i+j) [] [] [] dk∧Ex K (off H4 B) gkv 9 [] none)
   ⟨y6,y7,dk,rfl,s3,F3,X3⟩ ?_ ?_ ?_
  ·rintro j σ H4 _ ⟨_,_,_,_,s4,_⟩
   exact SqL.of (s4 _ _ hk1)
  ·rintro j y σ H4 hyj ⟨y6,y7,dk4,rfl,s4,F4,X4⟩
   obtain⟨⟨z,kk⟩,hqz,p,yv,rfl,hp,hyk⟩:=pair_get hrx hyj
   replace hp:H p=some (.tup [.str z,yv]):=hp
   replace hyk:KdAt K H yv kk:=hyk
   have hjl:=(List.getElem?_eq_some_iff.mp hyj).1
   have hdl:=F4.dl
   refine⟨p,_,rfl,SqT.of (s4 _ _ hp),rfl,_,_,rfl,_,_,rfl,rfl,_,rfl,_,rfl,g,.ref gd,rfl,F4.vd▸DGet.k (k:=.inr "given") F4.hg,_,rfl,_,rfl,(by show 2≤sizeLine;decide),fun p2 hp2=>?_⟩
   have t5:=same_new hp2 (.tup [.str qq.1,.str z])
   have F5:=F4.same t5
   have F6:=F5.addG (n:=(qq.1,z)) ((hyk.same s4).same t5)
   refine⟨gd,_,rfl,DPut.t (k:=keyN (qq.1,z)) F5.hd (by rw [upd_same]<;>rfl) (big (by omega)),?_⟩
   refine⟨_,_,putK dk4 (keyN (qq.1,z)) yv,rfl,sput (s4.trans t5) frB.gd,?_,?_⟩
   ·have et:qq.2.1.take (j+1)=qq.2.1.take j++[(z,kk)]:=by rw [List.take_add_one,hqz];rfl
    rw [et,List.foldl_append]
    exact F6
   ·have:off (upd (upd H4 p2 (.tup [.str qq.1,.str z])) gd (.dT (putK dk4 (keyN (qq.1,z)) yv))) B=off (upd H4 p2 (.tup [.str qq.1,.str z])) B:=off_upd (A:=B) (.inr (.inr (.inr (.inr (.inl rfl)))))
    rw [this]
    exact X4.same (off_mono t5)
  ·rintro σ H4 ⟨y6',y7',dk4,rfl,s4,F4,X4⟩
   rw [rl,List.take_length] at F4
   refine⟨_,_,_,_,_,dk4,rfl,s4,?_,X4⟩
   have et:kr.take (i+1)=kr.take i++[qq]:=by rw [List.take_add_one,hq];rfl
   have eg:gvK (kr.take (i+1))=qq.2.1.foldl (fun G r=>putG G (qq.1,r.1) r.2) (gvK (kr.take i)):=by
    unfold gvK
    rw [et,List.foldl_append]
    rfl
   rw [eg]
   exact F4.le (by omega)
 ·rintro σ H3 ⟨y3,y4,y5,y6,y7,dk,rfl,s3,F3,X3⟩
  rw [tl2,List.take_length] at F3
  refine⟨_,rfl,a,ns,0,rfl,sql_same s3 hA,h63,by decide,by decide,fun c hc=>?_⟩
  refine⟨_,rfl,_,rfl,a,_,rfl,sql_same s3 hA,fun pc hpc=>?_⟩
  have tc:=same_new hpc (.lst (cutV (ns.map V.int) (some 9) none))
  refine⟨pc,_,rfl,.inl (SqL.of upd_same),_,_,rfl,?_⟩
  have hmn:∃many:Nat,many≤14∧(if (((cutV (ns.map V.int) (some 9) none).length:Nat):Int) < 14 then (((cutV (ns.map V.int) (some 9) none).length:Nat):Int) else 14)=(many:Int):=by
   by_cases h:(((cutV (ns.map V.int) (some 9) none).length:Nat):Int) < 14
   ·exact⟨(cutV (ns.map V.int) (some 9) none).length,by omega,if_pos h⟩
   ·exact⟨14,Nat.le_refl _,if_neg h⟩
  obtain⟨many,hm14,em⟩:=hmn
  rw [em]
  refine k4 _ _ a kn ns kr B gkv (2*kr.length) c many _ _ _ _ _ hA h63 ⟨ts,hkl,hts⟩ kf (s3.trans tc) frB hm14 ⟨⟨_,_,_,_,F3.same tc⟩,by show 2*kr.length≤4+0+0;omega,iv0 kf,ri0,X3.same (off_mono tc)⟩ fun H' k gkv' S N d more wi z3 z4 z5 z6 z7 z10 z11 z12 z13 s' hk st=>?_
  exact⟨_,rfl,q H' B k gkv' S N d more wi s' frB hk st⟩
end
end K41
namespace K41
open PySem L2 Kk
section
variable{K:PySem.W.Frag}{H H':Hp}{A:GA}{gkv:List (Key × V)}{S:LS}{N:Nat}{ix ox fx:List V}{dkv:List (List Key × V)}
theorem GotA.setO(F:GotA K H A gkv S N ix ox fx dkv){vs:List V}{r:Rows1}(hv:Paired (PrAt K H) vs r):GotA K (upd H A.ol (.lst vs)) A gkv { S with own:=r } N ix vs fx dkv:=by
 have kp:∀{a xs},SqT K H a xs→SqT K (upd H A.ol (.lst vs)) a xs:=fun t=>sqt_upd F.ho t
 exact⟨by rw [upd_ne (ne_dl F.hg F.ho)];exact F.hg,F.vi,F.vo,F.vf,F.vd,F.vp,by rw [upd_ne F.n1];exact F.hi,upd_same,by rw [upd_ne (Ne.symm F.n4)];exact F.hf,by rw [upd_ne (ne_tl F.hd F.ho)];exact F.hd,by rw [upd_ne (Ne.symm F.n5)];exact F.hp,
  Paired.mapP F.pi fun _ _ t=>t.keep fun _ _=>kp,Paired.mapP hv fun _ _ t=>t.upd F.ho,Paired.mapP F.pf fun _ _ t=>t.upd F.ho,F.gv.keepT fun _ _=>kp,F.gk,F.dl,F.n1,F.n2,F.n3,F.n4,F.n5,F.n6⟩
theorem GotA.setF(F:GotA K H A gkv S N ix ox fx dkv){vs:List V}{r:Rows2}(hv:Paired (FrAt K H) vs r):GotA K (upd H A.fl (.lst vs)) A gkv { S with funs:=r } N ix ox vs dkv:=by
 have kp:∀{a xs},SqT K H a xs→SqT K (upd H A.fl (.lst vs)) a xs:=fun t=>sqt_upd F.hf t
 exact⟨by rw [upd_ne (ne_dl F.hg F.hf)];exact F.hg,F.vi,F.vo,F.vf,F.vd,F.vp,by rw [upd_ne F.n2];exact F.hi,by rw [upd_ne F.n4];exact F.ho,upd_same,by rw [upd_ne (ne_tl F.hd F.hf)];exact F.hd,by rw [upd_ne (Ne.symm F.n6)];exact F.hp,
  Paired.mapP F.pi fun _ _ t=>t.keep fun _ _=>kp,Paired.mapP F.po fun _ _ t=>t.upd F.hf,Paired.mapP hv fun _ _ t=>t.upd F.hf,F.gv.keepT fun _ _=>kp,F.gk,F.dl,F.n1,F.n2,F.n3,F.n4,F.n5,F.n6⟩
end
abbrev setI(S:LS)(i j:Nat)(it:It):LS:={ S with own:=(insW S.own S.funs i j it).1,funs:=(insW S.own S.funs i j it).2 }
def NoOpn:It→Prop
 |.kind _ _=>True
 |.fn _ ps _=>ps.length≤4
 |.opn _=>False
def spLetBy(K:PySem.W.Frag):Sp:=fun vs H Q _=>∃(H0:Hp) (A:GA) (gkv:List (Key × V)) (S:LS) (N:Nat) (it:It) (i j:Nat) (v:V) (at_:Addr),vs=[.ref A.g]∧Same H0 H∧Fr H0 A∧GotAt K H A gkv S N∧valV gkv (.inr "wrong")=some v∧ItAt K H0 v it∧valV gkv (.inr "at")=some (.ref at_)∧SqT K H0 at_ [.int ((i:Nat):Int),.int ((j:Nat):Int)] ∧
 i≤S.own.length∧j≤S.funs.length∧S.own.length≤200∧S.funs.length≤200∧NoOpn it∧∀H',Same H0 H'→GotAt K H' A gkv (setI S i j it) N→Q .non H'
abbrev lbN:List Str:=["_law_got","_law_item","_law_first","_law_second"]
section
variable{P:Program}{w:World}{K:PySem.W.Frag}{mg:Str→Option Value}{base:Heap}
theorem scLetBy:FnScope lbN ["_law_got"] (defScope sLetBy):=⟨rfl,rfl,rfl,by decide +kernel,rfl,by decide +kernel,by decide +kernel⟩
set_option maxHeartbeats 0 in
theorem ok_letBy{f:Addr}{fd:FuncData} (F:Fun K "_law_let_by" "_law_let_by" sLetBy f fd) (mt:mg "tuple"=none):FnOk P w K mg base CX0 1 f fd ["_law_got"] (spLetBy K):=by
 refine F.ok scLetBy (fun vs H Q E h=>?_) (fun cdv A outer s H vs Q E hr h=>?_)
 ·obtain⟨H0,A,gkv,S,N,it,i,j,v,at_,rfl,_⟩:=h
  rfl
 obtain⟨H0,B,gkv,S,N,it,i,j,v,at_,rfl,s0,fr,⟨ix,ox,fx,dkv,FG⟩,hw,hit,hat,htt,hi,hj,o2,f2,hno,q⟩:=h
 have hu:=hu_of hr
 have ol:=Paired.length FG.po
 have fl:=Paired.length FG.pf
 have big:∀{n:Nat},n≤999→n < sizeLine:=fun h=>Nat.lt_of_lt_of_le (Nat.lt_succ_self _) (small (by omega))
 refine⟨_,@pss_cons _ _ _ _ _ (ps_set (i:=1) scLetBy.nd rfl (Or.inl rfl) (pe_dget hu (pv 0) pe_str (fun _ _=>rfl)))
  (@pss_cons _ _ _ _ _ (ps_asg (pe_dget hu (pv 0) pe_str (fun _ _=>rfl)) (pg_tup rfl (pgs_cons (pg_name (i:=2) scLetBy.nd rfl (Or.inl rfl)) (pgs_cons (pg_name (i:=3) scLetBy.nd rfl (Or.inl rfl)) pgs_nil))))
  (@pss_one _ _ _ (ps_if (pt_cmpR op_eq (pe_ix ix_tup (pv 1) pe_int (fun _ _=>rfl)) pe_str (nomark _))
   (@pss_one _ _ _ (ps_expr (pe_bm PySem.F.plainAttrs_list PySem.F.slot_list_insert PySem.F.type_list_insert mt_insert (pe_dget hu (pv 0) pe_str (fun _ _=>rfl)) (@pa_cons _ _ _ _ _ (pv 2) (@pa_cons _ _ _ _ _ (@pe_tup _ _ _ _ _ (@pa_cons _ _ _ _ _ (pe_ix ix_tup (pv 1) pe_int (fun _ _=>rfl)) (@pa_cons _ _ _ _ _ (pe_ix ix_tup (pv 1) pe_int (fun _ _=>rfl)) pa_nil rfl) rfl)) pa_nil rfl) rfl))))
   (@pss_one _ _ _ (ps_expr (pe_bm PySem.F.plainAttrs_list PySem.F.slot_list_insert PySem.F.type_list_insert mt_insert (pe_dget hu (pv 0) pe_str (fun _ _=>rfl)) (@pa_cons _ _ _ _ _ (pv 3) (@pa_cons _ _ _ _ _ (@pe_tup _ _ _ _ _ (@pa_cons _ _ _ _ _ (pe_ix ix_tup (pv 1) pe_int (fun _ _=>rfl)) (@pa_cons _ _ _ _ _ (@pe_tup _ _ _ _ _ (@pa_cons _ _ _ _ _ (pe_callTy call_tuple_of rfl mt bootTuple (@pa_cons _ _ _ _ _ (pe_comp (own:=["_law_x","_law_kind_here"]) (caps:=[]) (κ:=[]) (cl:=[]) rfl ⟨rfl,by decide +kernel,by decide +kernel,rfl,rfl,(fun y hy=>nomatch hy),(fun y hy=>nomatch hy)⟩ rfl
     (pi_tup (pe_ix ix_tup (pv 1) pe_int (fun _ _=>rfl))) (fun _ _ _ _=>pg_two (K:=K) (i:=0) (j:=1) rfl rfl (show(["_law_x","_law_kind_here"]:List Str).Nodup from by decide +kernel) rfl (Or.inl rfl) (Or.inr rfl) rfl (Or.inl rfl) (Or.inr rfl)) (fun _ _ _ _=>pv 1)) pa_nil rfl)) (@pa_cons _ _ _ _ _ (pe_ix ix_tup (pv 1) pe_int (fun _ _=>rfl)) pa_nil rfl) rfl)) pa_nil rfl) rfl)) pa_nil rfl) rfl))))))),?_⟩
 refine⟨_,rfl,B.g,v,rfl,hw▸DGet.k (k:=.inr "wrong") FG.hg,?_⟩
 refine⟨_,rfl,B.g,.ref at_,rfl,hat▸DGet.k (k:=.inr "at") FG.hg,at_,_,rfl,s0.tup htt,rfl,_,_,rfl,_,_,rfl,rfl,?_⟩
 cases it with
 |kind z k =>
  obtain⟨p,y,rfl,hp,hy⟩:=hit
  have hp1:=s0.tup hp
  refine⟨_,rfl,_,_,_,_,rfl,rfl,hp1,(show atI [V.str "kind",.str z,y] 0=some (.str "kind") from rfl),rfl,_,rfl,ite2 (fun _=>?_) (fun c=>absurd (by decide +kernel) c)⟩
  refine⟨_,rfl,B.g,.ref B.ol,rfl,FG.vo▸DGet.k (k:=.inr "own") FG.hg,.inl ⟨rfl,_,SqL.of FG.ho⟩,_,rfl,_,rfl,_,_,_,_,rfl,rfl,hp1,(show atI [V.str "kind",.str z,y] 1=some (.str z) from rfl),_,rfl,_,_,_,_,rfl,rfl,hp1,(show atI [V.str "kind",.str z,y] 2=some y from rfl),(by show 2≤sizeLine;decide),fun p1 h1=>?_⟩
  have e1:=same_new h1 (.tup [.str z,y])
  have F1:=FG.same e1
  refine⟨B.ol,i,_,.ref p1,rfl,rfl,F1.ho,by omega,big (by omega),?_⟩
  exact q _ (sput (s0.trans e1) fr.ol) ⟨_,_,_,_,F1.setO (vs:=ox.take i++.ref p1::ox.drop i) (r:=S.own.take i++(z,k)::S.own.drop i) (pappR (ptakeR i F1.po) (.cons ⟨p1,y,rfl,upd_same,(hy.same s0).same e1⟩ (pdropR i F1.po)))⟩
 |fn z ps k =>
  obtain⟨p,ta,y,zz,xs,rfl,hp,hta,hxs,hy⟩:=hit
  have hp1:=s0.tup hp
  have hta1:=s0.tup hta
  have hlen:xs.length=ps.length:=Paired.length hxs
  have hps4:ps.length≤4:=hno
  refine⟨_,rfl,_,_,_,_,rfl,rfl,hp1,(show atI [V.str "fun",.str z,.ref ta,y,zz] 0=some (.str "fun") from rfl),rfl,_,rfl,ite2 (fun c=>absurd c (by decide +kernel)) (fun _=>?_)⟩
  refine⟨_,rfl,B.g,.ref B.fl,rfl,FG.vf▸DGet.k (k:=.inr "funs") FG.hg,.inl ⟨rfl,_,SqL.of FG.hf⟩,_,rfl,_,rfl,_,_,_,_,rfl,rfl,hp1,(show atI [V.str "fun",.str z,.ref ta,y,zz] 1=some (.str z) from rfl),_,rfl,_,_,_,_,rfl,rfl,hp1,(show atI [V.str "fun",.str z,.ref ta,y,zz] 2=some (.ref ta) from rfl),ta,rfl,⟨_,hta1⟩,?_⟩
  refine comp_t hta1 (by omega) (fun n ys H3=>ys.length≤n∧KdsAt K H3 ys ((ps.map (·.2)).take n)) ⟨Nat.le_refl _,.nil⟩ (fun _ _ _ h=>h.1) ?_ ?_
  ·rintro n x ys H2 Nx hNx hx s2 ⟨hyl,hys⟩
   obtain⟨⟨tz,g⟩,hq,p',yk,rfl,hp',hyk⟩:=pair_get hxs hx
   replace hp':SqT K H0 p' [.str tz,yk]:=hp'
   replace hyk:KdAt K H0 yk g:=hyk
   refine⟨p',_,rfl,s2.tup (s0.tup hp'),rfl,_,_,rfl,_,_,rfl,rfl,rfl,tYes_go ⟨_,rfl,hNx _ _ s2 ⟨by rw [List.length_append];show ys.length+1≤n+1;omega,?_⟩⟩⟩
   rw [List.take_add_one,List.getElem?_map,hq]
   exact hys.append (.cons ((hyk.same s0).same s2) .nil)
  rintro ys H2 D s2 ⟨hyl,hys⟩ hD
  rw [hlen,show ps.length=(ps.map (·.2)).length from(List.length_map ..).symm,List.take_length] at hys
  have tD:=same_new hD (.lst ys)
  refine⟨D,ys,rfl,.inl ⟨SqL.of upd_same,fun l hl=>?_⟩⟩
  have tl2:=same_new hl (.tup ys)
  have s3:=s2.trans (tD.trans tl2)
  refine⟨_,rfl,_,_,_,_,rfl,rfl,s3.tup hp1,(show atI [V.str "fun",.str z,.ref ta,y,zz] 3=some y from rfl),(by show 2≤sizeLine;decide),fun p1 h1=>?_⟩
  have e1:=same_new h1 (.tup [.ref l,y])
  refine⟨(by show 2≤sizeLine;decide),fun p2 h2=>?_⟩
  have e2:=same_new h2 (.tup [.str z,.ref p1])
  have e12:=e1.trans e2
  have s4:=s3.trans e12
  have F4:=FG.same s4
  refine⟨B.fl,j,_,.ref p2,rfl,rfl,F4.hf,by omega,big (by omega),?_⟩
  exact q _ (sput (s0.trans s4) fr.fl) ⟨_,_,_,_,F4.setF (vs:=fx.take j++.ref p2::fx.drop j) (r:=S.funs.take j++(z,(ps.map fun(q:Str × Kd)=>q.2,k))::S.funs.drop j) (pappR (ptakeR j F4.pf) (.cons ⟨p2,.ref p1,rfl,upd_same,p1,l,y,ys,rfl,SqT.of (e2 _ _ upd_same),SqT.of (e12 _ _ upd_same),hys.same (tD.trans (tl2.trans e12)),(hy.same s0).same s4⟩ (pdropR j F4.pf)))⟩
 |opn z=>exact hno.elim
end
end K41
namespace K41
open PySem L2 Kk
theorem ald_kd:∀k:Kd,AlD (Kd.depth k+1) (Kd.dat k)
 |.num n=>⟨by show 2≤100;decide,fun d hd=>by
   rcases List.mem_cons.mp hd with rfl|hd
   ·trivial
   ·rw [List.mem_singleton.mp hd];trivial⟩
 |.name q t=>⟨by show 3≤100;decide,fun d hd=>by
   rcases List.mem_cons.mp hd with rfl|hd
   ·trivial
   ·rcases List.mem_cons.mp hd with rfl|hd
    ·trivial
    ·rw [List.mem_singleton.mp hd];trivial⟩
 |.pair a b=>⟨by show 3≤100;decide,fun d hd=>by
   rcases List.mem_cons.mp hd with rfl|hd
   ·exact(show AlD (Kd.depth (.pair a b)) (.str "pair") from(show AlD (0+1) (.str "pair") from trivial).le (depth_pos _))
   ·rcases List.mem_cons.mp hd with rfl|hd
    ·exact(ald_kd a).le (by show _≤1+max _ _;omega)
    ·rw [List.mem_singleton.mp hd]
     exact(ald_kd b).le (by show _≤1+max _ _;omega)⟩
theorem ald_le{k:Kd}(h:k.leaves.length≤30):AlD 40 (Kd.dat k):=(ald_kd k).le (by have:=depth_leaves k;omega)
theorem ald_fnl{f:List Kd × Kd}(hl:f.1.length≤5)(h:∀k∈f.2::f.1,k.leaves.length≤30):AlD 40 (Fn.dat f):=by
 refine⟨by show 2≤100;decide,fun d hd=>?_⟩
 rcases List.mem_cons.mp hd with rfl|hd
 ·refine⟨by rw [List.length_map];omega,fun d hd=>?_⟩
  obtain⟨k,hk,rfl⟩:=List.mem_map.mp hd
  exact(ald_kd k).le (by have:=depth_leaves k;have:=h k (List.mem_cons_of_mem _ hk);show Kd.depth k+1≤38;omega)
 ·rw [List.mem_singleton.mp hd]
  exact(ald_kd _).le (by have:=depth_leaves f.2;have:=h _ (List.mem_cons_self ..);show Kd.depth f.2+1≤39;omega)
theorem KF.alm{ns:List Int}{kr:Parts}(kf:KF ns kr){q:Str × (Rows1 × Rows2)}(hq:q∈kr):AlM q.2.1 q.2.2:=by
 have l1:=kf.l1 q hq
 have l2:=kf.l2 q hq
 refine⟨by omega,by omega,fun r hr=>ald_le ?_,fun r hr=>ald_fnl ?_ fun x hx=>?_⟩
 ·have:=(kf.k1 q hq r hr).2.2
  have:=leaves_words r.2
  omega
 ·have:=(kf.k2 q hq r hr).2.1
  omega
 ·have:=((kf.k2 q hq r hr).2.2 x hx).2
  have:=leaves_words x
  omega
structure WC(K:PySem.W.Frag)(CF:Addr)(W:Hp)(B:GA)(ns:List Int)(kn pa ia:Addr)(kr more:Parts)(xs:List V)(its:List It):Prop where
 kn:KnAt K W kn kr
 pa:PtsAt K W CF pa (kr++more)
 ia:SqT K W ia xs
 ip:Paired (ItAt K W) xs its
 fr:Fr W B
 kf:KF ns kr
 io:∀i∈its,ItOk i
 il:its.length≤40
 po:PaOk (kr++more)
def spLaw(K:PySem.W.Frag):Sp:=fun vs H Q _=>∃(a:Addr) (ns:List Int),vs=[.ref a]∧SqL K H a (ns.map V.int)∧ns.length≤63∧∀H',Q (.bl true) H'
abbrev lwN:List Str:=["_law_script","_law_known_here","_law_got","_law_parts","_law_part","_law_kinds","_law_funs","_law_items_here","_law_refused","_law_found"]
section
variable{P:Program}{w:World}{K:PySem.W.Frag}{mg:Str→Option Value}{base:Heap}
theorem scLaw:FnScope lwN ["_law_script"] (defScope sLaw):=⟨rfl,rfl,rfl,by decide +kernel,rfl,by decide +kernel,by decide +kernel⟩
set_option maxHeartbeats 0 in
theorem law_9{f fs CF:Addr}{fds:FuncData}{n:Nat}(GS:FnOk P w K mg base CX0 n fs fds smP (spSame K CF))(bS:Binds K fds smP [])(kS:PySem.W.keepIn K (.ref fs)=true) (mS:mg "_law_same"=some (.ref fs)) (ma:mg "all"=none)
  {cdv:Value} {A:Around} {outer:List Env} {s:Shared} {H:Hp} {E:XK} (hr:Room n (A.deeper (PyProof.Rows.envOfC "law" (defScope sLaw) s.heap.objs.size f cdv))) :
  ∃t,PSs (cxOf CX0 P w K mg base lwN "law" (defScope sLaw) f cdv A outer s H E).nox (List.drop 9 (defBody sLaw)) t ∧
   ∀(Q:VK) (W H4:Hp) (B:GA) (ns:List Int) (kn pa ia:Addr) (kr more:Parts) (xs:List V) (its:List It) (y0 y2 y4 y5 y6 y7 y8 y9:Option V),WC K CF W B ns kn pa ia kr more xs its→Same W H4→(∀H',Q (.bl true) H')→t { nx:=fun _ H'=>Q .non H',rt:=Q } [y0,some (.ref kn),y2,some (.ref pa),y4,y5,y6,y7,y8,y9] H4:=by
 have hu:=hu_of hr
 refine⟨_,@pss_one _ _ _ (@ps_ret _ _ _ _ (pe_callB (call_allB rfl) rfl ma bootAll (@pa_cons _ _ _ _ _ (pe_comp (own:=["_law_part","_law_kinds","_law_funs"]) (caps:=["_law_parts"]) (κ:=[3]) (g:=gTup K 3 (gCons (gName 0) (gCons (gName 1) (gCons (gName 2) gNil)))) rfl ⟨rfl,by decide +kernel,by decide +kernel,rfl,rfl,one_of rfl,one_of ⟨.inl rfl,rfl,.inl rfl⟩⟩ rfl
   (pi_list (pv 1)) (fun _ _ _ _=>pg_tup rfl (pgs_cons (pg_name (i:=0) (show(["_law_part","_law_kinds","_law_funs","_law_parts"]:List Str).Nodup from by decide +kernel) rfl (Or.inl rfl)) (pgs_cons (pg_name (i:=1) (show(["_law_part","_law_kinds","_law_funs","_law_parts"]:List Str).Nodup from by decide +kernel) rfl (Or.inl rfl)) (pgs_cons (pg_name (i:=2) (show(["_law_part","_law_kinds","_law_funs","_law_parts"]:List Str).Nodup from by decide +kernel) rfl (Or.inl rfl)) pgs_nil))))
   (fun _ _ _ _=>pe_call GS hr rfl mS kS bS .nil pass0 (@pa_cons _ _ _ _ _ (pe_dget hu (pv 3) (pv 0) (fun _ _=>rfl)) (@pa_cons _ _ _ _ _ (pv 1) (@pa_cons _ _ _ _ _ (pv 2) pa_nil rfl) rfl) rfl))) pa_nil rfl))),?_⟩
 intro Q W H4 B ns kn pa ia kr more xs its y0 y2 y4 y5 y6 y7 y8 y9 wc s4 q
 obtain⟨ts,hkl,hts⟩:=wc.kn
 obtain⟨pkv,hpa,hpk⟩:=wc.pa
 have tl2:=Paired.length hts
 have kx:=wc.kf.ln
 refine⟨_,rfl,kn,rfl,⟨_,SqL.of (s4 _ _ hkl)⟩,?_⟩
 refine comp_l (SqL.of (s4 _ _ hkl)) (by omega) (fun i ys H5=>ys.length≤i∧∃m,ys=List.replicate m (.bl true)) ⟨Nat.le_refl _,0,rfl⟩ (fun _ _ _ h=>h.1) ?_ ?_
 ·rintro i x ys H5 N hN hx s5 ⟨hyl,m,rfl⟩
  obtain⟨qq,hq,tt,k1,k2,rfl,htt,hk1,hk2⟩:=pair_get hts hx
  have hqm:=List.mem_of_getElem? hq
  have s45:=s4.trans s5
  rcases look_val hpk qq.1 with ⟨_,h2⟩|⟨v,r,h1,h2,fa,rfl,hF⟩
  ·rw [ext_more wc.kf qq hqm] at h2
   cases h2
  rw [ext_more wc.kf qq hqm] at h2
  cases h2
  refine⟨tt,_,rfl,SqT.of (s45 _ _ htt),rfl,_,_,rfl,_,_,rfl,_,_,rfl,rfl,rfl,tYes_go ⟨_,rfl,_,rfl,pa,.ref fa,rfl,h1▸DGet.k (k:=.inr qq.1) (s45 _ _ hpa),_,rfl,_,rfl,fa,k1,k2,_,_,rfl,hF.same s45,hk1.same s45,hk2.same s45,wc.kf.alm hqm,fun H6 s6=>hN _ _ (s5.trans s6) ⟨by rw [List.length_append];show _+1≤i+1;omega,m+1,(List.replicate_succ' ..).symm⟩⟩⟩
 ·rintro ys H5 D s5 ⟨hyl,m,rfl⟩ hD
  refine⟨D,List.replicate m true,rfl,SqL.of (by rw [upd_same,List.map_replicate]),?_⟩
  rw [all_true]
  exact q _
end
end K41
namespace K41
open PySem L2 Kk
section
variable{P:Program}{w:World}{K:PySem.W.Frag}{mg:Str→Option Value}{base:Heap}
theorem GotA.rk{H:Hp}{A:GA}{gkv:List (Key × V)}{S:LS}{N:Nat}{ix ox fx:List V}{dkv:List (List Key × V)}(F:GotA K H A gkv S N ix ox fx dkv):RkAt K H A.ol S.own∧RfAt K H A.fl S.funs:=⟨⟨ox,F.ho,F.po⟩,⟨fx,F.hf,F.pf⟩⟩
set_option maxHeartbeats 0 in
theorem law_8{f fs fk CF:Addr}{fds fdk:FuncData}(GS:FnOk P w K mg base CX0 43 fs fds smP (spSame K CF))(bS:Binds K fds smP [])(kS:PySem.W.keepIn K (.ref fs)=true) (mS:mg "_law_same"=some (.ref fs))
  (GK:FnOk P w K mg base CX0 44 fk fdk akP (spAsked K CF)) (bK:Binds K fdk akP []) (kK:PySem.W.keepIn K (.ref fk)=true) (mK:mg "_law_asked"=some (.ref fk)) (ma:mg "all"=none) (mI:mg "int"=none) (cF:Cls K CF) (nK:NoAttr K CF "kinds") (nF:NoAttr K CF "funs")
  {cdv:Value} {A:Around} {outer:List Env} {s:Shared} {H:Hp} {E:XK} (hr:Room 66 (A.deeper (PyProof.Rows.envOfC "law" (defScope sLaw) s.heap.objs.size f cdv))) :
  ∃t,PSs (cxOf CX0 P w K mg base lwN "law" (defScope sLaw) f cdv A outer s H E).nox (List.drop 8 (defBody sLaw)) t ∧
   (∀(Q:VK) (W H3 H4:Hp) (B:GA) (ns:List Int) (kn pa ia fa d1 d2:Addr) (kr more:Parts) (xs:List V) (its:List It) (gkv:List (Key × V)) (S:LS) (N d:Nat) (y0 y4 y5 y6:Option V),WC K CF W B ns kn pa ia kr more xs its→Same W H3→GotAt K H3 B gkv S N→valV gkv (.inr "due")=some (.int (d:Int))→Same H3 H4→H3 d1=none→H3 d2=none→FullAt K H4 CF fa d1 d2 S.own S.funs→AlM S.own S.funs→runF (kr++more) (if d=3 then 41 else 60) its=.ok S.own S.funs→(∀H',Q (.bl true) H') →
    t { nx:=fun _ H'=>Q .non H',rt:=Q } [y0,some (.ref kn),some (.ref B.g),some (.ref pa),y4,y5,y6,some (.ref ia),some (.int 9),some (.ref fa)] H4) ∧
   (∀(Q:VK) (W H4:Hp) (B:GA) (ns:List Int) (kn pa ia:Addr) (kr more:Parts) (xs:List V) (its:List It) (gkv:List (Key × V)) (S:LS) (N d:Nat) (y0 y4 y5 y6 y9:Option V),WC K CF W B ns kn pa ia kr more xs its→Same W H4→GotAt K H4 B gkv S N→valV gkv (.inr "due")=some (.int (d:Int))→d≤2→runF (kr++more) 40 its=.ref d→(∀H',Q (.bl true) H') →
    t { nx:=fun _ H'=>Q .non H',rt:=Q } [y0,some (.ref kn),some (.ref B.g),some (.ref pa),y4,y5,y6,some (.ref ia),some (.int (d:Int)),y9] H4):=by
 have hu:=hu_of hr
 have hr43:Room 43 _:=hr.mono (by decide)
 have hr44:Room 44 _:=hr.mono (by decide)
 obtain⟨t9,d9,k9⟩:=law_9 (f:=f) (outer:=outer) (H:=H) (E:=E) GS bS kS mS ma hr43
 refine⟨_,@pss_cons _ _ _ _ _ (ps_if (pt_cmpR op_eq (pv 8) pe_int (nomark _))
   (@pss_cons _ _ _ _ _ (ps_if (pt_not (L2.pt_val (pe_call GS hr43 rfl mS kS bS .nil pass0 (@pa_cons _ _ _ _ _ (pv 9) (@pa_cons _ _ _ _ _ (pe_dget hu (pv 2) pe_str (fun _ _=>rfl)) (@pa_cons _ _ _ _ _ (pe_dget hu (pv 2) pe_str (fun _ _=>rfl)) pa_nil rfl) rfl) rfl)))) (@pss_one _ _ _ (@ps_ret _ _ _ _ pe_bl)) pss_nil)
   (@pss_cons _ _ _ _ _ (ps_expr (pe_bm0 PySem.F.plainAttrs_dict PySem.F.slot_dict_clear PySem.F.type_dict_clear mt_dclear (pe_fld (pv 9) rfl)))
   (@pss_cons _ _ _ _ _ (ps_expr (pe_bm0 PySem.F.plainAttrs_dict PySem.F.slot_dict_clear PySem.F.type_dict_clear mt_dclear (pe_fld (pv 9) rfl)))
   (@pss_cons _ _ _ _ _ (ps_asg (pe_call GK hr44 rfl mK kK bK .nil pass0 (@pa_cons _ _ _ _ _ (pv 7) (@pa_cons _ _ _ _ _ (pv 3) (@pa_cons _ _ _ _ _ (pe_ix ix_list (pe_lst (@pa_cons _ _ _ _ _ pe_int (@pa_cons _ _ _ _ _ pe_int pa_nil rfl) rfl)) (pe_callTy call_int1 rfl mI bootInt (@pa_cons _ _ _ _ _ (pe_cmpR op_eq (pe_dget hu (pv 2) pe_str (fun _ _=>rfl)) pe_int (nomark _)) pa_nil rfl)) (fun _ _=>rfl)) pa_nil rfl) rfl) rfl)) (pg_tup rfl (pgs_cons (pg_name (i:=8) scLaw.nd rfl (Or.inl rfl)) (pgs_cons (pg_name (i:=9) scLaw.nd rfl (Or.inl rfl)) pgs_nil))))
   (@pss_one _ _ _ (ps_if (PW.pt (pw_or (pt_cmpR op_ne (pv 8) pe_int (nomark _)) (pw_or1 (pt_not (L2.pt_val (pe_call GS hr43 rfl mS kS bS .nil pass0 (@pa_cons _ _ _ _ _ (pv 9) (@pa_cons _ _ _ _ _ (pe_dget hu (pv 2) pe_str (fun _ _=>rfl)) (@pa_cons _ _ _ _ _ (pe_dget hu (pv 2) pe_str (fun _ _=>rfl)) pa_nil rfl) rfl) rfl))))))) (@pss_one _ _ _ (@ps_ret _ _ _ _ pe_bl)) pss_nil))))))
   (@pss_one _ _ _ (ps_if (pt_cmpR op_ne (pe_ix ix_tup (pe_call GK hr44 rfl mK kK bK .nil pass0 (@pa_cons _ _ _ _ _ (pv 7) (@pa_cons _ _ _ _ _ (pv 3) (@pa_cons _ _ _ _ _ pe_int pa_nil rfl) rfl) rfl)) pe_int (fun _ _=>rfl)) (pe_dget hu (pv 2) pe_str (fun _ _=>rfl)) (nomark _)) (@pss_one _ _ _ (@ps_ret _ _ _ _ pe_bl)) pss_nil)))
  d9,?_,?_⟩
 ·intro Q W H3 H4 B ns kn pa ia fa d1 d2 kr more xs its gkv S N d y0 y4 y5 y6 wc sW G3 hdu s34 h1 h2 hF hal hrun q
  obtain⟨ix,ox,fx,dkv,F3⟩:=G3
  refine⟨_,rfl,rfl,_,rfl,ite2 (fun _=>?_) (fun c=>absurd (by decide) c)⟩
  have F4:=F3.same s34
  refine⟨_,rfl,_,rfl,B.g,.ref B.ol,rfl,F4.vo▸DGet.k (k:=.inr "own") F4.hg,_,rfl,B.g,.ref B.fl,rfl,F4.vf▸DGet.k (k:=.inr "funs") F4.hg,fa,B.ol,B.fl,_,_,rfl,hF.faceF,F4.rk.1,F4.rk.2,hal,fun H5 s5=>⟨true,rfl,iteF ?_⟩⟩
  obtain⟨dx,gs,kv1,kv2,FA⟩:=hF.same s5
  have s35:=s34.trans s5
  refine⟨_,rfl,fa,CF,dx,gs,_,rfl,FA.obj,cF,nK,FA.fk,.inr (.inr (.inl ⟨rfl,.inl ⟨_,FA.h1⟩⟩)),d1,kv1,rfl,rfl,FA.h1,?_⟩
  have s6:=sput (o:=.dK []) s35 h1
  have yne:∀{e:Addr} {kv:List (Key × V)},H5 e=some (.dK kv)→fa≠e:=fun h e=>by
   have:=FA.obj
   rw [e,h] at this
   cases this
  have hy6:upd H5 d1 (.dK []) fa=some (.ins CF dx gs):=by rw [upd_ne (yne FA.h1)];exact FA.obj
  have he6:upd H5 d1 (.dK []) d2=some (.dK kv2):=by rw [upd_ne (Ne.symm FA.ne)];exact FA.h2
  refine⟨_,rfl,fa,CF,dx,gs,_,rfl,hy6,cF,nF,FA.ff,.inr (.inr (.inl ⟨rfl,.inl ⟨_,he6⟩⟩)),d2,kv2,rfl,rfl,he6,?_⟩
  have s7:=sput (o:=.dK []) s6 h2
  revert s7
  generalize upd (upd H5 d1 (.dK [])) d2 (.dK [])=H7
  intro s7
  have F7:=F3.same s7
  have sW7:=sW.trans s7
  refine⟨_,rfl,_,rfl,(by show 2≤sizeLine;decide),fun p8 hp8=>?_⟩
  have t8:=same_new hp8 (.lst [.int 60,.int 41])
  have F8:=F7.same t8
  have sW8:=sW7.trans t8
  have hat:atI [V.int 60,V.int 41] (if decide (V.int (d:Int)=V.int 3)=true then 1 else 0)=some (.int (if d=3 then 41 else 60)):=by
   by_cases h:d=3
   ·rw [h]
    rfl
   ·rw [if_neg h,decide_eq_false (fun z=>h (by injection z with z;omega)),if_neg (by decide)]
    rfl
  refine⟨_,rfl,B.g,.int (d:Int),rfl,hdu▸DGet.k (k:=.inr "due") F8.hg,rfl,.inr ⟨_,rfl,p8,_,_,_,rfl,rfl,SqL.of upd_same,hat,?_⟩⟩
  refine⟨ia,xs,its,pa,_,kr++more,rfl,sW8.tup wc.ia,Paired.mapP wc.ip fun _ _ t=>t.same sW8,wc.il,wc.io,wc.pa.same sW8,wc.po,by split<;>decide,by split<;>decide,?_⟩
  rw [hrun]
  intro H9 tt fa2 e1 e2 s9 _ _ _ ht hF9
  have F9:=F8.same s9
  refine⟨tt,_,rfl,SqT.of ht,rfl,_,_,rfl,_,_,rfl,rfl,?_⟩
  refine⟨_,rfl,rfl,_,rfl,ite2 (fun c=>absurd c (by decide)) (fun _=>?_)⟩
  refine⟨_,rfl,_,rfl,B.g,.ref B.ol,rfl,F9.vo▸DGet.k (k:=.inr "own") F9.hg,_,rfl,B.g,.ref B.fl,rfl,F9.vf▸DGet.k (k:=.inr "funs") F9.hg,fa2,B.ol,B.fl,_,_,rfl,hF9.faceF,F9.rk.1,F9.rk.2,hal,fun H10 s10=>⟨true,rfl,iteF ?_⟩⟩
  exact k9 Q W H10 B ns kn pa ia kr more xs its _ _ _ _ _ _ _ _ wc (sW8.trans (s9.trans s10)) q
 ·intro Q W H4 B ns kn pa ia kr more xs its gkv S N d y0 y4 y5 y6 y9 wc sW G4 hdu hd hrun q
  obtain⟨ix,ox,fx,dkv,F4⟩:=G4
  refine⟨_,rfl,rfl,_,rfl,ite2 (fun c=>?_) (fun _=>?_)⟩
  ·have c':V.int (d:Int)=V.int 9:=of_decide_eq_true c
   injection c' with c'
   omega
  refine⟨_,rfl,_,rfl,ia,xs,its,pa,40,kr++more,rfl,sW.tup wc.ia,Paired.mapP wc.ip fun _ _ t=>t.same sW,wc.il,wc.io,wc.pa.same sW,wc.po,by decide,by decide,?_⟩
  rw [hrun]
  refine⟨by omega,fun H5 tt s5 ht=>?_⟩
  have F5:=F4.same s5
  refine⟨tt,_,_,_,rfl,rfl,SqT.of ht,(show atI [V.int (d:Int),.non] 0=some (.int (d:Int)) from rfl),_,rfl,B.g,.int (d:Int),rfl,hdu▸DGet.k (k:=.inr "due") F5.hg,rfl,_,rfl,ite2 (fun c=>?_) (fun _=>?_)⟩
  ·have c':(!decide (V.int (d:Int)=V.int (d:Int)))=true:=c
   rw [decide_eq_true rfl] at c'
   cases c'
  exact k9 Q W H5 B ns kn pa ia kr more xs its _ _ _ _ _ _ _ _ wc (sW.trans s5) q
end
end K41
namespace K41
open PySem L2 Kk
theorem IV.alm{ns:List Int}{kr:Parts}{k:Nat}{S:LS}(h:IV ns kr k S)(kf:KF ns kr)(hk:k≤15):AlM S.own S.funs:=by
 have o:=h.ops2 kf
 have l1:=h.l1
 have l2:=h.l2
 refine⟨by omega,by omega,fun q hq=>ald_le ?_,fun q hq=>ald_fnl ?_ fun x hx=>?_⟩
 ·have:=(h.ok1 q hq).2.2
  have:=leaves_words q.2
  omega
 ·have:=(h.ok2 q hq).2.1
  omega
 ·have:=((h.ok2 q hq).2.2 x hx).2
  have:=leaves_words x
  omega
theorem IV.almW{ns:List Int}{kr:Parts}{k i j:Nat}{S:LS}{it:It}(h:IV ns kr k S)(kf:KF ns kr)(hk:k≤15)(hi:i≤S.own.length)(hj:j≤S.funs.length)(hB:BigW ns k S it):AlM (setI S i j it).own (setI S i j it).funs:=by
 obtain⟨a1,a2,a3,a4⟩:=h.alm kf hk
 have o:=h.ops2 kf
 have l1:=h.l1
 have l2:=h.l2
 cases it with
 |kind w x =>
  obtain⟨_,_,_,hx⟩:=hB
  refine⟨?_,a2,fun q hq=>?_,a4⟩
  ·show(S.own.take i++(w,x)::S.own.drop i).length≤100
   rw [List.length_append,List.length_cons,List.length_take,List.length_drop]
   omega
  ·rcases List.mem_append.mp (show q∈S.own.take i++(w,x)::S.own.drop i from hq) with hq|hq
   ·exact a3 q (List.mem_of_mem_take hq)
   ·rcases List.mem_cons.mp hq with e|hq
    ·rw [e]
     exact ald_le (by show x.leaves.length≤30;omega)
    ·exact a3 q (List.mem_of_mem_drop hq)
 |fn w ps x =>
  obtain⟨_,_,hl,hx⟩:=hB
  refine⟨a1,?_,a3,fun q hq=>?_⟩
  ·show(S.funs.take j++(w,(ps.map (·.2),x))::S.funs.drop j).length≤100
   rw [List.length_append,List.length_cons,List.length_take,List.length_drop]
   omega
  ·rcases List.mem_append.mp (show q∈S.funs.take j++(w,(ps.map (·.2),x))::S.funs.drop j from hq) with hq|hq
   ·exact a4 q (List.mem_of_mem_take hq)
   ·rcases List.mem_cons.mp hq with e|hq
    ·rw [e]
     exact ald_fnl (by show(ps.map (·.2)).length≤5;rw [List.length_map];omega) fun y hy=>by
      have:=(hx y hy).2
      omega
    ·exact a4 q (List.mem_of_mem_drop hq)
 |opn p=>exact hB.elim
section
variable{P:Program}{w:World}{K:PySem.W.Frag}{mg:Str→Option Value}{base:Heap}
set_option maxHeartbeats 0 in
theorem law_5{f fs fk fl CF:Addr}{fds fdk fdl:FuncData}(GS:FnOk P w K mg base CX0 43 fs fds smP (spSame K CF))(bS:Binds K fds smP [])(kS:PySem.W.keepIn K (.ref fs)=true) (mS:mg "_law_same"=some (.ref fs))
  (GK:FnOk P w K mg base CX0 44 fk fdk akP (spAsked K CF)) (bK:Binds K fdk akP []) (kK:PySem.W.keepIn K (.ref fk)=true) (mK:mg "_law_asked"=some (.ref fk))
  (GL:FnOk P w K mg base CX0 1 fl fdl ["_law_got"] (spLetBy K)) (bL:Binds K fdl ["_law_got"] []) (kL:PySem.W.keepIn K (.ref fl)=true) (mL:mg "_law_let_by"=some (.ref fl)) (ma:mg "all"=none) (mI:mg "int"=none) (cF:Cls K CF) (nK:NoAttr K CF "kinds") (nF:NoAttr K CF "funs")
  {cdv:Value} {A:Around} {outer:List Env} {s:Shared} {H:Hp} {E:XK} (hr:Room 66 (A.deeper (PyProof.Rows.envOfC "law" (defScope sLaw) s.heap.objs.size f cdv))) :
  ∃t,PSs (cxOf CX0 P w K mg base lwN "law" (defScope sLaw) f cdv A outer s H E).nox (List.drop 5 (defBody sLaw)) t ∧
   ∀(Q:VK) (W H3:Hp) (B:GA) (ns:List Int) (kn pa ia:Addr) (kr more:Parts) (xs:List V) (gkv:List (Key × V)) (S:LS) (N d k:Nat) (wi:Option (It × Nat × Nat)) (y0 y4 y5 y6:Option V),WC K CF W B ns kn pa ia kr more xs S.items→Same W H3→GotAt K H3 B gkv S N→IV ns kr k S→RI ns kr k S d more wi→Ex K W gkv d more wi→k≤15→(∀H',Q (.bl true) H') →
    t { nx:=fun _ H'=>Q .non H',rt:=Q } [y0,some (.ref kn),some (.ref B.g),some (.ref pa),y4,y5,y6,some (.ref ia),none,none] H3:=by
 have hu:=hu_of hr
 have hr1:Room 1 _:=hr.mono (by decide)
 have hr44:Room 44 _:=hr.mono (by decide)
 obtain⟨t8,d8,kA,kB⟩:=law_8 (f:=f) (outer:=outer) (H:=H) (E:=E) GS bS kS mS GK bK kK mK ma mI cF nK nF hr
 refine⟨_,@pss_cons _ _ _ _ _ (ps_asg (pe_call GK hr44 rfl mK kK bK .nil pass0 (@pa_cons _ _ _ _ _ (pv 7) (@pa_cons _ _ _ _ _ (pv 3) (@pa_cons _ _ _ _ _ pe_int pa_nil rfl) rfl) rfl)) (pg_tup rfl (pgs_cons (pg_name (i:=8) scLaw.nd rfl (Or.inl rfl)) (pgs_cons (pg_name (i:=9) scLaw.nd rfl (Or.inl rfl)) pgs_nil))))
  (@pss_cons _ _ _ _ _ (ps_if (pt_cmpR op_ne (pv 8) (pe_dget hu (pv 2) pe_str (fun _ _=>rfl)) (nomark _)) (@pss_one _ _ _ (@ps_ret _ _ _ _ pe_bl)) pss_nil)
  (@pss_cons _ _ _ _ _ (ps_if (pt_cmpR op_eq (pv 8) pe_int (nomark _))
   (@pss_cons _ _ _ _ _ (ps_expr (pe_call GL hr1 rfl mL kL bL .nil pass0 (@pa_cons _ _ _ _ _ (pv 2) pa_nil rfl)))
   (@pss_cons _ _ _ _ _ (ps_asg (pe_call GK hr44 rfl mK kK bK .nil pass0 (@pa_cons _ _ _ _ _ (pv 7) (@pa_cons _ _ _ _ _ (pv 3) (@pa_cons _ _ _ _ _ pe_int pa_nil rfl) rfl) rfl)) (pg_tup rfl (pgs_cons (pg_name (i:=8) scLaw.nd rfl (Or.inl rfl)) (pgs_cons (pg_name (i:=9) scLaw.nd rfl (Or.inl rfl)) pgs_nil))))
   (@pss_one _ _ _ (ps_if (pt_cmpR op_ne (pv 8) pe_int (nomark _)) (@pss_one _ _ _ (@ps_ret _ _ _ _ pe_bl)) pss_nil)))) pss_nil)
  d8)),?_⟩
 intro Q W H3 B ns kn pa ia kr more xs gkv S N d k wi y0 y4 y5 y6 wc sW G3 iv ri ex hk q
 obtain⟨ix,ox,fx,dkv,F3⟩:=G3
 have hdu:=ex.du
 refine⟨_,rfl,_,rfl,ia,xs,S.items,pa,40,kr++more,rfl,sW.tup wc.ia,Paired.mapP wc.ip fun _ _ t=>t.same sW,wc.il,wc.io,wc.pa.same sW,wc.po,by decide,by decide,?_⟩
 have eqd:∀{x:Int} {Z:Prop},(!decide (V.int x=V.int x))=true→Z:=fun {x Z} c=>by
  rw [decide_eq_true rfl] at c
  cases c
 cases ri with
 |yet hy =>
  rw [hy _ 40 (ext_more wc.kf) (by decide)]
  intro H4 tt fa d1 d2 s4 h1 h2 _ ht hF
  have F4:=F3.same s4
  refine⟨tt,_,rfl,SqT.of ht,rfl,_,_,rfl,_,_,rfl,rfl,?_⟩
  refine⟨_,rfl,_,rfl,B.g,.int 9,rfl,hdu▸DGet.k (k:=.inr "due") F4.hg,rfl,_,rfl,ite2 (fun c=>eqd c) (fun _=>?_)⟩
  refine⟨_,rfl,rfl,_,rfl,ite2 (fun c=>absurd c (by decide)) (fun _=>?_)⟩
  exact kA Q W H3 H4 B ns kn pa ia fa d1 d2 kr [] xs S.items gkv S N 9 _ _ _ _ wc sW ⟨_,_,_,_,F3⟩ hdu s4 h1 h2 hF (iv.alm wc.kf hk) (hy _ 60 (ext_more wc.kf) (by decide)) q
 |bad hd hb _ _ =>
  rw [hb]
  refine⟨by omega,fun H4 tt s4 ht=>?_⟩
  have F4:=F3.same s4
  refine⟨tt,_,rfl,SqT.of ht,rfl,_,_,rfl,_,_,rfl,rfl,?_⟩
  refine⟨_,rfl,_,rfl,B.g,.int (d:Int),rfl,hdu▸DGet.k (k:=.inr "due") F4.hg,rfl,_,rfl,ite2 (fun c=>eqd c) (fun _=>?_)⟩
  refine⟨_,rfl,rfl,_,rfl,ite2 (fun c=>?_) (fun _=>?_)⟩
  ·have c':V.int (d:Int)=V.int 3:=of_decide_eq_true c
   injection c' with c'
   omega
  exact kB Q W H4 B ns kn pa ia kr more xs S.items gkv S N d _ _ _ _ _ wc (sW.trans s4) ⟨_,_,_,_,F4⟩ hdu hd hb q
 |@big it i j h40 h41 hi hj hB =>
  rw [List.append_nil,h40]
  refine⟨by decide,fun H4 tt s4 ht=>?_⟩
  have F4:=F3.same s4
  have sW4:=sW.trans s4
  refine⟨tt,_,rfl,SqT.of ht,rfl,_,_,rfl,_,_,rfl,rfl,?_⟩
  refine⟨_,rfl,_,rfl,B.g,.int 3,rfl,hdu▸DGet.k (k:=.inr "due") F4.hg,rfl,_,rfl,ite2 (fun c=>eqd c) (fun _=>?_)⟩
  refine⟨_,rfl,rfl,_,rfl,ite2 (fun _=>?_) (fun c=>absurd (by decide) c)⟩
  obtain⟨v,at_,e1,e2,e3,e4⟩:=ex.wr it i j rfl
  have o:=iv.ops2 wc.kf
  have l1:=iv.l1
  have l2:=iv.l2
  have hno:NoOpn it:=by
   cases it with
   |kind w x=>trivial
   |fn w ps x=>exact hB.2.2.1
   |opn p=>exact hB
  refine⟨_,rfl,W,B,gkv,S,N,it,i,j,v,at_,rfl,sW4,wc.fr,⟨_,_,_,_,F4⟩,e1,e2,e3,e4,hi,hj,by omega,by omega,hno,fun H5 s5 G5=>?_⟩
  refine⟨_,rfl,_,rfl,ia,xs,S.items,pa,41,kr++[],rfl,s5.tup wc.ia,Paired.mapP wc.ip fun _ _ t=>t.same s5,wc.il,wc.io,wc.pa.same s5,wc.po,by decide,by decide,?_⟩
  rw [List.append_nil,h41]
  intro H6 t6 fa d1 d2 s6 h1 h2 _ ht6 hF
  refine⟨t6,_,rfl,SqT.of ht6,rfl,_,_,rfl,_,_,rfl,rfl,?_⟩
  refine⟨_,rfl,rfl,_,rfl,ite2 (fun c=>absurd c (by decide)) (fun _=>?_)⟩
  exact kA Q W H5 H6 B ns kn pa ia fa d1 d2 kr [] xs S.items gkv (setI S i j it) N 3 _ _ _ _ wc s5 G5 hdu s6 h1 h2 hF (iv.almW wc.kf hk hi hj hB) (by rw [List.append_nil,if_pos rfl];exact h41) q
end
end K41
namespace K41
open PySem L2 Kk
def cut(H:Hp)(p:Addr):Hp:=fun b=>if b=p then none else H b
theorem cut_ne{H:Hp}{p b:Addr}(h:b≠p):cut H p b=H b:=if_neg h
theorem cut_le{H:Hp}{p:Addr}:Same (cut H p) H:=fun b u h=>by
 by_cases c:b=p
 ·rw [show cut H p b=none from if_pos c] at h
  cases h
 ·rw [cut_ne c] at h
  exact h
theorem cutF{H0 H:Hp}{p:Addr}(e:Same H0 H)(h:H0 p=none):Same H0 (cut H p):=fun b u hb=>by
 rw [cut_ne (ne_of_none hb h)]
 exact e b u hb
theorem cut_mono{H H':Hp}{p:Addr}(e:Same H H'):Same (cut H p) (cut H' p):=cutF (cut_le.trans e) (if_pos rfl)
theorem cut_off{H:Hp}{p:Addr}{B:GA}{o:HO}:cut (off (upd H p o) B) p=cut (off H B) p:=funext fun b=>by
 by_cases c:b=p
 ·rw [show cut (off (upd H p o) B) p b=none from if_pos c,show cut (off H B) p b=none from if_pos c]
 ·rw [cut_ne c,cut_ne c]
  by_cases d:InA B b
  ·rw [off_in d,off_in d]
  ·rw [off_out d,off_out d,upd_ne c]
theorem RI.po{ns:List Int}{kr:Parts}{k:Nat}{S:LS}{d:Nat}{more:Parts}{wi:Option (It × Nat × Nat)}(h:RI ns kr k S d more wi)(kf:KF ns kr):PaOk (kr++more)∧((kr++more).map (·.1)).Nodup:=by
 cases h with
 |yet _=>rw [List.append_nil];exact⟨kf.paok,kf.nd⟩
 |bad _ _ a b=>exact⟨a,b⟩
 |big _ _ _ _ _=>rw [List.append_nil];exact⟨kf.paok,kf.nd⟩
section
variable{P:Program}{w:World}{K:PySem.W.Frag}{mg:Str→Option Value}{base:Heap}
set_option maxHeartbeats 0 in
theorem ok_law{f fn ft fi fs fk fl CF:Addr}{fd fdn fdt fdi fds fdk fdl:FuncData} (F:Fun K "law" "law" sLaw f fd)
  (GN:FnOk P w K mg base CX0 2 fn fdn knP (spKnown K)) (bN:Binds K fdn knP []) (kN:PySem.W.keepIn K (.ref fn)=true) (mN:mg "_law_known"=some (.ref fn))
  (GT:FnOk P w K mg base CX0 66 ft fdt itP (spItems K)) (bT:Binds K fdt itP []) (kT:PySem.W.keepIn K (.ref ft)=true) (mT:mg "_law_items"=some (.ref ft))
  (GI:FnOk P w K mg base CX0 1 fi fdi ["self","kinds","funs"] (spInitF CF)) (bI:Binds K fdi ["self","kinds","funs"] []) (MF:Mk K CF fi) (mC:mg "Face"=some (.ref CF)) (md:mg "dict"=none) (mt:mg "tuple"=none)
  (GS:FnOk P w K mg base CX0 43 fs fds smP (spSame K CF)) (bS:Binds K fds smP []) (kS:PySem.W.keepIn K (.ref fs)=true) (mS:mg "_law_same"=some (.ref fs))
  (GK:FnOk P w K mg base CX0 44 fk fdk akP (spAsked K CF)) (bK:Binds K fdk akP []) (kK:PySem.W.keepIn K (.ref fk)=true) (mK:mg "_law_asked"=some (.ref fk))
  (GL:FnOk P w K mg base CX0 1 fl fdl ["_law_got"] (spLetBy K)) (bL:Binds K fdl ["_law_got"] []) (kL:PySem.W.keepIn K (.ref fl)=true) (mL:mg "_law_let_by"=some (.ref fl)) (ma:mg "all"=none) (mI:mg "int"=none) (cF:Cls K CF) (nK:NoAttr K CF "kinds") (nF:NoAttr K CF "funs") :
  FnOk P w K mg base CX0 67 f fd ["_law_script"] (spLaw K):=by
 refine F.ok scLaw (fun vs H Q E h=>?_) (fun cdv A outer s H vs Q E hr h=>?_)
 ·obtain⟨a,ns,rfl,_⟩:=h
  rfl
 obtain⟨a,ns,rfl,hA,h63,q⟩:=h
 have hu:=hu_of hr
 have hu64:=hr.units
 have hr2:Room (1+1) _:=hr.mono (by decide)
 have hr2':Room 2 _:=hr.mono (by decide)
 obtain⟨t5,d5,k5⟩:=law_5 (f:=f) (outer:=outer) (H:=H) (E:=E) GS bS kS mS GK bK kK mK GL bL kL mL ma mI cF nK nF hr
 have big:∀{n:Nat},n≤999→n < sizeLine:=fun h=>Nat.lt_of_lt_of_le (Nat.lt_succ_self _) (small (by omega))
 refine⟨_,@pss_cons _ _ _ _ _ (ps_set (i:=1) scLaw.nd rfl (Or.inl rfl) (pe_lst (@pa_cons _ _ _ _ _ (pe_call GN hr2' rfl mN kN bN .nil pass0 (@pa_cons _ _ _ _ _ (pv 0) (@pa_cons _ _ _ _ _ pe_int pa_nil rfl) rfl)) (@pa_cons _ _ _ _ _ (pe_call GN hr2' rfl mN kN bN .nil pass0 (@pa_cons _ _ _ _ _ (pv 0) (@pa_cons _ _ _ _ _ pe_int pa_nil rfl) rfl)) pa_nil rfl) rfl)))
  (@pss_cons _ _ _ _ _ (ps_set (i:=2) scLaw.nd rfl (Or.inl rfl) (pe_call GT hr rfl mT kT bT .nil pass0 (@pa_cons _ _ _ _ _ (pv 0) (@pa_cons _ _ _ _ _ (pv 1) pa_nil rfl) rfl)))
  (@pss_cons _ _ _ _ _ (ps_set (i:=3) scLaw.nd rfl (Or.inr rfl) pe_dnewK)
  (@pss_cons _ _ _ _ _ (ps_for PassesOwn.never rfl (pi_list (pe_op op_cat (pv 1) (pe_dget hu (pv 2) pe_str (fun _ _=>rfl)))) (pg_tup rfl (pgs_cons (pg_name (i:=4) scLaw.nd rfl (Or.inl rfl)) (pgs_cons (pg_name (i:=5) scLaw.nd rfl (Or.inl rfl)) (pgs_cons (pg_name (i:=6) scLaw.nd rfl (Or.inl rfl)) pgs_nil))))
   (@pss_one _ _ _ (ps_dput hu (pv 3) (pv 4) (pe_make MF GI hr2 (by rfl) mC bI .nil pass0 (@pa_cons _ _ _ _ _ (pe_callTy (call_dict_pairsK rfl (Nat.lt_of_le_of_lt (Nat.add_le_add_left (by decide) _) hu64)) rfl md bootDict (@pa_cons _ _ _ _ _ (pv 5) pa_nil rfl)) (@pa_cons _ _ _ _ _ (pe_callTy (call_dict_pairsK rfl (Nat.lt_of_le_of_lt (Nat.add_le_add_left (by decide) _) hu64)) rfl md bootDict (@pa_cons _ _ _ _ _ (pv 6) pa_nil rfl)) pa_nil rfl) rfl)) rfl)))
  (@pss_cons _ _ _ _ _ (ps_set (i:=7) scLaw.nd rfl (Or.inl rfl) (pe_callTy call_tuple_of rfl mt bootTuple (@pa_cons _ _ _ _ _ (pe_dget hu (pv 2) pe_str (fun _ _=>rfl)) pa_nil rfl)))
  d5)))),?_⟩
 refine⟨_,rfl,a,ns,0,rfl,hA,h63,by decide,by decide,fun H1 ta la1 la2 pa_ ra1 ra2 s1 hta hla1 hla2 ka=>?_⟩
 refine⟨_,rfl,a,ns,1,rfl,sql_same s1 hA,h63,by decide,by decide,fun H2 tb lb1 lb2 pb rb1 rb2 s2 htb hlb1 hlb2 kb=>?_⟩
 refine⟨(by show 2≤sizeLine;decide),fun kn hkn=>?_⟩
 have t3:=same_new hkn (.lst [.ref ta,.ref tb])
 have kf:=kf_of ka kb
 have hK:KnAt K (upd H2 kn (.lst [.ref ta,.ref tb])) kn [(pa_,(ra1,ra2)),(pb,(rb1,rb2))]:=⟨_,upd_same,.cons ⟨ta,la1,la2,rfl,(s2.trans t3) _ _ hta,hla1.same (s2.trans t3),hla2.same (s2.trans t3)⟩ (.cons ⟨tb,lb1,lb2,rfl,t3 _ _ htb,hlb1.same t3,hlb2.same t3⟩ .nil)⟩
 have s3:=s1.trans (s2.trans t3)
 revert kf hK s3
 generalize upd H2 kn (.lst [.ref ta,.ref tb])=H3
 generalize [(pa_,(ra1,ra2)),(pb,(rb1,rb2))]=kr
 intro kf hK s3
 clear t3 hkn hta hla1 hla2 htb hlb1 hlb2 ka kb s1 s2
 refine⟨_,rfl,_,rfl,a,ns,kn,kr,rfl,sql_same s3 hA,h63,hK,kf,fun H4 B k gkv S N d more wi s4 frB hk st=>?_⟩
 obtain⟨po,pn⟩:=st.ri.po kf
 have iv:=st.iv
 have ex:=st.ex
 have ri:=st.ri
 obtain⟨ix,ox,fx,dkv,G⟩:=st.got
 obtain⟨ml,emo,hM⟩:=ex.mo
 have hKW:KnAt K (off H4 B) kn kr:=hK.same (off_from s4 frB)
 have mle:=ex.ln.2.2
 have kx:=kf.ln
 intro pa hpa
 have paO:off H4 B pa=none:=by
  by_cases c:InA B pa
  ·exact off_in c
  ·rw [off_out c];exact hpa
 have paI:¬InA B pa:=G.notIn hpa
 have t5':=same_new hpa (.dK [])
 obtain⟨ts,hts,pts⟩:=hKW
 obtain⟨us,hus,pus⟩:=hM
 have tl2:=Paired.length pts
 have ul2:=Paired.length pus
 have pall:=pappR pts pus
 have G5:=G.same t5'
 have hp5:upd H4 pa (.dK []) pa=some (.dK []):=upd_same
 revert G5 hp5 t5'
 generalize upd H4 pa (.dK [])=H5
 intro t5' G5 hp5
 refine⟨_,rfl,_,rfl,B.g,.ref ml,rfl,emo▸DGet.k (k:=.inr "more") G5.hg,kn,ml,ts,us,rfl,rfl,t5' _ _ (off_le _ _ hts),t5' _ _ (off_le _ _ hus),small (by omega),fun p hp=>?_⟩
 have t6:=same_new hp (.lst (ts++us))
 have hpp:upd H5 p (.lst (ts++us)) p=some (.lst (ts++us)):=upd_same
 have s6:=t5'.trans t6
 have hp6:=t6 _ _ hp5
 revert s6 hpp hp6
 generalize upd H5 p (.lst (ts++us))=H6
 intro hpp s6 hp6
 have pne:p≠pa:=fun e=>by rw [e,hp5] at hp;cases hp
 refine⟨p,rfl,⟨_,SqL.of hpp⟩,?_⟩
 refine for_list (K:=K) (xs:=ts++us) (fun i σ H7=>∃(y4 y5 y6:Option V) (pkv:List (Key × V)),σ=[some (.ref a),some (.ref kn),some (.ref B.g),some (.ref pa),y4,y5,y6,none,none,none]∧Same H4 H7∧H7 p=some (.lst (ts++us))∧H7 pa=some (.dK pkv)∧PkAt (fun v (r:Rows1 × Rows2)=>∃fa,v=.ref fa∧FaceF K (cut (off H7 B) pa) CF fa r.1 r.2) pkv ((kr++more).take i))
  ⟨none,none,none,[],rfl,s6,hpp,hp6,.nil⟩ ?_ ?_ ?_
 ·rintro i σ H7 _ ⟨_,_,_,_,_,_,h7,_⟩
  exact SqL.of h7
 ·rintro i y σ H7 hy ⟨y4,y5,y6,pkv,rfl,s7,h7,hp7,hpk⟩
  obtain⟨qq,hq,tt,k1,k2,rfl,htt,hk1,hk2⟩:=pair_get pall hy
  have hqm:=List.mem_of_getElem? hq
  obtain⟨_,_,c1,c2,nd1,nd2,_⟩:=po qq hqm
  obtain⟨as1,ps1,hl1,hp1,hn1,hr1⟩:=rk_dict hk1 nd1
  obtain⟨as2,ps2,hl2,hp2,hn2,hr2⟩:=rf_dict hk2 nd2
  have o7:Same (off H4 B) H7:=off_le.trans s7
  refine⟨tt,_,rfl,SqT.of (o7 _ _ htt),rfl,_,_,rfl,_,_,rfl,_,_,rfl,rfl,?_⟩
  refine⟨_,rfl,k1,as1,ps1,rfl,o7 _ _ hl1,Paired.mapP hp1 fun _ _ t=>o7 _ _ t,big (by omega),fun d1 hd1=>?_⟩
  have t1:=same_new hd1 (.dK (putsK [] ps1))
  have o8:=o7.trans t1
  refine⟨_,rfl,k2,as2,ps2,rfl,o8 _ _ hl2,Paired.mapP hp2 fun _ _ t=>o8 _ _ t,big (by omega),fun d2 hd2=>?_⟩
  have t2:=same_new hd2 (.dK (putsK [] ps2))
  have t12:=t1.trans t2
  have hA1:upd (upd H7 d1 (.dK (putsK [] ps1))) d2 (.dK (putsK [] ps2)) d1=some (.dK (putsK [] ps1)):=t2 _ _ upd_same
  have hA2:upd (upd H7 d1 (.dK (putsK [] ps1))) d2 (.dK (putsK [] ps2)) d2=some (.dK (putsK [] ps2)):=upd_same
  revert t12 hA1 hA2
  generalize upd (upd H7 d1 (.dK (putsK [] ps1))) d2 (.dK (putsK [] ps2))=H8
  intro t12 hA1 hA2
  intro x dx' nx ndx nex
  have ea:=same_new ndx (.own x)
  have nx':upd H8 dx' (.own x) x=none:=by rw [upd_ne (Ne.symm nex)];exact nx
  have eab:=ea.trans (same_new nx' (.ins CF dx' []))
  refine⟨x,dx',d1,d2,_,_,rfl,upd_same,eab _ _ hA1,eab _ _ hA2,fun d e fs' H9 hd he nde hx lk lf lh lp hd7 he7 keep=>⟨rfl,?_⟩⟩
  have s89:Same H8 H9:=fun b o hb=>keep b o (eab _ _ hb) (fun z=>by rw [z,nx] at hb;cases hb)
  have s79:=t12.trans s89
  have G7:=G.same s7
  have G8:=G7.same t12
  have s49:=s7.trans s79
  have hp8:=t12 _ _ hp7
  have hd8:H8 d=none:=(eab).free hd
  have he8:H8 e=none:=(eab).free he
  have nO:∀{b:Addr},H8 b=none→cut (off H9 B) pa b=H9 b:=fun {b} hb=>by
   rw [cut_ne (fun e=>by rw [e,hp8] at hb;cases hb),off_out (G8.notIn hb)]
  have o49:Same (off H4 B) (cut (off H9 B) pa):=cutF (off_mono s49) paO
  have hF:FaceF K (cut (off H9 B) pa) CF x qq.2.1 qq.2.2:=⟨dx',d,e,fs',_,_,by rw [nO nx];exact hx,lk,lf,by rw [nO hd8];exact hd7,by rw [nO he8];exact he7,hr1.imp fun v y h=>h.same o49,hr2.imp fun v y h=>h.keep fun a xs t=>o49.tup t,lh,lp⟩
  have et:(kr++more).take (i+1)=(kr++more).take i++[(qq.1,qq.2)]:=by rw [List.take_add_one,hq];rfl
  have nz:qq.1∉((kr++more).take i).map (·.1):=by
   have h1:=pn
   rw [←List.take_append_drop (i+1) (kr++more),et,List.map_append,List.map_append] at h1
   have h2:=(List.nodup_append.mp (List.nodup_append.mp h1).1).2.2
   exact fun hm=>h2 _ hm qq.1 (List.mem_singleton.mpr rfl) rfl
  have kl:=Paired.length hpk
  have tk:=List.length_take_le i (kr++more)
  have tm:(kr++more).length≤3:=by rw [List.length_append];omega
  refine⟨_,rfl,_,rfl,pa,_,rfl,DPut.k (k:=.inr qq.1) (s79 _ _ hp7) (big (by have:=List.length_take_le' i (kr++more);omega)),?_⟩
  refine⟨_,_,_,putK pkv (.inr qq.1) (.ref x),rfl,sput s49 hpa,by rw [upd_ne pne];exact s79 _ _ h7,upd_same,?_⟩
  rw [cut_off,et]
  exact PkAt.put (hpk.imp fun v r ⟨fa,e1,e2⟩=>⟨fa,e1,e2.same (cut_mono (off_mono s79))⟩) nz ⟨x,rfl,hF⟩
 ·rintro σ H7 ⟨y4,y5,y6,pkv,rfl,s7,h7,hp7,hpk⟩
  rw [Paired.length pall,List.take_length] at hpk
  have G7:=G.same s7
  refine⟨_,rfl,B.g,.ref B.il,rfl,G7.vi▸DGet.k (k:=.inr "items") G7.hg,B.il,ix,rfl,.inl ⟨SqL.of G7.hi,fun ia hia=>?_⟩⟩
  have t8:=same_new hia (.tup ix)
  have G8:=G7.same t8
  have s8:=s7.trans t8
  have s48:=off_mono (A:=B) s8
  have hiT:SqT K (upd H7 ia (.tup ix)) ia ix:=SqT.of upd_same
  have hp8:=t8 _ _ hp7
  have hpk8:PkAt (fun v (r:Rows1 × Rows2)=>∃fa,v=.ref fa∧FaceF K (off (upd H7 ia (.tup ix)) B) CF fa r.1 r.2) pkv (kr++more):=hpk.imp fun v r ⟨fa,e1,e2⟩=>⟨fa,e1,e2.same (cut_le.trans (off_mono t8))⟩
  revert G8 s8 s48 hiT hp8 hpk8
  generalize upd H7 ia (.tup ix)=H8
  intro G8 s8 s48 hiT hp8 hpk8
  refine k5 Q (off H8 B) H8 B ns kn pa ia kr more ix gkv S N d k wi _ _ _ _ ⟨⟨ts,s48 _ _ hts,Paired.mapP pts fun _ _ t=>t.same s48⟩,⟨pkv,by rw [off_out paI];exact hp8,hpk8⟩,G8.offT hiT,Paired.mapP G8.pi fun _ _ t=>t.keep fun _ _ t=>G8.offT t,off_fr,kf,iv.it,?_,po⟩ off_le ⟨_,_,_,_,G8⟩ iv ri (ex.same s48) hk q
  have:=iv.l3
  omega
end
end K41
namespace K41
open PySem L2 Kk
section
variable{K:PySem.W.Frag}{f T:Addr}{fd:FuncData}{oT:Value}{dT:Option Addr}{nT:Nat}{sT:Array (Option Value)}{tk:Tok}
theorem bindN4 (F:FunD K "normal" "normal" sNormal (.ref T) f fd) (lT:K.lookup T=some ⟨oT,dT,.seq #[.int 40 tk] nT,sT⟩):Binds K fd ["kind","own","parts","most"] [] :=
 F.binds lT fun _ _ _ _ _ _ us hl=>by
  have hl':us.length=4:=by simpa using hl
  match us,hl' with
  |[_,_,_,_],_=>exact⟨_,rfl,rfl⟩
theorem bindT4 (F:FunD K "take_item" "take_item" sTakeItem (.ref T) f fd) (lT:K.lookup T=some ⟨oT,dT,.seq #[.int 40 tk] nT,sT⟩):Binds K fd tiP [] :=
 F.binds lT fun _ _ _ _ _ _ us hl=>by
  have hl':us.length=4:=by simpa using hl
  match us,hl' with
  |[_,_,_,_],_=>exact⟨_,rfl,rfl⟩
theorem bindF3 (F:FunD K "full_face" "full_face" sFullFace (.ref T) f fd) (lT:K.lookup T=some ⟨oT,dT,.seq #[.int 40 tk] nT,sT⟩):Binds K fd ffP [] :=
 F.binds lT fun _ _ _ _ _ _ us hl=>by
  have hl':us.length=3:=by simpa using hl
  match us,hl' with
  |[_,_,_],_=>exact⟨_,rfl,rfl⟩
end
def clOf(a b c d:Addr):Nat→Addr
 |0=>a
 |1=>b
 |2=>c
 |_=>d
end K41
namespace PySem.W.Fast
def tw6316575518223410518:=()
def tw6014288419530713803:=()
def tw4592728858486367150:=()
def tw18243224816468905822:=()
def tw7777609978261833936:=()
def tw8602007566380069267:=()
def tw7475707250497204430:=()
def tw15131675620852034807:=()
def tw1026462665790114290:=()
def tw2370445643724591495:=()
def tw16553478627743941734:=()
def tw16076360521878703271:=()
def tw10214582189072873234:=()
def tw1413634544945003425:=()
def tw17375496044698781567:=()
def tw17209958169079109636:=()
def tw10505741673436248404:=()
def tw7501797000125729518:=()
def tw15369553662807619258:=()
def tw5294824400797831775:=()
def tw9371403051608457911:=()
def tw10001102854119283136:=()
def tw9921677834267706126:=()
def tw10459967421345883587:=()
def tw3621357215724592988:=()
def tw11773056522175513545:=()
def tw11550000426383024503:=()
def tw3674917568052780291:=()
def tw2118307885001376802:=()
def tw7288795833638070540:=()
def tw11077586393747446346:=()
def tw11214667267465678050:=()
def tw7081373911170340575:=()
def tw1874616734557733579:=()
def tw14723936902569196375:=()
def tw16663449862292083799:=()
def tw6684992218947642105:=()
def tw15694519764082974459:=()
def tw5549333976795879088:=()
def tw7206809540530518087:=()
def tw9933528380700836157:=()
def tw7866028761554955403:=()
def tw11319137424584656232:=()
def tw3690844327124578569:=()
def tw8118053305335506266:=()
def tw4938031027185758618:=()
def tw12370609629486981999:=()
def tw7090930325834287831:=()
def tw1153109656024661717:=()
def tw1838215461859506817:=()
def tw17579233767681099084:=()
def tw14586315611640594370:=()
def tw4635123122974754385:=()
def tw17140946315147180982:=()
def tw9921839484836575990:=()
def tw1706662710249659070:=()
def tw8186724449063674473:=()
def tw12620203542383640443:=()
def tw4810915739433937281:=()
def tw10943160484086185746:=()
def tw398650660681238980:=()
def tw14742014883874848441:=()
def tw14603873018617577439:=()
def tw3031873469593989285:=()
def tw5311146568756213490:=()
def tw4532570643811366636:=()
def tw4557319136632716171:=()
def tw8007238340200755501:=()
def tw961626810482896392:=()
def tw6489366123279895520:=()
def tw13118257469043248970:=()
def tw5003414498080069594:=()
def tw10109178076452030310:=()
def tw18050820618042485768:=()
def tw4638487031197252789:=()
def tw11030771179072004924:=()
def tw6781385379729000556:=()
def tw17850654780073908437:=()
def tw5241139170419053072:=()
def tw3043396640373146900:=()
def tw3753075412682105247:=()
def tw18335676812755683978:=()
def tw3846297253653404407:=()
def tw4997141094492555222:=()
def tw10301060697353325505:=()
def tw14125795568680796489:=()
def tw12859639044202256522:=()
def tw120611245371139069:=()
def tw13055348469021833400:=()
def tw18136269237524000027:=()
def tw14118662643759010641:=()
def tw12639648245248350592:=()
def tw15695185267092331785:=()
def tw7685212518739207038:=()
def tw12328393579633865917:=()
def tw14547165270673688271:=()
def tw15623511179672394913:=()
def tw13164665313853623013:=()
def tw10667131321477622921:=()
def tw16058378336167392628:=()
def tw6852681066508659296:=()
def tw2221698659504763321:=()
def tw13875081558616844963:=()
def tw12603380591568378131:=()
def tw12313426279805321141:=()
def tw11511777067001462699:=()
def tw17229124345692869299:=()
def tw11640378285152436473:=()
def tw5139182834882489283:=()
def tw6527871605464548624:=()
def tw5468664905376015437:=()
def tw13098221901881633445:=()
def tw17603644401602421781:=()
def tw5295991607730361301:=()
def tw14457496036091711955:=()
def tw13216864568925635489:=()
def tw11822132552826028685:=()
def tw16422682802864715003:=()
def tw16040192689521081550:=()
def tw6467330937594083738:=()
def tw6590590647219700363:=()
def tw16164471458984785347:=()
def tw6312153500528142595:=()
def tw7161500464252590313:=()
def tw3959135228800316387:=()
def tw2429027906869529082:=()
def tw12791022652298716970:=()
def tw10911414908446643538:=()
def tw15527071055072287699:=()
def tw5815432055825615950:=()
def tw8890875479065552212:=()
def tw12941128220396919599:=()
def tw13642544178635858966:=()
def tw6199667940804984521:=()
def tw14065385057629852291:=()
def tw8875972617430173066:=()
def tw15184363777534325341:=()
def tw15676522461084366337:=()
def tw15734755496749140616:=()
def tw4179600781117874722:=()
def tw496435516366904674:=()
def tw1347296906984261397:=()
def tw7869518388481115761:=()
def tw8779457724345190416:=()
def tw13872132392420748165:=()
def tw12277841526832825250:=()
def tw9256828014713033428:=()
def tw1149279704670379386:=()
def tw6105235223857567239:=()
def tw4556472022394717133:=()
def tw5439964345491420043:=()
def tw1254421924705564526:=()
def tw13362342689513918291:=()
def tw6860288963805588191:=()
def tw16882642353806469455:=()
def tw9547590235715256644:=()
def tw3827028583214078774:=()
def tw9823134482545934443:=()
def tw8785608033795055091:=()
def tw3289290910014993868:=()
def tw69490327150843000:=()
def tw6719413545943727859:=()
def tw15481042108595315917:=()
def tw7189913921374548442:=()
def tw2013749199234139307:=()
def tw4024453458903094945:=()
def tw11102561033819964453:=()
def tw13006718300703421310:=()
def tw18118003244584470303:=()
def tw15558900450865596314:=()
def tw18389079453053530621:=()
def tw17121244817966933662:=()
def tw15886927086675106708:=()
def tw11269906966971223480:=()
def tw16167894450965688943:=()
def tw13887148080984172097:=()
def tw6503089327143513011:=()
def tw15986791560551112591:=()
def tw3397552099515563308:=()
def tw1588739205357312320:=()
def tw2015032115454974189:=()
def tw13860268882087353714:=()
def tw2577109275393445222:=()
def tw17883297937025147655:=()
def tw16079611460608359184:=()
def tw4477640615079403812:=()
def tw7597796510655826067:=()
def tw567401075714339880:=()
def tw5723457883366765365:=()
def tw9777735739217831057:=()
def tw8605382944611228048:=()
def tw1340678821492855086:=()
def tw5916369738564505157:=()
def tw4752048690565959086:=()
def tw504776766977533781:=()
def tw4936096655253661382:=()
def tw5735813631758488234:=()
def tw7342663937329548194:=()
def tw14870694270648219376:=()
def tw13393325106830763199:=()
def tw16192731678160912319:=()
def tw17152164602150875588:=()
def tw448058781024994095:=()
def tw9459121622147400295:=()
def tw15268883587007407920:=()
def tw137120852591767767:=()
def tw2348911977913007223:=()
def tw13483164024395263511:=()
def tw8943496099592295544:=()
def tw14576071706791665412:=()
def tw14350923000986052534:=()
def tw13628264931237300839:=()
def tw16534783042772087003:=()
def tw9479688265050309377:=()
def tw5533938534477658705:=()
def tw7542038521657139263:=()
def tw7621191114565111402:=()
def tw11520136742611176544:=()
def tw17320788902517983714:=()
def tw5210880574579109498:=()
def tw2312927341627278421:=()
def tw971100099656113853:=()
def tw4786172025604665269:=()
def tw3272051171408682684:=()
def tw14604393162329386374:=()
def tw10972884340426755974:=()
def tw16575862892131864626:=()
def tw8962931609866868821:=()
def tw1642311786532761648:=()
def tw6148857533917325500:=()
def tw9656441918818806094:=()
def tw6209823539331570372:=()
def tw12926870055894593442:=()
def tw18115421086303420063:=()
def tw17596600936098472308:=()
def tw5569557577346114316:=()
def tw9080760657459804090:=()
def tw9430376515587810392:=()
def tw17404833759342037385:=()
def tw3016525276974455727:=()
def tw14573333654613553617:=()
def tw13426837176001400828:=()
def tw2440603551343303890:=()
def tw14659022071521218030:=()
def tw11407517471374811603:=()
def tw180363068931215872:=()
def tw10355246885340308119:=()
def tw10505019669419729932:=()
def tw7829816910644064124:=()
def tw8193126366909509416:=()
def tw4751068528228487455:=()
def tw13987783817147554164:=()
def tw16335495955715738524:=()
def tw1929670837001266329:=()
def tw7292878243751474659:=()
def tw9833115276354748477:=()
def tw4195797332025230556:=()
def tw1202411466863286885:=()
def tw16565511914540326945:=()
def tw3727738267762187642:=()
def tw8850436593982358222:=()
def tw5617092878503553823:=()
def tw2192683152264079555:=()
def tw17069580456255027592:=()
def tw16894376039617854331:=()
def tw7129570484631836256:=()
def tw13992565793551687140:=()
def tw2599462160504933631:=()
def tw16250089668181264211:=()
def tw12766159888987551440:=()
def tw3125764127227582425:=()
def tw3895787147122109714:=()
def tw8319220580673674050:=()
def tw1389667986850822882:=()
def tw2928483377761202272:=()
def tw14486846677808451141:=()
def tw10299979392012210619:=()
def tw6938616853716307132:=()
def tw7046702108517158244:=()
def tw9419410126704446111:=()
def tw6677129173958567400:=()
def tw569444367527747446:=()
def tw11950522391749110987:=()
def tw13678940768382039553:=()
def tw5447412871855062261:=()
def tw14479306376794676833:=()
def tw2631374395269279776:=()
def tw2739884580752095699:=()
def tw10833908077528864967:=()
def tw16731496365809616641:=()
def tw6751774855257575268:=()
def tw12159255614979421938:=()
def tw14857098309117639770:=()
def tw10915396977088564864:=()
def tw2339795179953110500:=()
def tw2112529719416777152:=()
def tw7803265951049798656:=()
end PySem.W.Fast
namespace L2
open PySem
theorem mem_look{α β:Type}[BEq α][LawfulBEq α]{a:α}{b:β}:∀{l:List (α × β)},l.lookup a=some b→(a,b)∈l
 |[],h=>by cases h
 |p::r,h=>by
  obtain⟨c,d⟩:=p
  rw [List.lookup_cons] at h
  by_cases e:(a==c)=true
  ·rw [e] at h
   have h':d=b:=Option.some.inj h
   rw [eq_of_beq e,h']
   exact .head _
  ·rw [Bool.not_eq_true] at e
   rw [e] at h
   exact .tail _ (mem_look h)
theorem walk_z{q:Program}{loose:List Str}{XP:(Str→Option Value)→Heap→Prop}{r:PySem.W.RowW}{d:DefRec}{kwd:List (Str × Expr)}{run:Value→List Value→Sem Value}{K:Params→PySem.W.Frag}{as:List Addr}{n t:Nat}
  (hl:∀p:Params,as=(K p).map (·.1)) (h:PySem.W.WalkO q loose XP (fun w h=>(K w.params).In h) r d kwd run):PySem.W.WalkX q loose XP (PySem.W.X.obsZ as) (PySem.W.X.valZ K n t) r d kwd run:=by
 intro w s₀ s₁ mg mb G y a o pm cd doc dV kV ho hd hcd hD hmg hg args vals as' L hpre hlay hrd hwl hlo
 refine h w s₀ s₁ mg mb G (fun b ob hb=>?_) a o pm cd doc dV kV ho hd hcd hD hmg hg args vals as' hpre hlay hrd hwl hlo
 have e1:as.map s₀.heap.get?=(K w.params).map fun p=>some p.2:=congrArg Prod.fst y
 rw [hl w.params,List.map_map] at e1
 have e2:s₀.heap.get? b=some ob:=List.map_inj_left.mp e1 (b,ob) (mem_look hb)
 exact L.keeps b ob e2
end L2
namespace K41
open PySem L2 Kk
set_option maxHeartbeats 0 in
theorem all_mk{l:PySem.W.OpenLaw}{w:World}{K:PySem.W.Frag}{h:Heap}{mg:Str→Option Value}{fa f1 f2 f3 f4 f5 f6 f7 f8 f9 f10 f11 f12 f13 f14 f15 f16 f17 f18 f19 f20 f21 f22 f23 f24 f25 f26:Addr}(X:K.In h)(G:h.Ns mainGlobals mg) (hfa:mg "law"=some (.ref fa))
  {od1 an1 od2 an2 od3 an3 od4 an4 od5 an5 od6 an6 od7 an7 od8 an8 od9 an9 od10 an10 od11 an11 od12 an12 od13 an13 od14 an14 od15 an15 od16 an16 od17 an17 od18 an18 od19 an19 od20 an20 od21 an21 od22 an22 od23 an23 od24 an24 od25 an25 od26 an26:Option Addr} {sl1 sl2 sl3 sl4 sl5 sl6 sl7 sl8 sl9 sl10 sl11 sl12 sl13 sl14 sl15 sl16 sl17 sl18 sl19 sl20 sl21 sl22 sl23 sl24 sl25 sl26:Array (Option Value)} {oc1 kV1 dc1 pm1 cd1 ct1 oc2 kV2 dc2 pm2 cd2 ct2 oc3 kV3 dc3 pm3 cd3 ct3 oc4 kV4 dc4 pm4 cd4 ct4 oc5 kV5 dc5 pm5 cd5 ct5 oc6 kV6 dc6 pm6 cd6 ct6 oc7 kV7 dc7 pm7 cd7 ct7 oc8 kV8 dc8 pm8 cd8 ct8 oc9 kV9 dc9 pm9 cd9 ct9 oc10 kV10 dc10 pm10 cd10 ct10 oc11 kV11 dc11 pm11 cd11 ct11 oc12 kV12 dc12 pm12 cd12 ct12 oc13 kV13 dc13 pm13 cd13 ct13 oc14 kV14 dc14 pm14 cd14 ct14 oc15 kV15 dc15 pm15 cd15 ct15 oc16 kV16 dc16 pm16 cd16 ct16 oc17 kV17 dc17 pm17 cd17 ct17 oc18 kV18 dc18 pm18 cd18 ct18 oc19 kV19 dc19 pm19 cd19 ct19 oc20 kV20 dc20 pm20 cd20 ct20 oc21 kV21 dc21 pm21 cd21 ct21 oc22 kV22 dc22 pm22 cd22 ct22 oc23 kV23 dc23 pm23 cd23 ct23 oc24 kV24 dc24 pm24 cd24 ct24 oc25 kV25 dc25 pm25 cd25 ct25 oc26 kV26 dc26 pm26 cd26 ct26:Value}
  {CF CW CM CN CT T T1 T3 ff fn fm fi:Addr} {odf anf odn ann odm anm odi ani dT dT1 dT3:Option Addr} {slf sln slm sli sT sT1 sT3:Array (Option Value)} {ocf kVf dcf pmf cdf ctf ocn kVn dcn pmn cdn ctn ocm kVm dcm pmm cdm ctm oci kVi dci pmi cdi cti oT oT1 oT3:Value} {nT nT1 nT3:Nat} {tk tk1' tk3:Tok}
  (a1:PySem.W.nsIn K mainGlobals "words_in"=some (some (.ref f1))) (l1:K.lookup f1=some ⟨oc1,od1,.func (PySem.W.fnOf "words_in" "words_in" (defArgs sWords) (defBody sWords) (defScope sWords) .none kV1 dc1 pm1 an1 cd1 ct1),sl1⟩) (c1:PySem.W.codeIn K cd1 "words_in"=true) (k1:PySem.W.keepIn K (.ref f1)=true)
  (a2:PySem.W.nsIn K mainGlobals "names_in"=some (some (.ref f2))) (l2:K.lookup f2=some ⟨oc2,od2,.func (PySem.W.fnOf "names_in" "names_in" (defArgs sNames) (defBody sNames) (defScope sNames) .none kV2 dc2 pm2 an2 cd2 ct2),sl2⟩) (c2:PySem.W.codeIn K cd2 "names_in"=true) (k2:PySem.W.keepIn K (.ref f2)=true)
  (a3:PySem.W.nsIn K mainGlobals "put"=some (some (.ref f3))) (l3:K.lookup f3=some ⟨oc3,od3,.func (PySem.W.fnOf "put" "put" (defArgs sPut) (defBody sPut) (defScope sPut) .none kV3 dc3 pm3 an3 cd3 ct3),sl3⟩) (c3:PySem.W.codeIn K cd3 "put"=true) (k3:PySem.W.keepIn K (.ref f3)=true)
  (a4:PySem.W.nsIn K mainGlobals "bounded"=some (some (.ref f4))) (l4:K.lookup f4=some ⟨oc4,od4,.func (PySem.W.fnOf "bounded" "bounded" (defArgs sBounded) (defBody sBounded) (defScope sBounded) .none kV4 dc4 pm4 an4 cd4 ct4),sl4⟩) (c4:PySem.W.codeIn K cd4 "bounded"=true) (k4:PySem.W.keepIn K (.ref f4)=true)
  (a5:PySem.W.nsIn K mainGlobals "told_kind"=some (some (.ref f5))) (l5:K.lookup f5=some ⟨oc5,od5,.func (PySem.W.fnOf "told_kind" "told_kind" (defArgs sToldKind) (defBody sToldKind) (defScope sToldKind) .none kV5 dc5 pm5 an5 cd5 ct5),sl5⟩) (c5:PySem.W.codeIn K cd5 "told_kind"=true) (k5:PySem.W.keepIn K (.ref f5)=true)
  (a6:PySem.W.nsIn K mainGlobals "take_opened"=some (some (.ref f6))) (l6:K.lookup f6=some ⟨oc6,od6,.func (PySem.W.fnOf "take_opened" "take_opened" (defArgs sTakeOpened) (defBody sTakeOpened) (defScope sTakeOpened) .none kV6 dc6 pm6 an6 cd6 ct6),sl6⟩) (c6:PySem.W.codeIn K cd6 "take_opened"=true) (k6:PySem.W.keepIn K (.ref f6)=true)
  (a7:PySem.W.nsIn K mainGlobals "add_once"=some (some (.ref f7))) (l7:K.lookup f7=some ⟨oc7,od7,.func (PySem.W.fnOf "add_once" "add_once" (defArgs sAddOnce) (defBody sAddOnce) (defScope sAddOnce) .none kV7 dc7 pm7 an7 cd7 ct7),sl7⟩) (c7:PySem.W.codeIn K cd7 "add_once"=true) (k7:PySem.W.keepIn K (.ref f7)=true)
  (a8:PySem.W.nsIn K mainGlobals "_law_cell"=some (some (.ref f8))) (l8:K.lookup f8=some ⟨oc8,od8,.func (PySem.W.fnOf "_law_cell" "_law_cell" (defArgs sCell) (defBody sCell) (defScope sCell) .none kV8 dc8 pm8 an8 cd8 ct8),sl8⟩) (c8:PySem.W.codeIn K cd8 "_law_cell"=true) (k8:PySem.W.keepIn K (.ref f8)=true)
  (a9:PySem.W.nsIn K mainGlobals "_law_word"=some (some (.ref f9))) (l9:K.lookup f9=some ⟨oc9,od9,.func (PySem.W.fnOf "_law_word" "_law_word" (defArgs sWordL) (defBody sWordL) (defScope sWordL) .none kV9 dc9 pm9 an9 cd9 ct9),sl9⟩) (c9:PySem.W.codeIn K cd9 "_law_word"=true) (k9:PySem.W.keepIn K (.ref f9)=true)
  (a10:PySem.W.nsIn K mainGlobals "_law_mix"=some (some (.ref f10))) (l10:K.lookup f10=some ⟨oc10,od10,.func (PySem.W.fnOf "_law_mix" "_law_mix" (defArgs sMix) (defBody sMix) (defScope sMix) .none kV10 dc10 pm10 an10 cd10 ct10),sl10⟩) (c10:PySem.W.codeIn K cd10 "_law_mix"=true) (k10:PySem.W.keepIn K (.ref f10)=true)
  (a11:PySem.W.nsIn K mainGlobals "_law_put"=some (some (.ref f11))) (l11:K.lookup f11=some ⟨oc11,od11,.func (PySem.W.fnOf "_law_put" "_law_put" (defArgs sPutL) (defBody sPutL) (defScope sPutL) .none kV11 dc11 pm11 an11 cd11 ct11),sl11⟩) (c11:PySem.W.codeIn K cd11 "_law_put"=true) (k11:PySem.W.keepIn K (.ref f11)=true)
  (a12:PySem.W.nsIn K mainGlobals "_law_alike"=some (some (.ref f12))) (l12:K.lookup f12=some ⟨oc12,od12,.func (PySem.W.fnOf "_law_alike" "_law_alike" (defArgs sAlike) (defBody sAlike) (defScope sAlike) .none kV12 dc12 pm12 an12 cd12 ct12),sl12⟩) (c12:PySem.W.codeIn K cd12 "_law_alike"=true) (k12:PySem.W.keepIn K (.ref f12)=true)
  (a13:PySem.W.nsIn K mainGlobals "_law_same"=some (some (.ref f13))) (l13:K.lookup f13=some ⟨oc13,od13,.func (PySem.W.fnOf "_law_same" "_law_same" (defArgs sSame) (defBody sSame) (defScope sSame) .none kV13 dc13 pm13 an13 cd13 ct13),sl13⟩) (c13:PySem.W.codeIn K cd13 "_law_same"=true) (k13:PySem.W.keepIn K (.ref f13)=true)
  (a14:PySem.W.nsIn K mainGlobals "_law_size"=some (some (.ref f14))) (l14:K.lookup f14=some ⟨oc14,od14,.func (PySem.W.fnOf "_law_size" "_law_size" (defArgs sSize) (defBody sSize) (defScope sSize) .none kV14 dc14 pm14 an14 cd14 ct14),sl14⟩) (c14:PySem.W.codeIn K cd14 "_law_size"=true) (k14:PySem.W.keepIn K (.ref f14)=true)
  (a15:PySem.W.nsIn K mainGlobals "_law_known"=some (some (.ref f15))) (l15:K.lookup f15=some ⟨oc15,od15,.func (PySem.W.fnOf "_law_known" "_law_known" (defArgs sKnown) (defBody sKnown) (defScope sKnown) .none kV15 dc15 pm15 an15 cd15 ct15),sl15⟩) (c15:PySem.W.codeIn K cd15 "_law_known"=true) (k15:PySem.W.keepIn K (.ref f15)=true)
  (a16:PySem.W.nsIn K mainGlobals "_law_kind"=some (some (.ref f16))) (l16:K.lookup f16=some ⟨oc16,od16,.func (PySem.W.fnOf "_law_kind" "_law_kind" (defArgs sKindL) (defBody sKindL) (defScope sKindL) .none kV16 dc16 pm16 an16 cd16 ct16),sl16⟩) (c16:PySem.W.codeIn K cd16 "_law_kind"=true) (k16:PySem.W.keepIn K (.ref f16)=true)
  (a17:PySem.W.nsIn K mainGlobals "_law_great"=some (some (.ref f17))) (l17:K.lookup f17=some ⟨oc17,od17,.func (PySem.W.fnOf "_law_great" "_law_great" (defArgs sGreat) (defBody sGreat) (defScope sGreat) .none kV17 dc17 pm17 an17 cd17 ct17),sl17⟩) (c17:PySem.W.codeIn K cd17 "_law_great"=true) (k17:PySem.W.keepIn K (.ref f17)=true)
  (a18:PySem.W.nsIn K mainGlobals "_law_clash"=some (some (.ref f18))) (l18:K.lookup f18=some ⟨oc18,od18,.func (PySem.W.fnOf "_law_clash" "_law_clash" (defArgs sClash) (defBody sClash) (defScope sClash) .none kV18 dc18 pm18 an18 cd18 ct18),sl18⟩) (c18:PySem.W.codeIn K cd18 "_law_clash"=true) (k18:PySem.W.keepIn K (.ref f18)=true)
  (a19:PySem.W.nsIn K mainGlobals "_law_late"=some (some (.ref f19))) (l19:K.lookup f19=some ⟨oc19,od19,.func (PySem.W.fnOf "_law_late" "_law_late" (defArgs sLate) (defBody sLate) (defScope sLate) .none kV19 dc19 pm19 an19 cd19 ct19),sl19⟩) (c19:PySem.W.codeIn K cd19 "_law_late"=true) (k19:PySem.W.keepIn K (.ref f19)=true)
  (a20:PySem.W.nsIn K mainGlobals "_law_wrong"=some (some (.ref f20))) (l20:K.lookup f20=some ⟨oc20,od20,.func (PySem.W.fnOf "_law_wrong" "_law_wrong" (defArgs sWrong) (defBody sWrong) (defScope sWrong) .none kV20 dc20 pm20 an20 cd20 ct20),sl20⟩) (c20:PySem.W.codeIn K cd20 "_law_wrong"=true) (k20:PySem.W.keepIn K (.ref f20)=true)
  (a21:PySem.W.nsIn K mainGlobals "_law_open"=some (some (.ref f21))) (l21:K.lookup f21=some ⟨oc21,od21,.func (PySem.W.fnOf "_law_open" "_law_open" (defArgs sOpenL) (defBody sOpenL) (defScope sOpenL) .none kV21 dc21 pm21 an21 cd21 ct21),sl21⟩) (c21:PySem.W.codeIn K cd21 "_law_open"=true) (k21:PySem.W.keepIn K (.ref f21)=true)
  (a22:PySem.W.nsIn K mainGlobals "_law_add"=some (some (.ref f22))) (l22:K.lookup f22=some ⟨oc22,od22,.func (PySem.W.fnOf "_law_add" "_law_add" (defArgs sAddL) (defBody sAddL) (defScope sAddL) .none kV22 dc22 pm22 an22 cd22 ct22),sl22⟩) (c22:PySem.W.codeIn K cd22 "_law_add"=true) (k22:PySem.W.keepIn K (.ref f22)=true)
  (a23:PySem.W.nsIn K mainGlobals "_law_items"=some (some (.ref f23))) (l23:K.lookup f23=some ⟨oc23,od23,.func (PySem.W.fnOf "_law_items" "_law_items" (defArgs sItems) (defBody sItems) (defScope sItems) .none kV23 dc23 pm23 an23 cd23 ct23),sl23⟩) (c23:PySem.W.codeIn K cd23 "_law_items"=true) (k23:PySem.W.keepIn K (.ref f23)=true)
  (a24:PySem.W.nsIn K mainGlobals "_law_asked"=some (some (.ref f24))) (l24:K.lookup f24=some ⟨oc24,od24,.func (PySem.W.fnOf "_law_asked" "_law_asked" (defArgs sAsked) (defBody sAsked) (defScope sAsked) .none kV24 dc24 pm24 an24 cd24 ct24),sl24⟩) (c24:PySem.W.codeIn K cd24 "_law_asked"=true) (k24:PySem.W.keepIn K (.ref f24)=true)
  (a25:PySem.W.nsIn K mainGlobals "_law_let_by"=some (some (.ref f25))) (l25:K.lookup f25=some ⟨oc25,od25,.func (PySem.W.fnOf "_law_let_by" "_law_let_by" (defArgs sLetBy) (defBody sLetBy) (defScope sLetBy) .none kV25 dc25 pm25 an25 cd25 ct25),sl25⟩) (c25:PySem.W.codeIn K cd25 "_law_let_by"=true) (k25:PySem.W.keepIn K (.ref f25)=true)
  (a26:PySem.W.nsIn K mainGlobals "law"=some (some (.ref f26))) (l26:K.lookup f26=some ⟨oc26,od26,.func (PySem.W.fnOf "law" "law" (defArgs sLaw) (defBody sLaw) (defScope sLaw) .none kV26 dc26 pm26 an26 cd26 ct26),sl26⟩) (c26:PySem.W.codeIn K cd26 "law"=true) (k26:PySem.W.keepIn K (.ref f26)=true)
  (aF:PySem.W.nsIn K mainGlobals "Face"=some (some (.ref CF)))
  (aW:PySem.W.nsIn K mainGlobals "Twice"=some (some (.ref CW)))
  (aM:PySem.W.nsIn K mainGlobals "NoName"=some (some (.ref CM)))
  (aN:PySem.W.nsIn K mainGlobals "NoKind"=some (some (.ref CN)))
  (aT:PySem.W.nsIn K mainGlobals "TooBig"=some (some (.ref CT)))
  (af:PySem.W.nsIn K mainGlobals "full_face"=some (some (.ref ff)))
  (lf:K.lookup ff=some ⟨ocf,odf,.func (PySem.W.fnOf "full_face" "full_face" (defArgs sFullFace) (defBody sFullFace) (defScope sFullFace) (.ref T) kVf dcf pmf anf cdf ctf),slf⟩)
  (cf:PySem.W.codeIn K cdf "full_face"=true)
  (kf:PySem.W.keepIn K (.ref ff)=true)
  (lT:K.lookup T=some ⟨oT,dT,.seq #[.int 40 tk] nT,sT⟩)
  (an:PySem.W.nsIn K mainGlobals "normal"=some (some (.ref fn)))
  (ln:K.lookup fn=some ⟨ocn,odn,.func (PySem.W.fnOf "normal" "normal" (defArgs sNormal) (defBody sNormal) (defScope sNormal) (.ref T1) kVn dcn pmn ann cdn ctn),sln⟩)
  (cn:PySem.W.codeIn K cdn "normal"=true)
  (kn:PySem.W.keepIn K (.ref fn)=true)
  (lT1:K.lookup T1=some ⟨oT1,dT1,.seq #[.int 40 tk1'] nT1,sT1⟩)
  (am:PySem.W.nsIn K mainGlobals "take_item"=some (some (.ref fm)))
  (lm:K.lookup fm=some ⟨ocm,odm,.func (PySem.W.fnOf "take_item" "take_item" (defArgs sTakeItem) (defBody sTakeItem) (defScope sTakeItem) (.ref T3) kVm dcm pmm anm cdm ctm),slm⟩)
  (cm:PySem.W.codeIn K cdm "take_item"=true)
  (km:PySem.W.keepIn K (.ref fm)=true)
  (lT3:K.lookup T3=some ⟨oT3,dT3,.seq #[.int 40 tk3] nT3,sT3⟩)
  (iF:PySem.W.findIn K (.ref CF) "__init__"=some (some (.ref fi)))
  (li:K.lookup fi=some ⟨oci,odi,.func (PySem.W.fnOf "__init__" "Face.__init__" (defArgs sInit) (defBody sInit) (defScope sInit) .none kVi dci pmi ani cdi cti),sli⟩)
  (ci:PySem.W.codeIn K cdi "Face.__init__"=true)
  (ki:PySem.W.keepIn K (.ref fi)=true)
  (tF:PySem.W.isFn K (.ref fi)=true)
  (mk:PySem.W.makesIn K CF=true)
  (kF:PySem.W.keepIn K (.ref CF)=true)
  (pg:PySem.W.plainGet K CF Str.empty=true)
  (hd:PySem.W.hasDictIn K CF=true)
  (po:PySem.W.plainOver K CF=true)
  (sa:PySem.W.findIn K (.ref CF) "__setattr__"=some (some (.builtin "object.__setattr__")))
  (nK:PySem.W.findIn K (.ref CF) "kinds"=some none)
  (nF:PySem.W.findIn K (.ref CF) "funs"=some none)
  (xW:PySem.W.excIn K CW bmVE "ValueError.__new__"=true)
  (xM:PySem.W.excIn K CM bmVE "ValueError.__new__"=true)
  (xN:PySem.W.excIn K CN bmVE "ValueError.__new__"=true)
  (xT:PySem.W.excIn K CT bmVE "ValueError.__new__"=true)
  (sp:PySem.W.specialIn K (.builtin "object.__class__") "__get__"=some (some (.builtin "getset_descriptor.__get__")))
  (clF:PySem.W.findIn K (.ref CF) "__class__"=some (some (.builtin "object.__class__")))
  (obF:PySem.W.mroIn K CF (.type "object")=some true)
  (j5:PySem.W.kitOne K (.ref CF) (.ref CF)=some true)
  (tk1:PySem.W.takesIn K (.builtin "object.__class__")=some true)
  (x00:PySem.W.exmOne K (.ref CW) (.ref CW)=some true)
  (x10:PySem.W.exmOne K (.ref CM) (.ref CW)=some false)
  (x11:PySem.W.exmOne K (.ref CM) (.ref CM)=some true)
  (x20:PySem.W.exmOne K (.ref CN) (.ref CW)=some false)
  (x21:PySem.W.exmOne K (.ref CN) (.ref CM)=some false)
  (x22:PySem.W.exmOne K (.ref CN) (.ref CN)=some true)
  (x30:PySem.W.exmOne K (.ref CT) (.ref CW)=some false)
  (x31:PySem.W.exmOne K (.ref CT) (.ref CM)=some false)
  (x32:PySem.W.exmOne K (.ref CT) (.ref CN)=some false)
  (x33:PySem.W.exmOne K (.ref CT) (.ref CT)=some true)
  (z1:PySem.W.nsIn K mainGlobals "len"=some none)
  (z2:PySem.W.nsIn K mainGlobals "list"=some none)
  (z3:PySem.W.nsIn K mainGlobals "range"=some none)
  (z4:PySem.W.nsIn K mainGlobals "dict"=some none)
  (z5:PySem.W.nsIn K mainGlobals "tuple"=some none)
  (z6:PySem.W.nsIn K mainGlobals "int"=some none)
  (z7:PySem.W.nsIn K mainGlobals "isinstance"=some none)
  (z8:PySem.W.nsIn K mainGlobals "str"=some none)
  (z9:PySem.W.nsIn K mainGlobals "bool"=some none)
  (z10:PySem.W.nsIn K mainGlobals "all"=some none)
  (z11:PySem.W.nsIn K mainGlobals "min"=some none) :
  ∃fd:FuncData,(∀(s:Shared) (v:Value),BindsTo s fd ⟨[v],[]⟩ [("_law_script",v)])∧∀base:Heap,K.In base→base.Ns mainGlobals mg→FnOk l.prog w K mg base CX0 67 fa fd ["_law_script"] (spLaw K):=by
 have e:=hfa.symm.trans (PySem.W.mg_of X G a26)
 cases e
 have F1:=fun_mk (st:=sWords) l1 c1 k1
 have F2:=fun_mk (st:=sNames) l2 c2 k2
 have F3:=fun_mk (st:=sPut) l3 c3 k3
 have F4:=fun_mk (st:=sBounded) l4 c4 k4
 have F5:=fun_mk (st:=sToldKind) l5 c5 k5
 have F6:=fun_mk (st:=sTakeOpened) l6 c6 k6
 have F7:=fun_mk (st:=sAddOnce) l7 c7 k7
 have F8:=fun_mk (st:=sCell) l8 c8 k8
 have F9:=fun_mk (st:=sWordL) l9 c9 k9
 have F10:=fun_mk (st:=sMix) l10 c10 k10
 have F11:=fun_mk (st:=sPutL) l11 c11 k11
 have F12:=fun_mk (st:=sAlike) l12 c12 k12
 have F13:=fun_mk (st:=sSame) l13 c13 k13
 have F14:=fun_mk (st:=sSize) l14 c14 k14
 have F15:=fun_mk (st:=sKnown) l15 c15 k15
 have F16:=fun_mk (st:=sKindL) l16 c16 k16
 have F17:=fun_mk (st:=sGreat) l17 c17 k17
 have F18:=fun_mk (st:=sClash) l18 c18 k18
 have F19:=fun_mk (st:=sLate) l19 c19 k19
 have F20:=fun_mk (st:=sWrong) l20 c20 k20
 have F21:=fun_mk (st:=sOpenL) l21 c21 k21
 have F22:=fun_mk (st:=sAddL) l22 c22 k22
 have F23:=fun_mk (st:=sItems) l23 c23 k23
 have F24:=fun_mk (st:=sAsked) l24 c24 k24
 have F25:=fun_mk (st:=sLetBy) l25 c25 k25
 have F26:=fun_mk (st:=sLaw) l26 c26 k26
 have b1:=F1.binds (ps:=["kind"]) fun _ _ _ _ _ _ us hl=>match us,hl with|[_],_=>rfl
 have b2:=F2.binds (ps:=["kind"]) fun _ _ _ _ _ _ us hl=>match us,hl with|[_],_=>rfl
 have b3:=F3.binds (ps:=["kind","given"]) fun _ _ _ _ _ _ us hl=>match us,hl with|[_,_],_=>rfl
 have b4:=F4.binds (ps:=["kind","most"]) fun _ _ _ _ _ _ us hl=>match us,hl with|[_,_],_=>rfl
 have b5:=F5.binds (ps:=["part","word","own","parts"]) fun _ _ _ _ _ _ us hl=>match us,hl with|[_,_,_,_],_=>rfl
 have b6:=F6.binds (ps:=["full","part","parts"]) fun _ _ _ _ _ _ us hl=>match us,hl with|[_,_,_],_=>rfl
 have b7:=F7.binds (ps:=["told","word","what"]) fun _ _ _ _ _ _ us hl=>match us,hl with|[_,_,_],_=>rfl
 have b8:=F8.binds (ps:=["_law_script","_law_k"]) fun _ _ _ _ _ _ us hl=>match us,hl with|[_,_],_=>rfl
 have b9:=F9.binds (ps:=["_law_cell_here","_law_k"]) fun _ _ _ _ _ _ us hl=>match us,hl with|[_,_],_=>rfl
 have b10:=F10.binds (ps:=["_law_cell_here","_law_leaves"]) fun _ _ _ _ _ _ us hl=>match us,hl with|[_,_],_=>rfl
 have b11:=F11.binds (ps:=["_law_kind_here","_law_given"]) fun _ _ _ _ _ _ us hl=>match us,hl with|[_,_],_=>rfl
 have b12:=F12.binds (ps:=["_law_found","_law_due"]) fun _ _ _ _ _ _ us hl=>match us,hl with|[_,_],_=>rfl
 have b13:=F13.binds (ps:=["_law_face","_law_kinds","_law_funs"]) fun _ _ _ _ _ _ us hl=>match us,hl with|[_,_,_],_=>rfl
 have b14:=F14.binds (ps:=["_law_kind_here"]) fun _ _ _ _ _ _ us hl=>match us,hl with|[_],_=>rfl
 have b15:=F15.binds (ps:=["_law_script","_law_k"]) fun _ _ _ _ _ _ us hl=>match us,hl with|[_,_],_=>rfl
 have b16:=F16.binds (ps:=["_law_cell_here","_law_got"]) fun _ _ _ _ _ _ us hl=>match us,hl with|[_,_],_=>rfl
 have b17:=F17.binds (ps:=["_law_count"]) fun _ _ _ _ _ _ us hl=>match us,hl with|[_],_=>rfl
 have b18:=F18.binds (ps:=["_law_cell_here","_law_word_here","_law_part","_law_got"]) fun _ _ _ _ _ _ us hl=>match us,hl with|[_,_,_,_],_=>rfl
 have b19:=F19.binds (ps:=["_law_cell_here","_law_words","_law_known_here","_law_got"]) fun _ _ _ _ _ _ us hl=>match us,hl with|[_,_,_,_],_=>rfl
 have b20:=F20.binds (ps:=["_law_cell_here","_law_words","_law_known_here","_law_got"]) fun _ _ _ _ _ _ us hl=>match us,hl with|[_,_,_,_],_=>rfl
 have b21:=F21.binds (ps:=["_law_row","_law_got"]) fun _ _ _ _ _ _ us hl=>match us,hl with|[_,_],_=>rfl
 have b22:=F22.binds (ps:=["_law_cell_here","_law_word_here","_law_fun","_law_got"]) fun _ _ _ _ _ _ us hl=>match us,hl with|[_,_,_,_],_=>rfl
 have b23:=F23.binds (ps:=["_law_script","_law_known_here"]) fun _ _ _ _ _ _ us hl=>match us,hl with|[_,_],_=>rfl
 have b24:=F24.binds (ps:=["_law_items_here","_law_parts","_law_most"]) fun _ _ _ _ _ _ us hl=>match us,hl with|[_,_,_],_=>rfl
 have b25:=F25.binds (ps:=["_law_got"]) fun _ _ _ _ _ _ us hl=>match us,hl with|[_],_=>rfl
 refine⟨PySem.W.fnOf "law" "law" (defArgs sLaw) (defBody sLaw) (defScope sLaw) .none kV26 dc26 pm26 an26 cd26 ct26,fun s v=>.of_eq rfl,fun base _ _=>?_⟩
 have FF:FunD K "full_face" "full_face" sFullFace (.ref T) ff (PySem.W.fnOf "full_face" "full_face" (defArgs sFullFace) (defBody sFullFace) (defScope sFullFace) (.ref T) kVf dcf pmf anf cdf ctf):=⟨⟨ocf,odf,kVf,dcf,pmf,anf,cdf,ctf,slf,rfl,lf,cf⟩,kf⟩
 have FNo:FunD K "normal" "normal" sNormal (.ref T1) fn (PySem.W.fnOf "normal" "normal" (defArgs sNormal) (defBody sNormal) (defScope sNormal) (.ref T1) kVn dcn pmn ann cdn ctn):=⟨⟨ocn,odn,kVn,dcn,pmn,ann,cdn,ctn,sln,rfl,ln,cn⟩,kn⟩
 have FM:FunD K "take_item" "take_item" sTakeItem (.ref T3) fm (PySem.W.fnOf "take_item" "take_item" (defArgs sTakeItem) (defBody sTakeItem) (defScope sTakeItem) (.ref T3) kVm dcm pmm anm cdm ctm):=⟨⟨ocm,odm,kVm,dcm,pmm,anm,cdm,ctm,slm,rfl,lm,cm⟩,km⟩
 have Fi:=fun_mk (st:=sInit) li ci ki
 have bI:=Fi.binds (ps:=["self","kinds","funs"]) fun _ _ _ _ _ _ us hl=>match us,hl with|[_,_,_],_=>rfl
 have MF:Mk K CF fi:=⟨mk,iF,tF,kF⟩
 have cF:Cls K CF:=⟨pg,hd,po,sa⟩
 have GWi:=ok_words (P:=l.prog) (w:=w) (base:=base) (mg:=mg) F1 (PySem.W.mg_none_of X G z1)
 have GNa:=ok_names (P:=l.prog) (w:=w) (base:=base) (mg:=mg) F2 (PySem.W.mg_none_of X G z1) (PySem.W.mg_none_of X G z2)
 have GP:=ok_put (P:=l.prog) (w:=w) (base:=base) (mg:=mg) F3 b3 k3 (PySem.W.mg_of X G a3) 40
 have GB:=ok_bounded (P:=l.prog) (w:=w) (base:=base) (mg:=mg) F4 GWi b1 k1 (PySem.W.mg_of X G a1) (PySem.W.mg_of X G aT) xT
 have GTK:=ok_toldKind (P:=l.prog) (w:=w) (base:=base) (mg:=mg) F5 cF nK (PySem.W.mg_of X G aN) xN
 have GNo:=ok_normal (P:=l.prog) (w:=w) (base:=base) (mg:=mg) FNo GNa b2 k2 (PySem.W.mg_of X G a2) GP b3 k3 (PySem.W.mg_of X G a3) GB b4 k4 (PySem.W.mg_of X G a4) GTK b5 k5 (PySem.W.mg_of X G a5)
 have GI:=ok_initF (P:=l.prog) (w:=w) (base:=base) (mg:=mg) Fi cF nK nF (PySem.W.mg_none_of X G z4)
 have GAo:=ok_add (P:=l.prog) (w:=w) (base:=base) (mg:=mg) F7 (PySem.W.mg_of X G aW) xW
 have GTo:=ok_takeOpened (P:=l.prog) (w:=w) (base:=base) (mg:=mg) (cl:=clOf CW CM CN CT) F6 GAo b7 k7 (PySem.W.mg_of X G a7) cF nK nF (PySem.W.mg_of X G aM) xM
 have GTi:=ok_takeItem (P:=l.prog) (w:=w) (base:=base) (mg:=mg) (cl:=clOf CW CM CN CT) FM GAo b7 k7 (PySem.W.mg_of X G a7) GNo (bindN4 FNo lT1) kn (PySem.W.mg_of X G an) GTo b6 k6 (PySem.W.mg_of X G a6) cF nK nF (PySem.W.mg_none_of X G z5)
 have GFu:=ok_full (P:=l.prog) (w:=w) (base:=base) (mg:=mg) FF GTi (bindT4 FM lT3) km (PySem.W.mg_of X G am) GI bI MF (PySem.W.mg_of X G aF)
 have GC:=ok_cellX (P:=l.prog) (w:=w) (base:=base) (mg:=mg) F8 (PySem.W.mg_none_of X G z1)
 have GW:=ok_wordL (P:=l.prog) (w:=w) (base:=base) (mg:=mg) F9 (PySem.W.mg_none_of X G z6) (PySem.W.mg_none_of X G z3)
 have GMx:=ok_mix (P:=l.prog) (w:=w) (base:=base) (mg:=mg) F10 (PySem.W.mg_none_of X G z1)
 have GPL:=ok_putL (P:=l.prog) (w:=w) (base:=base) (mg:=mg) F11 b11 k11 (PySem.W.mg_of X G a11) 3
 have GAl:=ok_alike (P:=l.prog) (w:=w) (base:=base) (mg:=mg) F12 b12 k12 (PySem.W.mg_of X G a12) (PySem.W.mg_none_of X G z7) (PySem.W.mg_none_of X G z8) (PySem.W.mg_none_of X G z5) (PySem.W.mg_none_of X G z6) (PySem.W.mg_none_of X G z9) (PySem.W.mg_none_of X G z1) (PySem.W.mg_none_of X G z3) (PySem.W.mg_none_of X G z10) 42
 have GSm:=ok_same (P:=l.prog) (w:=w) (base:=base) (mg:=mg) F13 GAl b12 k12 (PySem.W.mg_of X G a12) (PySem.W.mg_of X G aF) (PySem.W.mg_none_of X G z7) (PySem.W.mg_none_of X G z4) (PySem.W.mg_none_of X G z5) cF nK nF clF sp tk1 obF j5
 have GSz:=ok_size (P:=l.prog) (w:=w) (base:=base) (mg:=mg) F14 b14 k14 (PySem.W.mg_of X G a14) 63
 have GKn:=ok_known (P:=l.prog) (w:=w) (base:=base) (mg:=mg) F15 GC b8 k8 (PySem.W.mg_of X G a8) GW b9 k9 (PySem.W.mg_of X G a9) GMx b10 k10 (PySem.W.mg_of X G a10) (PySem.W.mg_none_of X G z3)
 have GKl:=ok_kindL (P:=l.prog) (w:=w) (base:=base) (mg:=mg) F16 GMx b10 k10 (PySem.W.mg_of X G a10) GPL b11 k11 (PySem.W.mg_of X G a11) GSz b14 k14 (PySem.W.mg_of X G a14)
 have GGr:=ok_great (P:=l.prog) (w:=w) (base:=base) (mg:=mg) F17 (PySem.W.mg_none_of X G z3)
 have GCl:=ok_clash (P:=l.prog) (w:=w) (base:=base) (mg:=mg) F18 (PySem.W.mg_none_of X G z1)
 have GWr:=ok_wrong (P:=l.prog) (w:=w) (base:=base) (mg:=mg) F20 GGr b17 k17 (PySem.W.mg_of X G a17) (PySem.W.mg_none_of X G z1)
 have GLa:=ok_late (P:=l.prog) (w:=w) (base:=base) (mg:=mg) F19 GWr b20 k20 (PySem.W.mg_of X G a20) GCl b18 k18 (PySem.W.mg_of X G a18) (PySem.W.mg_none_of X G z1)
 have GOp:=ok_openL (P:=l.prog) (w:=w) (base:=base) (mg:=mg) F21
 have GAd:=ok_addL (P:=l.prog) (w:=w) (base:=base) (mg:=mg) F22 GKl b16 k16 (PySem.W.mg_of X G a16) GPL b11 k11 (PySem.W.mg_of X G a11) (PySem.W.mg_none_of X G z5) (PySem.W.mg_none_of X G z3) (PySem.W.mg_none_of X G z1)
 have GIt:=ok_items (P:=l.prog) (w:=w) (base:=base) (mg:=mg) F23 GC b8 k8 (PySem.W.mg_of X G a8) GW b9 k9 (PySem.W.mg_of X G a9) GLa b19 k19 (PySem.W.mg_of X G a19) GOp b21 k21 (PySem.W.mg_of X G a21) GAd b22 k22 (PySem.W.mg_of X G a22) (PySem.W.mg_none_of X G z3) (PySem.W.mg_none_of X G z1) (PySem.W.mg_none_of X G z11)
 have GAk:=ok_asked (P:=l.prog) (w:=w) (base:=base) (mg:=mg) F24 FF lT GFu (bindF3 FF lT) kf (PySem.W.mg_of X G af) (PySem.W.mg_of X G aW) (PySem.W.mg_of X G aM) (PySem.W.mg_of X G aN) (PySem.W.mg_of X G aT) x00 x10 x11 x20 x21 x22 x30 x31 x32 x33
 have GLb:=ok_letBy (P:=l.prog) (w:=w) (base:=base) (mg:=mg) F25 (PySem.W.mg_none_of X G z5)
 exact ok_law F26 GKn b15 k15 (PySem.W.mg_of X G a15) GIt b23 k23 (PySem.W.mg_of X G a23) GI bI MF (PySem.W.mg_of X G aF) (PySem.W.mg_none_of X G z4) (PySem.W.mg_none_of X G z5) GSm b13 k13 (PySem.W.mg_of X G a13) GAk b24 k24 (PySem.W.mg_of X G a24) GLb b25 k25 (PySem.W.mg_of X G a25) (PySem.W.mg_none_of X G z10) (PySem.W.mg_none_of X G z6) cF nK nF
theorem walk{l:PySem.W.OpenLaw}{q:Program}{loose:List Str}{XP:(Str→Option Value)→Heap→Prop}{YP:World→Heap→Prop}{d:DefRec}{K:Params→PySem.W.Frag}(hn:l.most=some 63)(hdf:d.params.defaults=[])
  (hY:∀(w:World) (h:Heap),YP w h→(K w.params).In h)
  (F:∀(w:World) (mg:Str→Option Value) (fa:Addr) (h:Heap),(K w.params).In h→h.Ns mainGlobals mg→mg d.name=some (.ref fa) →
   ∃fd:FuncData,(∀(s:Shared) (u:Value),BindsTo s fd ⟨[u],[]⟩ [("_law_script",u)])∧∀base:Heap,(K w.params).In base→base.Ns mainGlobals mg→FnOk l.prog w (K w.params) mg base CX0 67 fa fd ["_law_script"] (spLaw (K w.params))) :
  PySem.W.WalkO q loose XP YP l.row.toRowW d [] (fun f vs=>PySem.call f vs) :=
 L2.walk_of (n:=63) (k:=67) (x:="_law_script") (CX:=fun _=>CX0) (sp:=fun w=>spLaw (K w.params)) hn (by decide) hdf ⟨rfl,by decide,by decide,rfl⟩ hY F (fun _ _ a ns hl _ hS=>⟨a,ns,rfl,hS,hl,fun _=>rfl⟩) fun _ _ _ _ _ z=>z
end K41
open PySem PySem.W PyProof.Rows
set_option maxRecDepth 100000 in
set_option maxHeartbeats 0 in
theorem PySem.Challenge.cw_sealhouse_k41_full_faces_holds : PySem.Challenge.rw_sealhouse_k41_full_faces.Holds := by
 w_on;o_law;z_head;(case hw=>w_witness2)
 k_fill
 refine L2.walk_z (fun _=>rfl) ?_
 refine K41.walk (l:=PySem.Challenge.rw_sealhouse_k41_full_faces) rfl rfl (fun w h Y=>Y) ?F
 case F =>
  intro w mg fa h KX G hmg
  refine' K41.all_mk KX G hmg ?a1 ?l1 ?c1 ?k1 ?a2 ?l2 ?c2 ?k2 ?a3 ?l3 ?c3 ?k3 ?a4 ?l4 ?c4 ?k4 ?a5 ?l5 ?c5 ?k5 ?a6 ?l6 ?c6 ?k6 ?a7 ?l7 ?c7 ?k7 ?a8 ?l8 ?c8 ?k8 ?a9 ?l9 ?c9 ?k9 ?a10 ?l10 ?c10 ?k10 ?a11 ?l11 ?c11 ?k11 ?a12 ?l12 ?c12 ?k12 ?a13 ?l13 ?c13 ?k13 ?a14 ?l14 ?c14 ?k14 ?a15 ?l15 ?c15 ?k15 ?a16 ?l16 ?c16 ?k16 ?a17 ?l17 ?c17 ?k17 ?a18 ?l18 ?c18 ?k18 ?a19 ?l19 ?c19 ?k19 ?a20 ?l20 ?c20 ?k20 ?a21 ?l21 ?c21 ?k21 ?a22 ?l22 ?c22 ?k22 ?a23 ?l23 ?c23 ?k23 ?a24 ?l24 ?c24 ?k24 ?a25 ?l25 ?c25 ?k25 ?a26 ?l26 ?c26 ?k26 ?aF ?aW ?aM ?aN ?aT ?af ?lf ?cf ?kf ?lT ?an ?ln ?cn ?kn ?lT1 ?am ?lm ?cm ?km ?lT3 ?iF ?li ?ci ?ki ?tF ?mk ?kF ?pg ?hd ?po ?sa ?nK ?nF ?xW ?xM ?xN ?xT ?sp ?clF ?obF ?j5 ?tk1 ?x00 ?x10 ?x11 ?x20 ?x21 ?x22 ?x30 ?x31 ?x32 ?x33 ?z1 ?z2 ?z3 ?z4 ?z5 ?z6 ?z7 ?z8 ?z9 ?z10 ?z11
  (case a1=>k_is)
  (case l1=>k_is)
  (case c1=>k_is)
  (case k1=>k_is)
  (case a2=>k_is)
  (case l2=>k_is)
  (case c2=>k_is)
  (case k2=>k_is)
  (case a3=>k_is)
  (case l3=>k_is)
  (case c3=>k_is)
  (case k3=>k_is)
  (case a4=>k_is)
  (case l4=>k_is)
  (case c4=>k_is)
  (case k4=>k_is)
  (case a5=>k_is)
  (case l5=>k_is)
  (case c5=>k_is)
  (case k5=>k_is)
  (case a6=>k_is)
  (case l6=>k_is)
  (case c6=>k_is)
  (case k6=>k_is)
  (case a7=>k_is)
  (case l7=>k_is)
  (case c7=>k_is)
  (case k7=>k_is)
  (case a8=>k_is)
  (case l8=>k_is)
  (case c8=>k_is)
  (case k8=>k_is)
  (case a9=>k_is)
  (case l9=>k_is)
  (case c9=>k_is)
  (case k9=>k_is)
  (case a10=>k_is)
  (case l10=>k_is)
  (case c10=>k_is)
  (case k10=>k_is)
  (case a11=>k_is)
  (case l11=>k_is)
  (case c11=>k_is)
  (case k11=>k_is)
  (case a12=>k_is)
  (case l12=>k_is)
  (case c12=>k_is)
  (case k12=>k_is)
  (case a13=>k_is)
  (case l13=>k_is)
  (case c13=>k_is)
  (case k13=>k_is)
  (case a14=>k_is)
  (case l14=>k_is)
  (case c14=>k_is)
  (case k14=>k_is)
  (case a15=>k_is)
  (case l15=>k_is)
  (case c15=>k_is)
  (case k15=>k_is)
  (case a16=>k_is)
  (case l16=>k_is)
  (case c16=>k_is)
  (case k16=>k_is)
  (case a17=>k_is)
  (case l17=>k_is)
  (case c17=>k_is)
  (case k17=>k_is)
  (case a18=>k_is)
  (case l18=>k_is)
  (case c18=>k_is)
  (case k18=>k_is)
  (case a19=>k_is)
  (case l19=>k_is)
  (case c19=>k_is)
  (case k19=>k_is)
  (case a20=>k_is)
  (case l20=>k_is)
  (case c20=>k_is)
  (case k20=>k_is)
  (case a21=>k_is)
  (case l21=>k_is)
  (case c21=>k_is)
  (case k21=>k_is)
  (case a22=>k_is)
  (case l22=>k_is)
  (case c22=>k_is)
  (case k22=>k_is)
  (case a23=>k_is)
  (case l23=>k_is)
  (case c23=>k_is)
  (case k23=>k_is)
  (case a24=>k_is)
  (case l24=>k_is)
  (case c24=>k_is)
  (case k24=>k_is)
  (case a25=>k_is)
  (case l25=>k_is)
  (case c25=>k_is)
  (case k25=>k_is)
  (case a26=>k_is)
  (case l26=>k_is)
  (case c26=>k_is)
  (case k26=>k_is)
  (case aF=>k_is)
  (case aW=>k_is)
  (case aM=>k_is)
  (case aN=>k_is)
  (case aT=>k_is)
  (case af=>k_is)
  (case lf=>k_is)
  (case cf=>k_is)
  (case kf=>k_is)
  (case lT=>k_is)
  (case an=>k_is)
  (case ln=>k_is)
  (case cn=>k_is)
  (case kn=>k_is)
  (case lT1=>k_is)
  (case am=>k_is)
  (case lm=>k_is)
  (case cm=>k_is)
  (case km=>k_is)
  (case lT3=>k_is)
  (case iF=>k_is)
  (case li=>k_is)
  (case ci=>k_is)
  (case ki=>k_is)
  (case tF=>k_is)
  (case mk=>k_is)
  (case kF=>k_is)
  (case pg=>k_is)
  (case hd=>k_is)
  (case po=>k_is)
  (case sa=>k_is)
  (case nK=>k_is)
  (case nF=>k_is)
  (case xW=>with_unfolding_all exact rfl)
  (case xM=>with_unfolding_all exact rfl)
  (case xN=>with_unfolding_all exact rfl)
  (case xT=>with_unfolding_all exact rfl)
  (case sp=>k_is)
  (case clF=>k_is)
  (case obF=>k_is)
  (case j5=>exact rfl)
  (case tk1=>k_is)
  (case x00=>exact rfl)
  (case x10=>exact rfl)
  (case x11=>exact rfl)
  (case x20=>exact rfl)
  (case x21=>exact rfl)
  (case x22=>exact rfl)
  (case x30=>exact rfl)
  (case x31=>exact rfl)
  (case x32=>exact rfl)
  (case x33=>exact rfl)
  (case z1=>k_is)
  (case z2=>k_is)
  (case z3=>k_is)
  (case z4=>k_is)
  (case z5=>k_is)
  (case z6=>k_is)
  (case z7=>k_is)
  (case z8=>k_is)
  (case z9=>k_is)
  (case z10=>k_is)
  (case z11=>k_is)
#print axioms PySem.Challenge.cw_sealhouse_k41_full_faces_holds
